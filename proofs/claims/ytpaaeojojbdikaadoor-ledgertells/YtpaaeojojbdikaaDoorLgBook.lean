/- The booker's charge and refund; Charge, Refund. -/
import Derived.Test.YtpaaeojojbdikaaDoorLgTold
import Derived.ScopeJumps
namespace Go.Proofs.YtpaaeojojbdikaaDoor
open Go.RowKit Go.Proofs.Cats Go.Proofs.Lgr Go.Shelf Go.Sort

/-- What is booked: the lines, or what is wrong. -/
def BookP (r : List Ln × Int) (w : World) (e : Ending) (w' : World) : Prop :=
  ((∃ va vc, e = .returned (.tuple #[.slice va r.1.length vc, .nilIface]) ∧ r.2 = 0 ∧ OwnL w.heap.size w' (.slice va r.1.length vc) r.1) ∨ (∃ s, e = .returned (.tuple #[.slice none 0 0, .iface 68 (.agg #[.int .i64 r.2, .string s])]) ∧ r.1 = [])) ∧ Below w.heap.size w w'
theorem charge_20 {zs : List Ln} {q n : Int} {a : Lab} (h : (rightL zs && a.right) = false) : chargeL zs q a n = ([], 20) := by
  unfold chargeL; rw [h]; rfl
theorem charge_70 {zs : List Ln} {q n : Int} {a : Lab} (h : (rightL zs && a.right) = true) (k : ¬ (0 ≤ q ∧ q ≤ 100000 ∧ 0 ≤ n ∧ n ≤ q - usedL zs a ∧ ¬ (usedL zs a = 0 ∧ 0 < n ∧ zs.length = 1000))) : chargeL zs q a n = ([], 70) := by
  unfold chargeL; rw [if_pos h, if_neg k]
theorem charge_0 {zs : List Ln} {q n : Int} {a : Lab} (h : (rightL zs && a.right) = true) (k : 0 ≤ q ∧ q ≤ 100000 ∧ 0 ≤ n ∧ n ≤ q - usedL zs a ∧ ¬ (usedL zs a = 0 ∧ 0 < n ∧ zs.length = 1000)) : chargeL zs q a n = (withL zs a (usedL zs a + n), 0) := by
  unfold chargeL; rw [if_pos h, if_pos k]
theorem refund_20 {zs : List Ln} {n : Int} {a : Lab} (h : (rightL zs && a.right) = false) : refundL zs a n = ([], 20) := by
  unfold refundL; rw [h]; rfl
theorem refund_70 {zs : List Ln} {n : Int} {a : Lab} (h : (rightL zs && a.right) = true) (k : ¬ (0 ≤ n ∧ n ≤ usedL zs a)) : refundL zs a n = ([], 70) := by
  unfold refundL; rw [if_pos h, if_neg k]
theorem refund_0 {zs : List Ln} {n : Int} {a : Lab} (h : (rightL zs && a.right) = true) (k : 0 ≤ n ∧ n ≤ usedL zs a) : refundL zs a n = (withL zs a (usedL zs a - n), 0) := by
  unfold refundL; rw [if_pos h, if_pos k]

/-- What holds at the way out. -/
def OutC (w : World) (r : List Ln × Int) (a : Act) (W : World) : Prop := ∃ (k : Int) (s : ByteArray) (u0 u1 u2 u3 u4 u5 u6 u7 u8 u10 u11 u12 u13 u14 u15 u16 u17 u18 u19 u20 u21 u22 u23 u24 u25 u26 u27 u28 u29 u30 u31 u32 u33 u34 u35 u36 u37 u38 u39 u40 u41 u42 u43 u44 u45 u46 u47 u48 u49 u50 u51 u52 u53 u54 u55 u56 u57 : Value), a = { tmps := #[u0, u1, u2, u3, u4, u5, u6, u7, u8, .iface 68 (.agg #[.int .i64 k, .string s]), u10, u11, u12, u13, u14, u15, u16, u17, u18, u19, u20, u21, u22, u23, u24, u25, u26, u27, u28, u29, u30, u31, u32, u33, u34, u35, u36, u37, u38, u39, u40, u41, u42, u43, u44, u45, u46, u47, u48, u49, u50, u51, u52, u53, u54, u55, u56, u57], defers := [] } ∧ (r = ([], k) ∧ k ≠ 0) ∧ Below w.heap.size w W

set_option maxRecDepth 100000 in
set_option maxHeartbeats 4000000 in
theorem bkCharge_any (a : Lab) (ha : a.fits) (q n : Int) (ao : Option Addr) (len cap : Nat) (zs : List Ln) (w : World) (hL : Lns w ao len cap zs) :
    Calls Tryd.prog 39 #[.agg #[.slice ao len cap, .int .i64 a.l, .int .u64 a.c, .int .i64 a.i], .int .i64 q, .int .i64 n] w (BookP (chargeL zs q a n) w) := by
  have hB := Below.new w (.cells #[.slice ao len cap, .int .i64 a.l, .int .u64 a.c, .int .i64 a.i] 60)
  have HL := Lib.hid (And.intro (hL.more hB) (And.intro hB (Bk.new w ao len cap a)))
  have hlen := hL.hlen
  have HLN := Lib.hid hlen
  clear hL hB hlen
  go_enter Tryd.func39, Tryd.ntmps39
  go_wp2
  refine wp_scope_jumps 0 (OutC w (chargeL zs q a n)) (fun _ _ => 0) rfl ?first ?pass
  case pass =>
    rintro act W ⟨k, s, u0, u1, u2, u3, u4, u5, u6, u7, u8, u10, u11, u12, u13, u14, u15, u16, u17, u18, u19, u20, u21, u22, u23, u24, u25, u26, u27, u28, u29, u30, u31, u32, u33, u34, u35, u36, u37, u38, u39, u40, u41, u42, u43, u44, u45, u46, u47, u48, u49, u50, u51, u52, u53, u54, u55, u56, u57, rfl, hr, hb⟩
    have HR := Lib.hid (And.intro hr hb)
    clear hr hb
    go_wp2
    refine bodyPost_ret (v := .tuple #[.slice none 0 0, .iface 68 (.agg #[.int .i64 k, .string s])]) (by simp [results, Tryd.results39, go_sem]) rfl ?_
    exact ⟨.inr ⟨s, by rw [HR.out.1.1], by rw [HR.out.1.1]⟩, HR.out.2⟩
  case first =>
    go_wp2_with (go_at_call 52; refine (bkJudge_any a ha ao len cap zs _ HL.out.1).mono ?_)
    rintro e w1 ⟨⟨hr, rfl⟩ | ⟨hr, s, rfl⟩, hb1⟩
    · obtain ⟨b0, b1, b2, b3⟩ := HL.out.2.2.more hb1
      have HB1 := Lib.hid (And.intro (below_more HL.out.2.1 hb1) (HL.out.1.more hb1))
      have hru := used_range (show rightL zs = true by rw [Bool.and_eq_true] at hr; exact hr.1) a
      have hln := ((rightL_iff zs).1 (show rightL zs = true by rw [Bool.and_eq_true] at hr; exact hr.1)).1
      rw [HLN.out] at hln
      have HR := Lib.hid hr
      have HU := Lib.hid (callsIn_wide.1 (used_in 3 (Nat.le_refl _) a ao len cap zs (by omega) w1 HB1.out.2))
      have hU0 : ∃ u, usedL zs a = u := ⟨_, rfl⟩
      have E70 := Lib.hid (fun k => charge_70 (q := q) (n := n) hr k)
      have E0 := Lib.hid (fun k => charge_0 (q := q) (n := n) hr k)
      obtain ⟨u, hu⟩ := hU0
      rw [hu] at hru HU E70 E0
      rw [HLN.out] at E70 E0
      clear hr hb1 hu
      by_cases q1 : q < 0
      · go_wp2
        apply wp_goto
        exact ⟨rfl, _, _, _, _, _, _, _, _, _, _, _, _, _, _, _, _, _, _, _, _, _, _, _, _, _, _, _, _, _, _, _, _, _, _, _, _, _, _, _, _, _, _, _, _, _, _, _, _, _, _, _, _, _, _, _, _, _, _, _, rfl, ⟨E70.out (by omega), by decide⟩, HB1.out.1⟩
      · by_cases q2 : q > 100000
        · go_wp2
          apply wp_goto
          exact ⟨rfl, _, _, _, _, _, _, _, _, _, _, _, _, _, _, _, _, _, _, _, _, _, _, _, _, _, _, _, _, _, _, _, _, _, _, _, _, _, _, _, _, _, _, _, _, _, _, _, _, _, _, _, _, _, _, _, _, _, _, _, rfl, ⟨E70.out (by omega), by decide⟩, HB1.out.1⟩
        · have hw1 : IntKind.i64.wrap (q - u) = q - u := by rw [IntKind.wrap_i64]; omega
          have hw2 : wrap64 (q - u) = q - u := by unfold wrap64; omega
          go_wp2_with (go_at_call 33; refine HU.out.mono ?_)
          rintro e w2 ⟨rfl, hb2⟩
          have HB2 := Lib.hid (And.intro (below_more HB1.out.1 hb2) (HB1.out.2.more hb2))
          obtain ⟨d0, d1, d2, d3⟩ := Bk.more ⟨b0, b1, b2, b3⟩ hb2
          clear hb2 b0 b1 b2 b3
          by_cases n1 : n < 0
          · go_wp2
            apply wp_goto
            exact ⟨rfl, _, _, _, _, _, _, _, _, _, _, _, _, _, _, _, _, _, _, _, _, _, _, _, _, _, _, _, _, _, _, _, _, _, _, _, _, _, _, _, _, _, _, _, _, _, _, _, _, _, _, _, _, _, _, _, _, _, _, _, rfl, ⟨E70.out (by omega), by decide⟩, HB2.out.1⟩
          · by_cases n2 : n > q - u
            · go_wp2
              apply wp_goto
              exact ⟨rfl, _, _, _, _, _, _, _, _, _, _, _, _, _, _, _, _, _, _, _, _, _, _, _, _, _, _, _, _, _, _, _, _, _, _, _, _, _, _, _, _, _, _, _, _, _, _, _, _, _, _, _, _, _, _, _, _, _, _, _, rfl, ⟨E70.out (by omega), by decide⟩, HB2.out.1⟩
            · by_cases u0 : u = 0
              · subst u0
                simp only [Int.zero_add, Int.sub_zero, true_and] at E0 E70 n2
                have hwq : IntKind.i64.wrap q = q := by rw [IntKind.wrap_i64]; omega
                have hwr : wrap64 q = q := by unfold wrap64; omega
                clear hw1 hw2
                by_cases n3 : n > 0
                · by_cases l3 : len = 1000
                  · have k1 : (((len : Nat) : Int) == 1000) = true := by simp; omega
                    go_wp2
                    apply wp_goto
                    exact ⟨rfl, _, _, _, _, _, _, _, _, _, _, _, _, _, _, _, _, _, _, _, _, _, _, _, _, _, _, _, _, _, _, _, _, _, _, _, _, _, _, _, _, _, _, _, _, _, _, _, _, _, _, _, _, _, _, _, _, _, _, _, rfl, ⟨E70.out (by omega), by decide⟩, HB2.out.1⟩
                  · have k1 : (((len : Nat) : Int) == 1000) = false := by simp; omega
                    have hw3 : IntKind.i64.wrap (n) = n := by rw [IntKind.wrap_i64]; omega
                    have hw4 : wrap64 (n) = n := by unfold wrap64; omega
                    go_wp2_with (go_at_call 53; refine (with_any a ha (n) ao len cap zs hln w2 HB2.out.2).mono ?_)
                    rintro e w3 ⟨va, vc, rfl, hO, hb3⟩
                    have hsz := HB2.out.1.size
                    have HO := Lib.hid (And.intro (hO.mono hsz) (below_more HB2.out.1 hb3))
                    clear hO hb3
                    go_wp2
                    refine bodyPost_ret (v := .tuple #[.slice va (withL zs a (n)).length vc, .nilIface]) (by simp [results, Tryd.results39, go_sem]) rfl ?_
                    exact ⟨.inl ⟨va, vc, by rw [E0.out ⟨by omega, by omega, by omega, by omega, by omega⟩], by rw [E0.out ⟨by omega, by omega, by omega, by omega, by omega⟩], by rw [E0.out ⟨by omega, by omega, by omega, by omega, by omega⟩]; exact HO.out.1⟩, HO.out.2⟩
                · have k2 : decide (n > 0) = false := decide_eq_false n3
                  have hw3 : IntKind.i64.wrap (n) = n := by rw [IntKind.wrap_i64]; omega
                  have hw4 : wrap64 (n) = n := by unfold wrap64; omega
                  go_wp2_with (go_at_call 53; refine (with_any a ha (n) ao len cap zs hln w2 HB2.out.2).mono ?_)
                  rintro e w3 ⟨va, vc, rfl, hO, hb3⟩
                  have hsz := HB2.out.1.size
                  have HO := Lib.hid (And.intro (hO.mono hsz) (below_more HB2.out.1 hb3))
                  clear hO hb3
                  go_wp2
                  refine bodyPost_ret (v := .tuple #[.slice va (withL zs a (n)).length vc, .nilIface]) (by simp [results, Tryd.results39, go_sem]) rfl ?_
                  exact ⟨.inl ⟨va, vc, by rw [E0.out ⟨by omega, by omega, by omega, by omega, by omega⟩], by rw [E0.out ⟨by omega, by omega, by omega, by omega, by omega⟩], by rw [E0.out ⟨by omega, by omega, by omega, by omega, by omega⟩]; exact HO.out.1⟩, HO.out.2⟩
              · have k0 : (u == 0) = false := by simp [u0]
                have hw3 : IntKind.i64.wrap (u + n) = u + n := by rw [IntKind.wrap_i64]; omega
                have hw4 : wrap64 (u + n) = u + n := by unfold wrap64; omega
                go_wp2_with (go_at_call 53; refine (with_any a ha (u + n) ao len cap zs hln w2 HB2.out.2).mono ?_)
                rintro e w3 ⟨va, vc, rfl, hO, hb3⟩
                have hsz := HB2.out.1.size
                have HO := Lib.hid (And.intro (hO.mono hsz) (below_more HB2.out.1 hb3))
                clear hO hb3
                go_wp2
                refine bodyPost_ret (v := .tuple #[.slice va (withL zs a (u + n)).length vc, .nilIface]) (by simp [results, Tryd.results39, go_sem]) rfl ?_
                exact ⟨.inl ⟨va, vc, by rw [E0.out ⟨by omega, by omega, by omega, by omega, by omega⟩], by rw [E0.out ⟨by omega, by omega, by omega, by omega, by omega⟩], by rw [E0.out ⟨by omega, by omega, by omega, by omega, by omega⟩]; exact HO.out.1⟩, HO.out.2⟩
    · have HB1 := Lib.hid (below_more HL.out.2.1 hb1)
      have HR := Lib.hid hr
      clear hr hb1
      rw [flt]
      go_wp2
      apply wp_goto
      exact ⟨rfl, _, _, _, _, _, _, _, _, _, _, _, _, _, _, _, _, _, _, _, _, _, _, _, _, _, _, _, _, _, _, _, _, _, _, _, _, _, _, _, _, _, _, _, _, _, _, _, _, _, _, _, _, _, _, _, _, _, _, _, rfl, ⟨charge_20 HR.out, by decide⟩, HB1.out⟩

/-- What holds at the way out. -/
def OutR (w : World) (r : List Ln × Int) (a : Act) (W : World) : Prop := ∃ (k : Int) (s : ByteArray) (u0 u1 u2 u3 u4 u5 u6 u8 u9 u10 u11 u12 u13 u14 u15 u16 u17 u18 u19 u20 u21 u22 u23 u24 u25 u26 u27 u28 u29 u30 u31 : Value), a = { tmps := #[u0, u1, u2, u3, u4, u5, u6, .iface 68 (.agg #[.int .i64 k, .string s]), u8, u9, u10, u11, u12, u13, u14, u15, u16, u17, u18, u19, u20, u21, u22, u23, u24, u25, u26, u27, u28, u29, u30, u31], defers := [] } ∧ (r = ([], k) ∧ k ≠ 0) ∧ Below w.heap.size w W

set_option maxRecDepth 100000 in
set_option maxHeartbeats 4000000 in
theorem bkRefund_any (a : Lab) (ha : a.fits) (n : Int) (ao : Option Addr) (len cap : Nat) (zs : List Ln) (w : World) (hL : Lns w ao len cap zs) :
    Calls Tryd.prog 42 #[.agg #[.slice ao len cap, .int .i64 a.l, .int .u64 a.c, .int .i64 a.i], .int .i64 n] w (BookP (refundL zs a n) w) := by
  have hB := Below.new w (.cells #[.slice ao len cap, .int .i64 a.l, .int .u64 a.c, .int .i64 a.i] 60)
  have HL := Lib.hid (And.intro (hL.more hB) (And.intro hB (Bk.new w ao len cap a)))
  have hlen := hL.hlen
  have HLN := Lib.hid hlen
  clear hL hB hlen
  go_enter Tryd.func42, Tryd.ntmps42
  go_wp2
  refine wp_scope_jumps 0 (OutR w (refundL zs a n)) (fun _ _ => 0) rfl ?first ?pass
  case pass =>
    rintro act W ⟨k, s, u0, u1, u2, u3, u4, u5, u6, u8, u9, u10, u11, u12, u13, u14, u15, u16, u17, u18, u19, u20, u21, u22, u23, u24, u25, u26, u27, u28, u29, u30, u31, rfl, hr, hb⟩
    have HR := Lib.hid (And.intro hr hb)
    clear hr hb
    go_wp2
    refine bodyPost_ret (v := .tuple #[.slice none 0 0, .iface 68 (.agg #[.int .i64 k, .string s])]) (by simp [results, Tryd.results42, go_sem]) rfl ?_
    exact ⟨.inr ⟨s, by rw [HR.out.1.1], by rw [HR.out.1.1]⟩, HR.out.2⟩
  case first =>
    go_wp2_with (go_at_call 52; refine (bkJudge_any a ha ao len cap zs _ HL.out.1).mono ?_)
    rintro e w1 ⟨⟨hr, rfl⟩ | ⟨hr, s, rfl⟩, hb1⟩
    · obtain ⟨b0, b1, b2, b3⟩ := HL.out.2.2.more hb1
      have HB1 := Lib.hid (And.intro (below_more HL.out.2.1 hb1) (HL.out.1.more hb1))
      have hru := used_range (show rightL zs = true by rw [Bool.and_eq_true] at hr; exact hr.1) a
      have hln := ((rightL_iff zs).1 (show rightL zs = true by rw [Bool.and_eq_true] at hr; exact hr.1)).1
      rw [HLN.out] at hln
      have HR := Lib.hid hr
      have HU := Lib.hid (callsIn_wide.1 (used_in 3 (Nat.le_refl _) a ao len cap zs (by omega) w1 HB1.out.2))
      have hU0 : ∃ u, usedL zs a = u := ⟨_, rfl⟩
      have E70 := Lib.hid (fun k => refund_70 (n := n) hr k)
      have E0 := Lib.hid (fun k => refund_0 (n := n) hr k)
      obtain ⟨u, hu⟩ := hU0
      rw [hu] at hru HU E70 E0
      have _hx := HLN
      clear hr hb1 hu
      go_wp2_with (go_at_call 33; refine HU.out.mono ?_)
      rintro e w2 ⟨rfl, hb2⟩
      have HB2 := Lib.hid (And.intro (below_more HB1.out.1 hb2) (HB1.out.2.more hb2))
      obtain ⟨d0, d1, d2, d3⟩ := Bk.more ⟨b0, b1, b2, b3⟩ hb2
      clear hb2 b0 b1 b2 b3
      by_cases n1 : n < 0
      · go_wp2
        apply wp_goto
        exact ⟨rfl, _, _, _, _, _, _, _, _, _, _, _, _, _, _, _, _, _, _, _, _, _, _, _, _, _, _, _, _, _, _, _, _, _, rfl, ⟨E70.out (by omega), by decide⟩, HB2.out.1⟩
      · by_cases n2 : n > u
        · go_wp2
          apply wp_goto
          exact ⟨rfl, _, _, _, _, _, _, _, _, _, _, _, _, _, _, _, _, _, _, _, _, _, _, _, _, _, _, _, _, _, _, _, _, _, rfl, ⟨E70.out (by omega), by decide⟩, HB2.out.1⟩
        · have hw5 : u - n ≤ 100000 := by omega
          have hw3 : IntKind.i64.wrap (u - n) = u - n := by rw [IntKind.wrap_i64]; omega
          have hw4 : wrap64 (u - n) = u - n := by unfold wrap64; omega
          go_wp2_with (go_at_call 53; refine (with_any a ha (u - n) ao len cap zs hln w2 HB2.out.2).mono ?_)
          rintro e w3 ⟨va, vc, rfl, hO, hb3⟩
          have hsz := HB2.out.1.size
          have HO := Lib.hid (And.intro (hO.mono hsz) (below_more HB2.out.1 hb3))
          clear hO hb3
          go_wp2
          refine bodyPost_ret (v := .tuple #[.slice va (withL zs a (u - n)).length vc, .nilIface]) (by simp [results, Tryd.results42, go_sem]) rfl ?_
          exact ⟨.inl ⟨va, vc, by rw [E0.out ⟨by omega, by omega⟩], by rw [E0.out ⟨by omega, by omega⟩], by rw [E0.out ⟨by omega, by omega⟩]; exact HO.out.1⟩, HO.out.2⟩
    · have HB1 := Lib.hid (below_more HL.out.2.1 hb1)
      have HR := Lib.hid hr
      clear hr hb1
      rw [flt]
      go_wp2
      apply wp_goto
      exact ⟨rfl, _, _, _, _, _, _, _, _, _, _, _, _, _, _, _, _, _, _, _, _, _, _, _, _, _, _, _, _, _, _, _, _, _, rfl, ⟨refund_20 HR.out, by decide⟩, HB1.out⟩

/-- What Charge, Refund tell. -/
def TopP (r : List Ln × Int) (w : World) (e : Ending) (w' : World) : Prop :=
  ∃ va vc, e = .returned (.tuple #[.slice va r.1.length vc, .int .i64 r.2]) ∧ OwnL w.heap.size w' (.slice va r.1.length vc) r.1 ∧ Below w.heap.size w w'
theorem ownL_more {n0 : Nat} {A B : World} {v : Value} {l : List Ln} (h : OwnL n0 A v l) (k : Below A.heap.size A B) : OwnL n0 B v l := by
  refine ⟨h.1, ?_⟩
  rcases h.2 with ⟨e, h0⟩ | ⟨g, cap, cur, e, hb, hg, rest⟩
  · exact .inl ⟨e, h0⟩
  · exact .inr ⟨g, cap, cur, e, hb, (k.block g (Array.getElem?_eq_some_iff.1 hg).1).trans hg, rest⟩

set_option maxRecDepth 100000 in
set_option maxHeartbeats 2000000 in
theorem Charge_any (a : Lab) (ha : a.fits) (q n : Int) (ao : Option Addr) (len cap : Nat) (zs : List Ln) (w : World) (hL : Lns w ao len cap zs) (hg : ErrT w) :
    Calls Tryd.prog 23 #[.slice ao len cap, .int .i64 q, .agg #[.int .i64 a.l, .int .u64 a.c, .int .i64 a.i], .int .i64 n] w (TopP (chargeL zs q a n) w) := by
  have hB := Below.new w (.cells #[.int .i64 a.l, .int .u64 a.c, .int .i64 a.i] 25)
  have HL := Lib.hid (And.intro (hL.more hB) (And.intro hB (hg.more hB)))
  clear hL hB hg
  go_enter Tryd.func23, Tryd.ntmps23
  go_wp2_with (go_at_call 39; refine (bkCharge_any a ha q n ao len cap zs _ HL.out.1).mono ?_)
  rintro e w1 ⟨⟨va, vc, rfl, h0, hO⟩ | ⟨s, rfl, h0⟩, hb1⟩
  · have hsz := HL.out.2.1.size
    have HO := Lib.hid (And.intro (hO.mono hsz) (And.intro h0 (below_more HL.out.2.1 hb1)))
    clear hO hb1 h0
    go_wp2_with (go_at_call 40; refine (told_nil _).mono ?_)
    rintro e w2 ⟨rfl, hb2⟩
    have HB2 := Lib.hid (And.intro (below_more HO.out.2.2 hb2) (ownL_more HO.out.1 hb2))
    clear hb2
    go_wp2
    refine bodyPost_ret (v := .tuple #[.slice va (chargeL zs q a n).1.length vc, .int .i64 0]) (by simp [results, Tryd.results23, go_sem]) rfl ?_
    exact ⟨va, vc, by rw [HO.out.2.1], HB2.out.2, HB2.out.1⟩
  · have HO := Lib.hid (And.intro h0 (And.intro (below_more HL.out.2.1 hb1) (HL.out.2.2.more hb1)))
    clear hb1 h0
    go_wp2_with (go_at_call 40; refine (told_flt _ s _ HO.out.2.2).mono ?_)
    rintro e w2 ⟨rfl, hb2⟩
    have HB2 := Lib.hid (below_more HO.out.2.1 hb2)
    clear hb2
    go_wp2
    refine bodyPost_ret (v := .tuple #[.slice none 0 0, .int .i64 (chargeL zs q a n).2]) (by simp [results, Tryd.results23, go_sem]) rfl ?_
    exact ⟨none, 0, by rw [HO.out.1]; rfl, by rw [HO.out.1]; exact OwnL.nil _ _, HB2.out⟩

set_option maxRecDepth 100000 in
set_option maxHeartbeats 2000000 in
theorem Refund_any (a : Lab) (ha : a.fits) (n : Int) (ao : Option Addr) (len cap : Nat) (zs : List Ln) (w : World) (hL : Lns w ao len cap zs) (hg : ErrT w) :
    Calls Tryd.prog 25 #[.slice ao len cap, .agg #[.int .i64 a.l, .int .u64 a.c, .int .i64 a.i], .int .i64 n] w (TopP (refundL zs a n) w) := by
  have hB := Below.new w (.cells #[.int .i64 a.l, .int .u64 a.c, .int .i64 a.i] 25)
  have HL := Lib.hid (And.intro (hL.more hB) (And.intro hB (hg.more hB)))
  clear hL hB hg
  go_enter Tryd.func25, Tryd.ntmps25
  go_wp2_with (go_at_call 42; refine (bkRefund_any a ha n ao len cap zs _ HL.out.1).mono ?_)
  rintro e w1 ⟨⟨va, vc, rfl, h0, hO⟩ | ⟨s, rfl, h0⟩, hb1⟩
  · have hsz := HL.out.2.1.size
    have HO := Lib.hid (And.intro (hO.mono hsz) (And.intro h0 (below_more HL.out.2.1 hb1)))
    clear hO hb1 h0
    go_wp2_with (go_at_call 40; refine (told_nil _).mono ?_)
    rintro e w2 ⟨rfl, hb2⟩
    have HB2 := Lib.hid (And.intro (below_more HO.out.2.2 hb2) (ownL_more HO.out.1 hb2))
    clear hb2
    go_wp2
    refine bodyPost_ret (v := .tuple #[.slice va (refundL zs a n).1.length vc, .int .i64 0]) (by simp [results, Tryd.results25, go_sem]) rfl ?_
    exact ⟨va, vc, by rw [HO.out.2.1], HB2.out.2, HB2.out.1⟩
  · have HO := Lib.hid (And.intro h0 (And.intro (below_more HL.out.2.1 hb1) (HL.out.2.2.more hb1)))
    clear hb1 h0
    go_wp2_with (go_at_call 40; refine (told_flt _ s _ HO.out.2.2).mono ?_)
    rintro e w2 ⟨rfl, hb2⟩
    have HB2 := Lib.hid (below_more HO.out.2.1 hb2)
    clear hb2
    go_wp2
    refine bodyPost_ret (v := .tuple #[.slice none 0 0, .int .i64 (refundL zs a n).2]) (by simp [results, Tryd.results25, go_sem]) rfl ?_
    exact ⟨none, 0, by rw [HO.out.1]; rfl, by rw [HO.out.1]; exact OwnL.nil _ _, HB2.out⟩

end Go.Proofs.YtpaaeojojbdikaaDoor
