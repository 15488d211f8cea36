/- The document's Give, All, Same. -/
import Derived.Test.YtjfooblnpkckfaaDoorSlRef3
namespace Go.Proofs.YtjfooblnpkckfaaDoor
open Go.RowKit Go.Proofs.Slt Go.Shelf

/-- What the document's Live, Give tell and leave. -/
def RLiveP (st : St) (h : IH) (w : World) (e : Ending) (w' : World) : Prop := e = .returned (.bool (liveR st h)) ∧ Below w.heap.size w w'
def RGiveP (n0 : Nat) (q : Pr) (st : St) (h : IH) (w : World) (e : Ending) (w' : World) : Prop := e = .returned (.int .i64 (giveE st h)) ∧ Rf n0 w' q (giveS st h) ∧ q.Fr w w'
theorem RLive_p (n0 : Nat) (q : Pr) (st : St) (a b : Int) (w : World) (h : Rf n0 w q st) : Calls Tryd.prog 15 #[.pointer (some ⟨q.R, 0, none⟩), .agg #[.int .i64 a, .int .i64 b]] w (RLiveP st (a, b) w) := RLive_any n0 q st a b w h

set_option maxRecDepth 100000 in
set_option maxHeartbeats 2000000 in
theorem RGive_any (n0 : Nat) (q : Pr) (st : St) (a b : Int) (w : World) (h : Rf n0 w q st) : Calls Tryd.prog 17 #[.pointer (some ⟨q.R, 0, none⟩), .agg #[.int .i64 a, .int .i64 b]] w (RGiveP n0 q st (a, b) w) := by
  have hb := Below.new w (.cells #[.int .i64 a, .int .i64 b] 32)
  obtain ⟨r0, r1, _, _⟩ := new_cells2 w (.int .i64 a) (.int .i64 b) 32
  have HH := Lib.hid (And.intro (h.more hb) hb)
  have HR := Lib.hid (And.intro r0 r1)
  have h64 := h.few
  clear h hb
  obtain ⟨x, hl⟩ : ∃ x, liveR st (a, b) = x := ⟨_, rfl⟩
  have HL := Lib.hid hl
  clear hl r0 r1
  go_enter Tryd.func17, Tryd.ntmps17
  go_wp2_with (go_at_call 15; refine (RLive_p n0 q st a b _ HH.out.1).mono ?_)
  rintro e w1 ⟨he, hb1⟩
  rw [HL.out] at he
  subst he
  have H1 := Lib.hid (HH.out.1.more hb1)
  have HB1 := Lib.hid (below_more HH.out.2 hb1)
  have d0 := cell_later hb1 HR.out.1
  clear hb1
  cases x with
  | false =>
    go_wp2
    go_ret
    refine ⟨by rw [giveE, HL.out]; rfl, ?_, Fr.of_below HB1.out⟩
    rw [giveS, HL.out]
    exact H1.out
  | true =>
    obtain ⟨i, g, e, hs⟩ := (liveR_iff _ _).1 HL.out
    cases e
    have c1 := H1.out.c1
    have cf := H1.out.free hs
    have zf := H1.out.zF i
    simp only [Bool.not_true] at cf
    have hil := (List.getElem?_eq_some_iff.1 hs).1
    have HS := Lib.hid (H1.out.setF hs false)
    have HGS := Lib.hid (giveS_eq (h := ((i : Int), (g : Int))) rfl hs)
    obtain ⟨n, hn⟩ : ∃ n, st.length = n := ⟨_, rfl⟩
    rw [hn] at c1 hil h64
    clear hs hn
    go_wp2_with fail
    go_region
    all_goals (
      go_wp2
      go_ret
      refine ⟨by rw [giveE, HL.out]; rfl, ?_, ?_⟩
      · rw [HGS.out]
        exact HS.out.more ((Below.refl _ _).drew)
      · exact Fr.drew (Fr.trans (Fr.of_below HB1.out) (Fr.set _ ⟨q.F, i, none⟩ _ (.inr (.inr rfl)))))

set_option maxRecDepth 100000 in
set_option maxHeartbeats 2000000 in
theorem RAll_any (n0 : Nat) (q : Pr) (st : St) (w : World) (h : Rf n0 w q st) : Calls Tryd.prog 18 #[.pointer (some ⟨q.R, 0, none⟩)] w (AllPost st w) := by
  obtain ⟨i0, hi0, hz0, hz1, hz2⟩ := info_parts infoH
  have h64 := h.few
  obtain ⟨n, hn⟩ : ∃ n, st.length = n := ⟨_, rfl⟩
  rw [hn] at h64
  have HH := Lib.hid h
  have HN := Lib.hid hn
  clear h hn
  go_enter Tryd.func18, Tryd.ntmps18
  go_wp2
  go_loopw [3, 4] (fun v i wr => ∃ k : Nat, k ≤ n ∧ i = .int .i64 k ∧ Hid (Hs w.heap.size wr v (lv st k) ∧ Below w.heap.size w wr)) (fun _ i _ => n - (intOf i).toNat)
  case atStart => exact ⟨0, by omega, rfl, World.ownsRow_nil _ _ _ _, Below.refl _ _⟩
  case round =>
    obtain ⟨k, hk, rfl, HX⟩ := hrel
    have hR := HH.out.more HX.out.2
    have c0 := hR.c0
    have c1 := hR.c1
    rw [HN.out] at c0 c1
    obtain ⟨va, vc, rfl⟩ := HX.out.1.slice
    have hsz := HX.out.2.size
    obtain ⟨ll, hll⟩ : ∃ ll, (lv st k).length = ll := ⟨_, rfl⟩
    have hll2 : ll ≤ 64 := by have h1 := (lv_prefix st k).length_le; have h2 := allR_le st; rw [HN.out] at h2; rw [hll] at h1; omega
    have HLL := Lib.hid hll
    rw [hll] at HX
    rw [hll]
    clear hll
    by_cases hlt : k < n
    · obtain ⟨⟨g, b⟩, hj⟩ : ∃ x, st[k]? = some x := ⟨_, List.getElem?_eq_getElem (by rw [HN.out]; exact hlt)⟩
      have d0 := hR.gen hj
      have d1 := hR.free hj
      have HS := Lib.hid (lv_succ hj)
      clear hj hR
      cases b with
      | false =>
        simp only [Bool.not_false] at d1
        go_wp2
        go_roundw
        case rel => exact ⟨k + 1, by omega, by simp, by rw [HS.out]; simpa [HLL.out] using HX.out.1, HX.out.2⟩
        case measure => simp [intOf]; omega
      | true =>
        simp only [Bool.not_true] at d1
        have HNW := Lib.hid (h_new wr (k, g))
        have hrow : (wr.alloc (.cells #[.int .i64 k, .int .i64 g] 32)).ownsRow w.heap.size 32 2 (.slice va ll vc) ll (hcl (lv st k)) := by have := HX.out.1.alloc (.cells #[.int .i64 k, .int .i64 g] 32); rw [HLL.out] at this; exact this
        have HW := Lib.hid HX.out.1
        go_wp2_with (at_builtin; go_loud (refine wpList_append_own _ rfl _ _ 39 rfl w.heap.size 32 i0 (.agg #[.int .i64 0, .int .i64 0]) 2 16 Tryd.underlying39 hi0 hz0 hz1 hz2 rfl (by decide) (.slice va ll vc) ll (hcl (lv st k)) rfl hrow ⟨wr.heap.size, 0, none⟩ 1 1 [.int .i64 k, .int .i64 g] rfl rfl HNW.out (by simp [Value.oneCell']) (by unfold maxLen; omega) (by omega) (by simp; omega) ?_; intro v' w5 hown hgrow _; have HO := Lib.hid (And.intro hown hgrow); obtain ⟨g', cap', rfl⟩ := ownsRow_succ hown; clear hown hgrow))
        go_roundw
        case rel =>
          refine ⟨k + 1, by omega, by simp, ?_, ?_⟩
          · rw [HS.out]
            unfold Hs
            rw [hcl_append, List.length_append, HLL.out]
            simpa [hcl] using HO.out.1
          · exact (HX.out.2.alloc hsz _).grown HO.out.2 (by simp; omega) (fun j e => (World.ownsRow.lt HW.out j e).1)
        case measure => simp [intOf]; omega
    · obtain rfl : k = n := by omega
      have HE := Lib.hid (lv_all (st := st) (k := k) (Nat.le_of_eq HN.out))
      clear hR
      go_wp2
      go_ret
      refine ⟨_, rfl, ?_, HX.out.2⟩
      have h1 := HX.out.1
      rw [HE.out] at h1
      exact h1

set_option maxRecDepth 100000 in
set_option maxHeartbeats 2000000 in
theorem same_any (n1 n2 : Nat) (l : List Hnd) (len : Nat) (a b : Option Addr) (ca cb : Nat) (w : World) (hlen : l.length = len) (h64 : len ≤ 64) (ha : Hs n1 w (.slice a len ca) l) (hb : Hs n2 w (.slice b len cb) l) : Calls Tryd.prog 19 #[.slice a len ca, .slice b len cb] w fun e w' => e = .returned (.bool true) ∧ Below w.heap.size w w' := by
  have HH := Lib.hid (And.intro ha (And.intro hb hlen))
  clear ha hb hlen
  go_enter Tryd.func19, Tryd.ntmps19
  go_wp2
  go_loopw [5] (fun v wr => ∃ k : Nat, k ≤ len ∧ v = .int .i64 k ∧ Hid (Below w.heap.size w wr)) (fun v _ => len - (intOf v).toNat)
  case atStart => exact ⟨0, by omega, rfl, Below.refl _ _⟩
  case round =>
    obtain ⟨k, hk, rfl, HB⟩ := hrel
    by_cases hlt : k < len
    · obtain ⟨⟨y1, y2⟩, hy⟩ : ∃ y, l[k]? = some y := ⟨_, List.getElem?_eq_getElem (by rw [HH.out.2.2]; exact hlt)⟩
      obtain ⟨g1, c1, e1, _, _, hc1, _, p0, p1⟩ := HH.out.1.get hy
      obtain ⟨g2, c2, e2, _, _, hc2, _, q0, q1⟩ := HH.out.2.1.get hy
      rw [HH.out.2.2] at e1 e2 hc1 hc2
      cases e1
      cases e2
      have p0 := cell_later HB.out p0
      have p1 := cell_later HB.out p1
      have q0 := cell_later HB.out q0
      have q1 := cell_later HB.out q1
      clear hy
      go_wp2
      go_quiet (fail)
      go_wp2
      go_roundw
      case rel => exact ⟨k + 1, by omega, by simp, below_more HB.out (below_drews _ _)⟩
      case measure => simp [intOf]; omega
    · obtain rfl : k = len := by omega
      go_wp2
      go_ret
      exact ⟨rfl, HB.out⟩

end Go.Proofs.YtjfooblnpkckfaaDoor
