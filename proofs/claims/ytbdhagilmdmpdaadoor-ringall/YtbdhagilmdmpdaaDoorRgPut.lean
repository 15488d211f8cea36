/- put, take: by a goto out of each. -/
import Derived.Test.YtbdhagilmdmpdaaDoorRgWith
namespace Go.Proofs.YtbdhagilmdmpdaaDoor
open Go.RowKit Go.Proofs.Fld Go.Proofs.Rng Go.Shelf Go.Sort

/-- What is told: a ring in new memory, or an empty one and what is wrong. -/
def RingP (s : Sn) (m : Int) (l : List It) (en : Nat) (w : World) (e : Ending) (w' : World) : Prop :=
  ∃ va vc v k, k = l.length ∧ ErrIs s v en ∧ e = .returned (.tuple #[.agg #[.int .i64 m, .slice va k vc], v]) ∧ OwnT w.heap.size w' (.slice va k vc) l ∧ Below w.heap.size w w'
def ItemP (s : Sn) (x : It) (m : Int) (l : List It) (en : Nat) (w : World) (e : Ending) (w' : World) : Prop :=
  ∃ va vc v k, k = l.length ∧ ErrIs s v en ∧ e = .returned (.tuple #[.string (bs x), .agg #[.int .i64 m, .slice va k vc], v]) ∧ OwnT w.heap.size w' (.slice va k vc) l ∧ Below w.heap.size w w'
theorem put_wrong {m : Int} {l : List It} {x : It} (h : rightR m l = false) : putE m l x = 1 ∧ putM m l x = 0 ∧ putL m l x = [] := by
  have e : putE m l x = 1 := by unfold putE; rw [h]; rfl
  exact ⟨e, by unfold putM; rw [e]; rfl, by unfold putL; rw [e]; rfl⟩
theorem put_no {m : Int} {l : List It} {x : It} {k : Nat} (h : rightR m l = true) (hk : roomE m (takes l) [x] = k) (h0 : k ≠ 0) : putE m l x = k ∧ putM m l x = 0 ∧ putL m l x = [] := by
  have e : putE m l x = k := by unfold putE; rw [h, ← hk]; rfl
  exact ⟨e, by unfold putM; rw [e, if_neg h0], by unfold putL; rw [e, if_neg h0]⟩
theorem put_yes {m : Int} {l : List It} {x : It} (h : rightR m l = true) (hk : roomE m (takes l) [x] = 0) : putE m l x = 0 ∧ putM m l x = m ∧ putL m l x = l ++ [x] := by
  have e : putE m l x = 0 := by unfold putE; rw [h, ← hk]; rfl
  exact ⟨e, by unfold putM; rw [e, if_pos rfl], by unfold putL; rw [e, if_pos rfl]⟩
theorem take_wrong {m : Int} {l : List It} (h : rightR m l = false) : takeE m l = 1 ∧ takeM m l = 0 ∧ takeL m l = [] ∧ takeX m l = [] := by
  have e : takeE m l = 1 := by unfold takeE; rw [h]; rfl
  exact ⟨e, by unfold takeM; rw [e]; rfl, by unfold takeL; rw [e]; rfl, by unfold takeX; rw [e]; rfl⟩
theorem take_none {m : Int} {l : List It} (h : rightR m l = true) (h0 : l = []) : takeE m l = 3 ∧ takeM m l = 0 ∧ takeL m l = [] ∧ takeX m l = [] := by
  have e : takeE m l = 3 := by unfold takeE; rw [h, if_pos rfl, if_pos h0]
  exact ⟨e, by unfold takeM; rw [e]; rfl, by unfold takeL; rw [e]; rfl, by unfold takeX; rw [e]; rfl⟩
theorem take_yes {m : Int} {l : List It} {x : It} (h : rightR m l = true) (h0 : l[0]? = some x) : takeE m l = 0 ∧ takeM m l = m ∧ takeL m l = l.drop 1 ∧ takeX m l = x := by
  have hne : l ≠ [] := fun e => by rw [e] at h0; simp at h0
  have e : takeE m l = 0 := by unfold takeE; rw [h, if_pos rfl, if_neg hne]
  refine ⟨e, by unfold takeM; rw [e, if_pos rfl], by unfold takeL; rw [e, if_pos rfl, List.drop_one], ?_⟩
  unfold takeX
  rw [e, if_pos rfl]
  cases l with
  | nil => exact absurd rfl hne
  | cons a r => simpa using h0
theorem err_iface {s : Sn} {v : Value} {k : Nat} (h : ErrIs s v k) (h0 : k ≠ 0) : ∃ a, v = .iface 82 (.pointer (some a)) := by
  cases h
  · exact absurd rfl h0
  · exact ⟨_, rfl⟩
  · exact ⟨_, rfl⟩
  · exact ⟨_, rfl⟩
theorem one_txs (w : World) (x : It) (hx : x.length ≤ 900000) : Txs (w.alloc (.cells #[.string (bs x)] 9)) (some ⟨w.heap.size, 0, none⟩) 1 1 [x] := by
  refine ⟨rfl, Nat.le_refl _, by decide, (fun h => by cases h), ?_, fun _ => ⟨w.heap.size, 0, rfl, ?_⟩⟩
  · intro y hy
    obtain rfl : y = x := by simpa using hy
    omega
  · intro j y hj
    match j with
    | 0 =>
      obtain rfl : x = y := by simpa using hj
      simp
    | n + 1 => simp at hj
theorem room_one (s : Sn) (m : Int) (t : Nat) (vL : Value) (hvL : vL.oneCell' = true) (x : It) (hx : t + x.length ≤ 950000) (hx9 : x.length ≤ 900000) (w : World) (hs : Sent s (w.alloc (.cells #[.string (bs x)] 9))) :
    Calls Tryd.prog 34 #[.agg #[.int .i64 m, vL, .int .i64 (t : Int)], .slice (some ⟨w.heap.size, 0, none⟩) 1 1] (w.alloc (.cells #[.string (bs x)] 9)) (RoomP s m t [x] (w.alloc (.cells #[.string (bs x)] 9))) :=
  callsIn_wide.1 (room_in 3 (Nat.le_refl _) s m t vL hvL _ 1 1 [x] (by omega) (by simp [takes]; omega) _ (one_txs w x hx9) hs)
theorem with_one (m : Int) (ao : Option Addr) (len cap : Nat) (zs : List It) (x : It) (u : Value) (hu : u.oneCell' = true) (hr1 : len ≤ 1000000) (hx9 : x.length ≤ 900000) (w : World) (hL : Txs w ao len cap zs) :
    Calls Tryd.prog 35 #[.agg #[.int .i64 m, .slice ao len cap, u], .slice (some ⟨w.heap.size, 0, none⟩) 1 1] (w.alloc (.cells #[.string (bs x)] 9)) (WithP m (zs ++ [x]) (len + 1) (w.alloc (.cells #[.string (bs x)] 9))) :=
  with_any m ao _ len cap 1 1 zs [x] u hu hr1 (by omega) _ (hL.more (Below.new _ _)) (one_txs w x hx9)

/-- What holds at put's way out. -/
def OutPut (s : Sn) (w : World) (en : Nat) (a : Act) (W : World) : Prop := ∃ (v : Value) (u0 u1 u2 u3 u5 u6 u8 u9 u10 u11 u12 u13 u14 u15 u16 u17 u18 u19 u20 u21 u22 u23 u24 u25 u26 u27 u28 u29 u30 : Value), a = { tmps := #[u0, u1, u2, u3, .pointer (some ⟨w.heap.size + 1, 0, none⟩), u5, u6, v, u8, u9, u10, u11, u12, u13, u14, u15, u16, u17, u18, u19, u20, u21, u22, u23, u24, u25, u26, u27, u28, u29, u30], defers := [] } ∧ (ErrIs s v en ∧ R2 W (w.heap.size + 1) (.int .i64 0) (.slice none 0 0)) ∧ Below w.heap.size w W

set_option maxRecDepth 100000 in
set_option maxHeartbeats 4000000 in
theorem put_any (s : Sn) (m : Int) (ao : Option Addr) (len cap : Nat) (zs : List It) (x : It) (hx : x.length ≤ 900000) (hreach : len ≤ 1000000) (hsum : takes zs ≤ 1000000) (w : World) (hL : Txs w ao len cap zs) (hs : Sent s w) :
    Calls Tryd.prog 29 #[.agg #[.int .i64 m, .slice ao len cap], .string (bs x)] w (RingP s (putM m zs x) (putL m zs x) (putE m zs x) w) := by
  have hB1 := Below.new w (.cells #[.int .i64 m, .slice ao len cap] 24)
  have hB2 := below_more hB1 (Below.new _ (.cells #[.int .i64 0, .slice none 0 0] 24))
  have r1 := (R2.new w (.int .i64 m) (.slice ao len cap) 24).more (Below.new _ (.cells #[.int .i64 0, .slice none 0 0] 24))
  have r2 := R2.new (w.alloc (.cells #[.int .i64 m, .slice ao len cap] 24)) (.int .i64 0) (.slice none 0 0) 24
  rw [World.size_alloc] at r2
  obtain ⟨W0, hW0⟩ : ∃ W0, (w.alloc (.cells #[.int .i64 m, .slice ao len cap] 24)).alloc (.cells #[.int .i64 0, .slice none 0 0] 24) = W0 := ⟨_, rfl⟩
  rw [hW0] at hB2 r1 r2
  obtain ⟨pm, hpm⟩ : ∃ pm, putM m zs x = pm := ⟨_, rfl⟩
  obtain ⟨pl, hpl⟩ : ∃ pl, putL m zs x = pl := ⟨_, rfl⟩
  obtain ⟨pe, hpe⟩ : ∃ pe, putE m zs x = pe := ⟨_, rfl⟩
  have E1 := Lib.hid (fun h => put_wrong (m := m) (l := zs) (x := x) h)
  have E2 := Lib.hid (fun k h h1 h0 => put_no (m := m) (l := zs) (x := x) (k := k) h h1 h0)
  have E3 := Lib.hid (fun h h1 => put_yes (m := m) (l := zs) (x := x) h h1)
  rw [hpm, hpl, hpe] at E1 E2 E3 ⊢
  have HX := Lib.hid (And.intro (hL.more hB2) (And.intro (hs.more hB2) (And.intro r2 hB2)))
  obtain ⟨c0, c1, _, _⟩ := r1
  clear hB1 hB2 r2 hL hs hpm hpl hpe
  have _h1 := hx
  by_cases hen : pe = 0
  · subst hen
    go_enter Tryd.func29, Tryd.ntmps29
    go_wp2
    refine wp_scope_jumps 0 (fun _ _ => False) (fun _ _ => 0) rfl ?first ?pass
    case pass => exact fun _ _ h => h.elim
    case first =>
      go_wp2_with (go_at_call 27; refine (open_any s m ao len cap zs hreach hsum W0 HX.out.1 HX.out.2.1).mono ?_)
      rintro e w1 ⟨⟨hr, t, ht, rfl⟩ | ⟨hr, rfl⟩, hb1⟩
      · have hre : roomE m (takes zs) [x] = 0 := Classical.byContradiction fun h => absurd (E2.out _ hr rfl h).1 (fun e => h e.symm)
        have e3 := E3.out hr hre
        obtain ⟨hm0, hm1, _, hm2⟩ := rightR_iff.1 hr
        rw [← ht] at hre hm2
        have hN1 := Below.new w1 (.cells #[.int .i64 m, .slice ao len cap, .int .i64 (t : Int)] 45)
        have q := R3.new w1 (.int .i64 m) (.slice ao len cap) (.int .i64 (t : Int)) 45
        have L2 := (HX.out.1.more hb1).more hN1
        have S2 := (HX.out.2.1.more hb1).more hN1
        have R2' := (HX.out.2.2.1.more hb1).more hN1
        have B2 := below_more (below_more HX.out.2.2.2 hb1) hN1
        obtain ⟨W2, hW2⟩ : ∃ W2, w1.alloc (.cells #[.int .i64 m, .slice ao len cap, .int .i64 (t : Int)] 45) = W2 := ⟨_, rfl⟩
        rw [hW2] at hN1 q L2 S2 R2' B2
        have hN2 := Below.new W2 (.cells #[.string (bs x)] 9)
        have HC := Lib.hid (room_one s m t (.slice ao len cap) rfl x (by omega) hx W2 (S2.more hN2))
        have HY := Lib.hid (And.intro q (And.intro L2 (And.intro S2 (And.intro R2' (And.intro B2 (And.intro hN2 (And.intro e3 hre)))))))
        obtain ⟨q0, q1, q2, _, _, _⟩ := id q
        clear hb1 hr ht e3 hre L2 S2 R2' B2 hN1 hN2 q
        go_wp2_with (go_at_call 34; refine HC.out.mono ?_)
        rintro e w2 ⟨v, tt, hv, _, rfl, hb2⟩
        rw [HY.out.2.2.2.2.2.2.2] at hv
        cases hv
        have b3 := below_more HY.out.2.2.2.2.2.1 hb2
        have L3 := HY.out.2.1.more b3
        have R3' := HY.out.2.2.2.1.more b3
        have B3 := below_more HY.out.2.2.2.2.1 b3
        obtain ⟨q0, q1, q2, _, _, _⟩ := HY.out.1.more b3
        have hN3 := Below.new w2 (.cells #[.string (bs x)] 9)
        have HD := Lib.hid (with_one m ao len cap zs x (.int .i64 (t : Int)) rfl hreach hx w2 L3)
        have HZ := Lib.hid (And.intro R3' (And.intro B3 hN3))
        clear hb2 b3 L3 R3' B3 hN3
        go_wp2_with (go_at_call 35; refine HD.out.mono ?_)
        rintro e w3 ⟨va, vc, rfl, hO, hb3⟩
        have b4 := below_more HZ.out.2.2 hb3
        obtain ⟨y0, y1, _, _⟩ := (HZ.out.1.more b4).set (.int .i64 m) (.slice va (len + 1) vc)
        obtain ⟨d0, d1, f0, f1⟩ := HZ.out.1.more b4
        have hlt := HZ.out.1.lt
        have hsz := HZ.out.2.2.size
        have hs0 := HZ.out.2.1.size
        have HB3 := Lib.hid (set2B (below_more HZ.out.2.1 b4) (b := w.heap.size + 1) (by omega) (.int .i64 m) (.slice va (len + 1) vc))
        have HO := Lib.hid (((hO.set1 (b := w.heap.size + 1) (i := 0) (x := .int .i64 m) (by omega)).set1 (b := w.heap.size + 1) (i := 1) (x := .slice va (len + 1) vc) (by omega)).mono (n1 := w.heap.size) (by omega))
        clear hO hb3 b4 hlt hsz hs0
        go_wp2
        generalize hWF : ((w3.setCell ⟨w.heap.size + 1, 0, none⟩ (.int .i64 m)).setCell ⟨w.heap.size + 1, 1, none⟩ (.slice va (len + 1) vc)) = WF at y0 y1 HB3 HO ⊢
        refine bodyPost_ret (v := .tuple #[.agg #[.int .i64 m, .slice va (len + 1) vc], .nilIface]) (by simp [results, Tryd.results29, go_sem, y0, y1]) rfl ?_
        obtain ⟨_, f1, f2⟩ := HY.out.2.2.2.2.2.2.1
        rw [f1, f2]
        exact ⟨va, vc, _, len + 1, by rw [List.length_append, HY.out.2.1.hlen]; rfl, .ok, rfl, HO.out, HB3.out⟩
      · exact absurd (E1.out hr).1 (by decide)
  · have hm0 : pm = 0 ∧ pl = [] := by
      cases hr : rightR m zs
      · exact (E1.out hr).2
      · by_cases h : roomE m (takes zs) [x] = 0
        · exact absurd (E3.out hr h).1 hen
        · exact (E2.out _ hr rfl h).2
    obtain ⟨rfl, rfl⟩ := hm0
    go_enter Tryd.func29, Tryd.ntmps29
    go_wp2
    refine wp_scope_jumps 0 (OutPut s w pe) (fun _ _ => 0) rfl ?first ?pass
    case pass =>
      rintro act W ⟨v, u0, u1, u2, u3, u5, u6, u8, u9, u10, u11, u12, u13, u14, u15, u16, u17, u18, u19, u20, u21, u22, u23, u24, u25, u26, u27, u28, u29, u30, rfl, ⟨hv, hr⟩, hb⟩
      obtain ⟨y0, y1, _, _⟩ := hr.set (.int .i64 0) (.slice none 0 0)
      obtain ⟨d0, d1, f0, f1⟩ := hr
      have HR := Lib.hid (And.intro hv (set2B hb (b := w.heap.size + 1) (by omega) (.int .i64 0) (.slice none 0 0)))
      clear hv hb
      go_wp2
      generalize hWF : ((W.setCell ⟨w.heap.size + 1, 0, none⟩ (.int .i64 0)).setCell ⟨w.heap.size + 1, 1, none⟩ (.slice none 0 0)) = WF at y0 y1 HR ⊢
      refine bodyPost_ret (v := .tuple #[.agg #[.int .i64 0, .slice none 0 0], v]) (by simp [results, Tryd.results29, go_sem, y0, y1]) rfl ?_
      exact ⟨none, 0, v, 0, rfl, HR.out.1, rfl, OwnT.nil _ _, HR.out.2⟩
    case first =>
      go_wp2_with (go_at_call 27; refine (open_any s m ao len cap zs hreach hsum W0 HX.out.1 HX.out.2.1).mono ?_)
      rintro e w1 ⟨⟨hr, t, ht, rfl⟩ | ⟨hr, rfl⟩, hb1⟩
      · have hre : roomE m (takes zs) [x] = pe := by
          by_cases h : roomE m (takes zs) [x] = 0
          · exact absurd (E3.out hr h).1 hen
          · exact (E2.out _ hr rfl h).1.symm
        obtain ⟨hm0, hm1, _, hm2⟩ := rightR_iff.1 hr
        rw [← ht] at hre hm2
        have hN1 := Below.new w1 (.cells #[.int .i64 m, .slice ao len cap, .int .i64 (t : Int)] 45)
        have q := R3.new w1 (.int .i64 m) (.slice ao len cap) (.int .i64 (t : Int)) 45
        have S2 := (HX.out.2.1.more hb1).more hN1
        have R2' := (HX.out.2.2.1.more hb1).more hN1
        have B2 := below_more (below_more HX.out.2.2.2 hb1) hN1
        obtain ⟨W2, hW2⟩ : ∃ W2, w1.alloc (.cells #[.int .i64 m, .slice ao len cap, .int .i64 (t : Int)] 45) = W2 := ⟨_, rfl⟩
        rw [hW2] at hN1 q S2 R2' B2
        have hN2 := Below.new W2 (.cells #[.string (bs x)] 9)
        have HC := Lib.hid (room_one s m t (.slice ao len cap) rfl x (by omega) hx W2 (S2.more hN2))
        have HY := Lib.hid (And.intro R2' (And.intro B2 (And.intro hN2 hre)))
        obtain ⟨q0, q1, q2, _, _, _⟩ := q
        clear hb1 hr ht hre S2 R2' B2 hN1 hN2
        go_wp2_with (go_at_call 34; refine HC.out.mono ?_)
        rintro e w2 ⟨v, tt, hv, _, rfl, hb2⟩
        rw [HY.out.2.2.2] at hv
        obtain ⟨a, rfl⟩ := err_iface hv hen
        have qq := neq_err a
        have b3 := below_more HY.out.2.2.1 hb2
        have HZ := Lib.hid (And.intro hv (And.intro (HY.out.1.more b3) (below_more HY.out.2.1 b3)))
        clear hv hb2 b3
        go_wp2
        apply wp_goto
        exact ⟨rfl, _, _, _, _, _, _, _, _, _, _, _, _, _, _, _, _, _, _, _, _, _, _, _, _, _, _, _, _, _, _, rfl, ⟨HZ.out.1, HZ.out.2.1⟩, HZ.out.2.2⟩
      · have e1 := (E1.out hr).1
        subst e1
        have qq := neq_err s.w
        have hN1 := Below.new w1 (.cells #[.int .i64 0, .slice none 0 0, .int .i64 0] 45)
        have HZ := Lib.hid (And.intro ((HX.out.2.2.1.more hb1).more hN1) (below_more (below_more HX.out.2.2.2 hb1) hN1))
        clear hb1 hN1 hr
        go_wp2
        apply wp_goto
        exact ⟨rfl, _, _, _, _, _, _, _, _, _, _, _, _, _, _, _, _, _, _, _, _, _, _, _, _, _, _, _, _, _, _, rfl, ⟨.wrong, HZ.out.1⟩, HZ.out.2⟩

/-- What holds at take's way out. -/
def OutTake (s : Sn) (w : World) (en : Nat) (a : Act) (W : World) : Prop := ∃ (v : Value) (u0 u1 u2 u4 u5 u7 u8 u9 u10 u11 u12 u13 u14 u15 u16 u17 u18 u19 u20 u21 u22 u23 u24 u25 u26 u27 u28 : Value), a = { tmps := #[u0, u1, u2, .pointer (some ⟨w.heap.size + 1, 0, none⟩), u4, u5, v, u7, u8, u9, u10, u11, u12, u13, u14, u15, u16, u17, u18, u19, u20, u21, u22, u23, u24, u25, u26, u27, u28], defers := [] } ∧ (ErrIs s v en ∧ R2 W (w.heap.size + 1) (.int .i64 0) (.slice none 0 0)) ∧ Below w.heap.size w W

set_option maxRecDepth 100000 in
set_option maxHeartbeats 4000000 in
theorem take_any (s : Sn) (m : Int) (ao : Option Addr) (len cap : Nat) (zs : List It) (hreach : len ≤ 1000000) (hsum : takes zs ≤ 1000000) (w : World) (hL : Txs w ao len cap zs) (hs : Sent s w) :
    Calls Tryd.prog 31 #[.agg #[.int .i64 m, .slice ao len cap]] w (ItemP s (takeX m zs) (takeM m zs) (takeL m zs) (takeE m zs) w) := by
  have hB1 := Below.new w (.cells #[.int .i64 m, .slice ao len cap] 24)
  have hB2 := below_more hB1 (Below.new _ (.cells #[.int .i64 0, .slice none 0 0] 24))
  have r1 := (R2.new w (.int .i64 m) (.slice ao len cap) 24).more (Below.new _ (.cells #[.int .i64 0, .slice none 0 0] 24))
  have r2 := R2.new (w.alloc (.cells #[.int .i64 m, .slice ao len cap] 24)) (.int .i64 0) (.slice none 0 0) 24
  rw [World.size_alloc] at r2
  obtain ⟨W0, hW0⟩ : ∃ W0, (w.alloc (.cells #[.int .i64 m, .slice ao len cap] 24)).alloc (.cells #[.int .i64 0, .slice none 0 0] 24) = W0 := ⟨_, rfl⟩
  rw [hW0] at hB2 r1 r2
  obtain ⟨pm, hpm⟩ : ∃ pm, takeM m zs = pm := ⟨_, rfl⟩
  obtain ⟨pl, hpl⟩ : ∃ pl, takeL m zs = pl := ⟨_, rfl⟩
  obtain ⟨pe, hpe⟩ : ∃ pe, takeE m zs = pe := ⟨_, rfl⟩
  obtain ⟨px, hpx⟩ : ∃ px, takeX m zs = px := ⟨_, rfl⟩
  have E1 := Lib.hid (fun h => take_wrong (m := m) (l := zs) h)
  have E2 := Lib.hid (fun h h0 => take_none (m := m) (l := zs) h h0)
  have E3 := Lib.hid (fun x h h1 => take_yes (m := m) (l := zs) (x := x) h h1)
  rw [hpm, hpl, hpe, hpx] at E1 E2 E3
  rw [hpm, hpl, hpe, hpx]
  have HX := Lib.hid (And.intro (hL.more hB2) (And.intro (hs.more hB2) (And.intro r2 hB2)))
  obtain ⟨c0, c1, _, _⟩ := r1
  have hzl := hL.hlen
  have HB0 := Lib.hid (fun hp => hL.at hp)
  clear hB1 hB2 r2 hL hs hpm hpl hpe hpx
  by_cases hen : pe = 0
  · subst hen
    have hrt : rightR m zs = true := by
      cases h : rightR m zs
      · exact absurd (E1.out h).1 (by decide)
      · rfl
    have hne : 0 < len := by
      rcases Nat.eq_zero_or_pos len with h | h
      · exact absurd (E2.out hrt (List.eq_nil_of_length_eq_zero (hzl.trans h))).1 (by decide)
      · exact h
    obtain ⟨x, hx⟩ : ∃ x, zs[0]? = some x := ⟨_, List.getElem?_eq_getElem (by rw [hzl]; exact hne)⟩
    obtain ⟨_, rfl, rfl, rfl⟩ := E3.out x hrt hx
    obtain ⟨b, off, rfl, hbl, hcs⟩ := HX.out.1.at hne
    have hbQ : b ≠ w.heap.size + 1 := by
      obtain ⟨b', off', e', hb', _⟩ := HB0.out hne
      injection e' with e'
      injection e' with e1 e2 e3
      omega
    have hi0 := hcs 0 px hx
    rw [Nat.add_zero] at hi0
    have hne1 : 1 ≤ len := hne
    have HI := Lib.hid (And.intro hi0 (And.intro hrt hzl))
    have hd0 : (((len : Nat) : Int) == 0) = false := by simp; omega
    clear hcs hx hi0 hrt hzl
    go_enter Tryd.func31, Tryd.ntmps31
    go_wp2
    refine wp_scope_jumps 0 (fun _ _ => False) (fun _ _ => 0) rfl ?first ?pass
    case pass => exact fun _ _ h => h.elim
    case first =>
      go_wp2_with (go_at_call 27; refine (open_any s pm _ len cap zs hreach hsum W0 HX.out.1 HX.out.2.1).mono ?_)
      rintro e w1 ⟨⟨hr, t, ht, rfl⟩ | ⟨hr, rfl⟩, hb1⟩
      · have hN1 := Below.new w1 (.cells #[.int .i64 pm, .slice (some ⟨b, off, none⟩) len cap, .int .i64 (t : Int)] 45)
        have q := R3.new w1 (.int .i64 pm) (.slice (some ⟨b, off, none⟩) len cap) (.int .i64 (t : Int)) 45
        have L2 := (HX.out.1.more hb1).more hN1
        have R2' := (HX.out.2.2.1.more hb1).more hN1
        have B2 := below_more (below_more HX.out.2.2.2 hb1) hN1
        have i2 := cell_later hN1 (cell_later hb1 HI.out.1)
        obtain ⟨W2, hW2⟩ : ∃ W2, w1.alloc (.cells #[.int .i64 pm, .slice (some ⟨b, off, none⟩) len cap, .int .i64 (t : Int)] 45) = W2 := ⟨_, rfl⟩
        have hQ : w1.heap.size ≠ w.heap.size + 1 := by have := (HX.out.2.2.1.more hb1).lt; omega
        rw [hW2] at hN1 q L2 R2' B2 i2
        have hD : Below W2.heap.size W2 W2.drew := (Below.refl _ W2).drew
        have HY := Lib.hid (And.intro (L2.more hD) (And.intro (R2'.more hD) (below_more B2 hD)))
        obtain ⟨q0, q1, q2, _, _, _⟩ := q
        have x0 := cell_later hD q0
        have x1 := cell_later hD q1
        have x2 := cell_later hD q2
        have x3 := cell_later hD i2
        clear hb1 hr ht L2 R2' B2 hN1 hD
        go_wp2
        go_region_held3 (fun w' => w'.cell? ⟨w1.heap.size, 0, none⟩ = some (.int .i64 pm) ∧ w'.cell? ⟨w1.heap.size, 1, none⟩ = some (.slice (some ⟨b, off, none⟩) len cap) ∧ w'.cell? ⟨w1.heap.size, 2, none⟩ = some (.int .i64 (t : Int)) ∧ w'.cell? ⟨b, off, none⟩ = some (.string (bs px)))
          (first | (simp only [World.cell?_drew, q0, q1, q2, i2, and_self]; done) | (with_reducible exact ⟨cell_later hb x0, cell_later hb x1, cell_later hb x2, cell_later hb x3⟩) | (with_reducible exact ⟨set2O (cell_later hb x0) hQ.symm, set2O (cell_later hb x1) hQ.symm, set2O (cell_later hb x2) hQ.symm, set2O (cell_later hb x3) hbQ.symm⟩))
          (first | (go_at_call 37; ((with_reducible refine (rest_any pm _ len cap zs _ rfl hreach hne1 _ HY.out.1).mono ?_); rintro e w3 ⟨va, vc, rfl, hO, hb⟩; obtain ⟨d0, d1, f0, f1⟩ := HY.out.2.1.more hb)))
        obtain ⟨y0, y1, _, _⟩ := R2.set ⟨d0, d1, f0, f1⟩ (.int .i64 pm) (.slice va (len - 1) vc)
        have hz : W2.drew.heap.size = W2.heap.size := rfl
        have hlt := HY.out.2.1.lt
        have hs0 := HY.out.2.2.size
        have HB3 := Lib.hid (set2B (below_more HY.out.2.2 hb) (b := w.heap.size + 1) (by omega) (.int .i64 pm) (.slice va (len - 1) vc))
        have HO := Lib.hid (((hO.set1 (b := w.heap.size + 1) (i := 0) (x := .int .i64 pm) (by omega)).set1 (b := w.heap.size + 1) (i := 1) (x := .slice va (len - 1) vc) (by omega)).mono (n1 := w.heap.size) (by omega))
        clear hO hb hlt hs0
        go_wp2
        generalize hWF : ((w3.setCell ⟨w.heap.size + 1, 0, none⟩ (.int .i64 pm)).setCell ⟨w.heap.size + 1, 1, none⟩ (.slice va (len - 1) vc)) = WF at y0 y1 HB3 HO ⊢
        refine bodyPost_ret (v := .tuple #[.string (bs px), .agg #[.int .i64 pm, .slice va (len - 1) vc], .nilIface]) (by simp [results, Tryd.results31, go_sem, y0, y1]) rfl ?_
        rw [← List.drop_one]
        exact ⟨va, vc, _, len - 1, by rw [List.length_drop, HI.out.2.2], .ok, rfl, HO.out, HB3.out⟩
      · exact absurd (HI.out.2.1.symm.trans hr) (by decide)
  · have hm0 : pm = 0 ∧ pl = [] ∧ px = [] := by
      cases hr : rightR m zs
      · exact (E1.out hr).2
      · by_cases h : zs = []
        · exact (E2.out hr h).2
        · obtain ⟨x, hx⟩ : ∃ x, zs[0]? = some x := ⟨_, List.getElem?_eq_getElem (List.length_pos_iff.2 h)⟩
          exact absurd (E3.out x hr hx).1 hen
    obtain ⟨rfl, rfl, rfl⟩ := hm0
    go_enter Tryd.func31, Tryd.ntmps31
    go_wp2
    refine wp_scope_jumps 0 (OutTake s w pe) (fun _ _ => 0) rfl ?first ?pass
    case pass =>
      rintro act W ⟨v, u0, u1, u2, u4, u5, u7, u8, u9, u10, u11, u12, u13, u14, u15, u16, u17, u18, u19, u20, u21, u22, u23, u24, u25, u26, u27, u28, rfl, ⟨hv, hr⟩, hb⟩
      obtain ⟨y0, y1, _, _⟩ := hr.set (.int .i64 0) (.slice none 0 0)
      obtain ⟨d0, d1, f0, f1⟩ := hr
      have HR := Lib.hid (And.intro hv (set2B hb (b := w.heap.size + 1) (by omega) (.int .i64 0) (.slice none 0 0)))
      clear hv hb
      go_wp2
      generalize hWF : ((W.setCell ⟨w.heap.size + 1, 0, none⟩ (.int .i64 0)).setCell ⟨w.heap.size + 1, 1, none⟩ (.slice none 0 0)) = WF at y0 y1 HR ⊢
      refine bodyPost_ret (v := .tuple #[.string { data := #[] }, .agg #[.int .i64 0, .slice none 0 0], v]) (by simp [results, Tryd.results31, go_sem, y0, y1]) rfl ?_
      exact ⟨none, 0, v, 0, rfl, HR.out.1, rfl, OwnT.nil _ _, HR.out.2⟩
    case first =>
      go_wp2_with (go_at_call 27; refine (open_any s m ao len cap zs hreach hsum W0 HX.out.1 HX.out.2.1).mono ?_)
      rintro e w1 ⟨⟨hr, t, ht, rfl⟩ | ⟨hr, rfl⟩, hb1⟩
      · have hz : zs = [] := Classical.byContradiction fun h => by
          obtain ⟨x, hx⟩ : ∃ x, zs[0]? = some x := ⟨_, List.getElem?_eq_getElem (List.length_pos_iff.2 h)⟩
          exact absurd (E3.out x hr hx).1 hen
        have e2 := (E2.out hr hz).1
        subst e2
        obtain rfl : 0 = len := by rw [← hzl, hz]; rfl
        have hN1 := Below.new w1 (.cells #[.int .i64 m, .slice ao 0 cap, .int .i64 (t : Int)] 45)
        obtain ⟨q0, q1, q2, _, _, _⟩ := R3.new w1 (.int .i64 m) (.slice ao 0 cap) (.int .i64 (t : Int)) 45
        have k0 := ((HX.out.2.1.more hb1).more hN1).ce
        have HZ := Lib.hid (And.intro ((HX.out.2.2.1.more hb1).more hN1) (below_more (below_more HX.out.2.2.2 hb1) hN1))
        clear hb1 hN1 hr ht hz hzl
        go_wp2
        apply wp_goto
        exact ⟨rfl, _, _, _, _, _, _, _, _, _, _, _, _, _, _, _, _, _, _, _, _, _, _, _, _, _, _, _, _, rfl, ⟨.empty, HZ.out.1⟩, HZ.out.2⟩
      · have e1 := (E1.out hr).1
        subst e1
        have qq := neq_err s.w
        have hN1 := Below.new w1 (.cells #[.int .i64 0, .slice none 0 0, .int .i64 0] 45)
        have HZ := Lib.hid (And.intro ((HX.out.2.2.1.more hb1).more hN1) (below_more (below_more HX.out.2.2.2 hb1) hN1))
        clear hb1 hN1 hr
        go_wp2
        apply wp_goto
        exact ⟨rfl, _, _, _, _, _, _, _, _, _, _, _, _, _, _, _, _, _, _, _, _, _, _, _, _, _, _, _, _, rfl, ⟨.wrong, HZ.out.1⟩, HZ.out.2⟩


end Go.Proofs.YtbdhagilmdmpdaaDoor
