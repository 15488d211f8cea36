/- Merged texts: RgPut, RgTop, RgSame, RgShown, RgHead, LawTurns, RgRef, RgRef2, RgLaid -/
import Derived.Test.YtnbpfbmhheimbaaGreatDoorRgA
import Derived.Deep.RegionLaw
import Derived.Test.YtnbpfbmhheimbaaGreatDoorRows
import Derived.ProofKit
import Derived.LaidMore
import Derived.OpenShut
import Derived.ChangeOld
import Derived.ChangeMaps5
import Derived.ChangeSlices
import Derived.Stop.Joined
import Derived.Stop.LaidErr
import Derived.Stop.LaidTwo
import Derived.LaidLaws
import Derived.Lib.SmallJoins
import Derived.ChangeSame
import Derived.Deep.Slices
import Derived.Deep.Fields
/- put, take: by a goto out of each. -/
namespace Go.Proofs.YtnbpfbmhheimbaaGreatDoor
open Go.RowKit Go.Proofs.Fld Go.Proofs.Rng Go.Shelf Go.Sort

/-- What is told: a ring in new memory, or an empty one and what is wrong. -/
def RingP (s : Sn) (m : Int) (l : List It) (en : Nat) (w : World) (e : Ending) (w' : World) : Prop :=
  ∃ va vc v k, k = l.length ∧ ErrIs s v en ∧ e = .returned (.tuple #[.agg #[.int .i64 m, .slice va k vc], v]) ∧ OwnT w.heap.size w' (.slice va k vc) l ∧ Below w.heap.size w w'
def ItemP (s : Sn) (x : It) (m : Int) (l : List It) (en : Nat) (w : World) (e : Ending) (w' : World) : Prop :=
  ∃ va vc v k, k = l.length ∧ ErrIs s v en ∧ e = .returned (.tuple #[.string (bs x), .agg #[.int .i64 m, .slice va k vc], v]) ∧ OwnT w.heap.size w' (.slice va k vc) l ∧ Below w.heap.size w w'
theorem put_wrong {m : Int} {l : List It} {x : It} (h : rightR m l = false) : putE m l x = 1 ∧ putM m l x = 0 ∧ putL m l x = [] := by
  have e : putE m l x = 1 := by unfold putE; rw [h]; rfl
  exact ⟨e, by unfold putM; rw [e]; rfl, by unfold putL; rw [e]; rfl⟩
theorem put_no {m : Int} {l : List It} {x : It} {k : Nat} (h : rightR m l = true) (hk : roomE m (takes l) [x] = k) (h0 : k ≠ 0) : putE m l x = k ∧ putM m l x = 0 ∧ putL m l x = [] := by
  have e : putE m l x = k := by unfold putE; rw [h, ← hk]; rfl
  exact ⟨e, by unfold putM; rw [e, if_neg h0], by unfold putL; rw [e, if_neg h0]⟩
theorem put_yes {m : Int} {l : List It} {x : It} (h : rightR m l = true) (hk : roomE m (takes l) [x] = 0) : putE m l x = 0 ∧ putM m l x = m ∧ putL m l x = l ++ [x] := by
  have e : putE m l x = 0 := by unfold putE; rw [h, ← hk]; rfl
  exact ⟨e, by unfold putM; rw [e, if_pos rfl], by unfold putL; rw [e, if_pos rfl]⟩
theorem take_wrong {m : Int} {l : List It} (h : rightR m l = false) : takeE m l = 1 ∧ takeM m l = 0 ∧ takeL m l = [] ∧ takeX m l = [] := by
  have e : takeE m l = 1 := by unfold takeE; rw [h]; rfl
  exact ⟨e, by unfold takeM; rw [e]; rfl, by unfold takeL; rw [e]; rfl, by unfold takeX; rw [e]; rfl⟩
theorem take_none {m : Int} {l : List It} (h : rightR m l = true) (h0 : l = []) : takeE m l = 3 ∧ takeM m l = 0 ∧ takeL m l = [] ∧ takeX m l = [] := by
  have e : takeE m l = 3 := by unfold takeE; rw [h, if_pos rfl, if_pos h0]
  exact ⟨e, by unfold takeM; rw [e]; rfl, by unfold takeL; rw [e]; rfl, by unfold takeX; rw [e]; rfl⟩
theorem take_yes {m : Int} {l : List It} {x : It} (h : rightR m l = true) (h0 : l[0]? = some x) : takeE m l = 0 ∧ takeM m l = m ∧ takeL m l = l.drop 1 ∧ takeX m l = x := by
  have hne : l ≠ [] := fun e => by rw [e] at h0; simp at h0
  have e : takeE m l = 0 := by unfold takeE; rw [h, if_pos rfl, if_neg hne]
  refine ⟨e, by unfold takeM; rw [e, if_pos rfl], by unfold takeL; rw [e, if_pos rfl, List.drop_one], ?_⟩
  unfold takeX
  rw [e, if_pos rfl]
  cases l with
  | nil => exact absurd rfl hne
  | cons a r => simpa using h0
theorem err_iface {s : Sn} {v : Value} {k : Nat} (h : ErrIs s v k) (h0 : k ≠ 0) : ∃ a, v = .iface 207 (.pointer (some a)) := by
  cases h
  · exact absurd rfl h0
  · exact ⟨_, rfl⟩
  · exact ⟨_, rfl⟩
  · exact ⟨_, rfl⟩
theorem one_txs (w : World) (x : It) (hx : x.length ≤ 900000) : Txs (w.alloc (.cells #[.string (bs x)] 9)) (some ⟨w.heap.size, 0, none⟩) 1 1 [x] := by
  refine ⟨rfl, Nat.le_refl _, by decide, (fun h => by cases h), ?_, fun _ => ⟨w.heap.size, 0, rfl, ?_⟩⟩
  · intro y hy
    obtain rfl : y = x := by simpa using hy
    omega
  · intro j y hj
    match j with
    | 0 =>
      obtain rfl : x = y := by simpa using hj
      simp
    | n + 1 => simp at hj
theorem room_one (s : Sn) (m : Int) (t : Nat) (vL : Value) (hvL : vL.oneCell' = true) (x : It) (hx : t + x.length ≤ 950000) (hx9 : x.length ≤ 900000) (w : World) (hs : Sent s (w.alloc (.cells #[.string (bs x)] 9))) :
    Calls Tryz.prog 117 #[.agg #[.int .i64 m, vL, .int .i64 (t : Int)], .slice (some ⟨w.heap.size, 0, none⟩) 1 1] (w.alloc (.cells #[.string (bs x)] 9)) (RoomP s m t [x] (w.alloc (.cells #[.string (bs x)] 9))) :=
  callsIn_wide.1 (room_in 3 (Nat.le_refl _) s m t vL hvL _ 1 1 [x] (by omega) (by simp [takes]; omega) _ (one_txs w x hx9) hs)
theorem with_one (m : Int) (ao : Option Addr) (len cap : Nat) (zs : List It) (x : It) (u : Value) (hu : u.oneCell' = true) (hr1 : len ≤ 1000000) (hx9 : x.length ≤ 900000) (w : World) (hL : Txs w ao len cap zs) :
    Calls Tryz.prog 118 #[.agg #[.int .i64 m, .slice ao len cap, u], .slice (some ⟨w.heap.size, 0, none⟩) 1 1] (w.alloc (.cells #[.string (bs x)] 9)) (WithP m (zs ++ [x]) (len + 1) (w.alloc (.cells #[.string (bs x)] 9))) :=
  with_any m ao _ len cap 1 1 zs [x] u hu hr1 (by omega) _ (hL.more (Below.new _ _)) (one_txs w x hx9)

/-- What holds at put's way out. -/
def OutPut (s : Sn) (w : World) (en : Nat) (a : Act) (W : World) : Prop := ∃ (v : Value) (u0 u1 u2 u3 u5 u6 u8 u9 u10 u11 u12 u13 u14 u15 u16 u17 u18 u19 u20 u21 u22 u23 u24 u25 u26 u27 u28 u29 u30 : Value), a = { tmps := #[u0, u1, u2, u3, .pointer (some ⟨w.heap.size + 1, 0, none⟩), u5, u6, v, u8, u9, u10, u11, u12, u13, u14, u15, u16, u17, u18, u19, u20, u21, u22, u23, u24, u25, u26, u27, u28, u29, u30], defers := [] } ∧ (ErrIs s v en ∧ R2 W (w.heap.size + 1) (.int .i64 0) (.slice none 0 0)) ∧ Below w.heap.size w W

set_option maxRecDepth 100000 in
set_option maxHeartbeats 4000000 in
theorem put_any (s : Sn) (m : Int) (ao : Option Addr) (len cap : Nat) (zs : List It) (x : It) (hx : x.length ≤ 900000) (hreach : len ≤ 1000000) (hsum : takes zs ≤ 1000000) (w : World) (hL : Txs w ao len cap zs) (hs : Sent s w) :
    Calls Tryz.prog 97 #[.agg #[.int .i64 m, .slice ao len cap], .string (bs x)] w (RingP s (putM m zs x) (putL m zs x) (putE m zs x) w) := by
  have hB1 := Below.new w (.cells #[.int .i64 m, .slice ao len cap] 53)
  have hB2 := below_more hB1 (Below.new _ (.cells #[.int .i64 0, .slice none 0 0] 53))
  have r1 := (R2.new w (.int .i64 m) (.slice ao len cap) 53).more (Below.new _ (.cells #[.int .i64 0, .slice none 0 0] 53))
  have r2 := R2.new (w.alloc (.cells #[.int .i64 m, .slice ao len cap] 53)) (.int .i64 0) (.slice none 0 0) 53
  rw [World.size_alloc] at r2
  obtain ⟨W0, hW0⟩ : ∃ W0, (w.alloc (.cells #[.int .i64 m, .slice ao len cap] 53)).alloc (.cells #[.int .i64 0, .slice none 0 0] 53) = W0 := ⟨_, rfl⟩
  rw [hW0] at hB2 r1 r2
  obtain ⟨pm, hpm⟩ : ∃ pm, putM m zs x = pm := ⟨_, rfl⟩
  obtain ⟨pl, hpl⟩ : ∃ pl, putL m zs x = pl := ⟨_, rfl⟩
  obtain ⟨pe, hpe⟩ : ∃ pe, putE m zs x = pe := ⟨_, rfl⟩
  have E1 := Lib.hid (fun h => put_wrong (m := m) (l := zs) (x := x) h)
  have E2 := Lib.hid (fun k h h1 h0 => put_no (m := m) (l := zs) (x := x) (k := k) h h1 h0)
  have E3 := Lib.hid (fun h h1 => put_yes (m := m) (l := zs) (x := x) h h1)
  rw [hpm, hpl, hpe] at E1 E2 E3 ⊢
  have HX := Lib.hid (And.intro (hL.more hB2) (And.intro (hs.more hB2) (And.intro r2 hB2)))
  obtain ⟨c0, c1, _, _⟩ := r1
  clear hB1 hB2 r2 hL hs hpm hpl hpe
  have _h1 := hx
  by_cases hen : pe = 0
  · subst hen
    go_enter Tryz.func97, Tryz.ntmps97
    go_wp2
    refine wp_scope_jumps 0 (fun _ _ => False) (fun _ _ => 0) rfl ?first ?pass
    case pass => exact fun _ _ h => h.elim
    case first =>
      go_wp2_with (go_at_call 116; refine (open_any s m ao len cap zs hreach hsum W0 HX.out.1 HX.out.2.1).mono ?_)
      rintro e w1 ⟨⟨hr, t, ht, rfl⟩ | ⟨hr, rfl⟩, hb1⟩
      · have hre : roomE m (takes zs) [x] = 0 := Classical.byContradiction fun h => absurd (E2.out _ hr rfl h).1 (fun e => h e.symm)
        have e3 := E3.out hr hre
        obtain ⟨hm0, hm1, _, hm2⟩ := rightR_iff.1 hr
        rw [← ht] at hre hm2
        have hN1 := Below.new w1 (.cells #[.int .i64 m, .slice ao len cap, .int .i64 (t : Int)] 146)
        have q := R3.new w1 (.int .i64 m) (.slice ao len cap) (.int .i64 (t : Int)) 146
        have L2 := (HX.out.1.more hb1).more hN1
        have S2 := (HX.out.2.1.more hb1).more hN1
        have R2' := (HX.out.2.2.1.more hb1).more hN1
        have B2 := below_more (below_more HX.out.2.2.2 hb1) hN1
        obtain ⟨W2, hW2⟩ : ∃ W2, w1.alloc (.cells #[.int .i64 m, .slice ao len cap, .int .i64 (t : Int)] 146) = W2 := ⟨_, rfl⟩
        rw [hW2] at hN1 q L2 S2 R2' B2
        have hN2 := Below.new W2 (.cells #[.string (bs x)] 9)
        have HC := Lib.hid (room_one s m t (.slice ao len cap) rfl x (by omega) hx W2 (S2.more hN2))
        have HY := Lib.hid (And.intro q (And.intro L2 (And.intro S2 (And.intro R2' (And.intro B2 (And.intro hN2 (And.intro e3 hre)))))))
        obtain ⟨q0, q1, q2, _, _, _⟩ := id q
        clear hb1 hr ht e3 hre L2 S2 R2' B2 hN1 hN2 q
        go_wp2_with (go_at_call 117; refine HC.out.mono ?_)
        rintro e w2 ⟨v, tt, hv, _, rfl, hb2⟩
        rw [HY.out.2.2.2.2.2.2.2] at hv
        cases hv
        have b3 := below_more HY.out.2.2.2.2.2.1 hb2
        have L3 := HY.out.2.1.more b3
        have R3' := HY.out.2.2.2.1.more b3
        have B3 := below_more HY.out.2.2.2.2.1 b3
        obtain ⟨q0, q1, q2, _, _, _⟩ := HY.out.1.more b3
        have hN3 := Below.new w2 (.cells #[.string (bs x)] 9)
        have HD := Lib.hid (with_one m ao len cap zs x (.int .i64 (t : Int)) rfl hreach hx w2 L3)
        have HZ := Lib.hid (And.intro R3' (And.intro B3 hN3))
        clear hb2 b3 L3 R3' B3 hN3
        go_wp2_with (go_at_call 118; refine HD.out.mono ?_)
        rintro e w3 ⟨va, vc, rfl, hO, hb3⟩
        have b4 := below_more HZ.out.2.2 hb3
        obtain ⟨y0, y1, _, _⟩ := (HZ.out.1.more b4).set (.int .i64 m) (.slice va (len + 1) vc)
        obtain ⟨d0, d1, f0, f1⟩ := HZ.out.1.more b4
        have hlt := HZ.out.1.lt
        have hsz := HZ.out.2.2.size
        have hs0 := HZ.out.2.1.size
        have HB3 := Lib.hid (set2B (below_more HZ.out.2.1 b4) (b := w.heap.size + 1) (by omega) (.int .i64 m) (.slice va (len + 1) vc))
        have HO := Lib.hid (((hO.set1 (b := w.heap.size + 1) (i := 0) (x := .int .i64 m) (by omega)).set1 (b := w.heap.size + 1) (i := 1) (x := .slice va (len + 1) vc) (by omega)).mono (n1 := w.heap.size) (by omega))
        clear hO hb3 b4 hlt hsz hs0
        go_wp2
        generalize hWF : ((w3.setCell ⟨w.heap.size + 1, 0, none⟩ (.int .i64 m)).setCell ⟨w.heap.size + 1, 1, none⟩ (.slice va (len + 1) vc)) = WF at y0 y1 HB3 HO ⊢
        refine bodyPost_ret (v := .tuple #[.agg #[.int .i64 m, .slice va (len + 1) vc], .nilIface]) (by simp [results, Tryz.results97, go_sem, y0, y1]) rfl ?_
        obtain ⟨_, f1, f2⟩ := HY.out.2.2.2.2.2.2.1
        rw [f1, f2]
        exact ⟨va, vc, _, len + 1, by rw [List.length_append, HY.out.2.1.hlen]; rfl, .ok, rfl, HO.out, HB3.out⟩
      · exact absurd (E1.out hr).1 (by decide)
  · have hm0 : pm = 0 ∧ pl = [] := by
      cases hr : rightR m zs
      · exact (E1.out hr).2
      · by_cases h : roomE m (takes zs) [x] = 0
        · exact absurd (E3.out hr h).1 hen
        · exact (E2.out _ hr rfl h).2
    obtain ⟨rfl, rfl⟩ := hm0
    go_enter Tryz.func97, Tryz.ntmps97
    go_wp2
    refine wp_scope_jumps 0 (OutPut s w pe) (fun _ _ => 0) rfl ?first ?pass
    case pass =>
      rintro act W ⟨v, u0, u1, u2, u3, u5, u6, u8, u9, u10, u11, u12, u13, u14, u15, u16, u17, u18, u19, u20, u21, u22, u23, u24, u25, u26, u27, u28, u29, u30, rfl, ⟨hv, hr⟩, hb⟩
      obtain ⟨y0, y1, _, _⟩ := hr.set (.int .i64 0) (.slice none 0 0)
      obtain ⟨d0, d1, f0, f1⟩ := hr
      have HR := Lib.hid (And.intro hv (set2B hb (b := w.heap.size + 1) (by omega) (.int .i64 0) (.slice none 0 0)))
      clear hv hb
      go_wp2
      generalize hWF : ((W.setCell ⟨w.heap.size + 1, 0, none⟩ (.int .i64 0)).setCell ⟨w.heap.size + 1, 1, none⟩ (.slice none 0 0)) = WF at y0 y1 HR ⊢
      refine bodyPost_ret (v := .tuple #[.agg #[.int .i64 0, .slice none 0 0], v]) (by simp [results, Tryz.results97, go_sem, y0, y1]) rfl ?_
      exact ⟨none, 0, v, 0, rfl, HR.out.1, rfl, OwnT.nil _ _, HR.out.2⟩
    case first =>
      go_wp2_with (go_at_call 116; refine (open_any s m ao len cap zs hreach hsum W0 HX.out.1 HX.out.2.1).mono ?_)
      rintro e w1 ⟨⟨hr, t, ht, rfl⟩ | ⟨hr, rfl⟩, hb1⟩
      · have hre : roomE m (takes zs) [x] = pe := by
          by_cases h : roomE m (takes zs) [x] = 0
          · exact absurd (E3.out hr h).1 hen
          · exact (E2.out _ hr rfl h).1.symm
        obtain ⟨hm0, hm1, _, hm2⟩ := rightR_iff.1 hr
        rw [← ht] at hre hm2
        have hN1 := Below.new w1 (.cells #[.int .i64 m, .slice ao len cap, .int .i64 (t : Int)] 146)
        have q := R3.new w1 (.int .i64 m) (.slice ao len cap) (.int .i64 (t : Int)) 146
        have S2 := (HX.out.2.1.more hb1).more hN1
        have R2' := (HX.out.2.2.1.more hb1).more hN1
        have B2 := below_more (below_more HX.out.2.2.2 hb1) hN1
        obtain ⟨W2, hW2⟩ : ∃ W2, w1.alloc (.cells #[.int .i64 m, .slice ao len cap, .int .i64 (t : Int)] 146) = W2 := ⟨_, rfl⟩
        rw [hW2] at hN1 q S2 R2' B2
        have hN2 := Below.new W2 (.cells #[.string (bs x)] 9)
        have HC := Lib.hid (room_one s m t (.slice ao len cap) rfl x (by omega) hx W2 (S2.more hN2))
        have HY := Lib.hid (And.intro R2' (And.intro B2 (And.intro hN2 hre)))
        obtain ⟨q0, q1, q2, _, _, _⟩ := q
        clear hb1 hr ht hre S2 R2' B2 hN1 hN2
        go_wp2_with (go_at_call 117; refine HC.out.mono ?_)
        rintro e w2 ⟨v, tt, hv, _, rfl, hb2⟩
        rw [HY.out.2.2.2] at hv
        obtain ⟨a, rfl⟩ := err_iface hv hen
        have qq := neq_err a
        have b3 := below_more HY.out.2.2.1 hb2
        have HZ := Lib.hid (And.intro hv (And.intro (HY.out.1.more b3) (below_more HY.out.2.1 b3)))
        clear hv hb2 b3
        go_wp2
        apply wp_goto
        exact ⟨rfl, _, _, _, _, _, _, _, _, _, _, _, _, _, _, _, _, _, _, _, _, _, _, _, _, _, _, _, _, _, _, rfl, ⟨HZ.out.1, HZ.out.2.1⟩, HZ.out.2.2⟩
      · have e1 := (E1.out hr).1
        subst e1
        have qq := neq_err s.w
        have hN1 := Below.new w1 (.cells #[.int .i64 0, .slice none 0 0, .int .i64 0] 146)
        have HZ := Lib.hid (And.intro ((HX.out.2.2.1.more hb1).more hN1) (below_more (below_more HX.out.2.2.2 hb1) hN1))
        clear hb1 hN1 hr
        go_wp2
        apply wp_goto
        exact ⟨rfl, _, _, _, _, _, _, _, _, _, _, _, _, _, _, _, _, _, _, _, _, _, _, _, _, _, _, _, _, _, _, rfl, ⟨.wrong, HZ.out.1⟩, HZ.out.2⟩

/-- What holds at take's way out. -/
def OutTake (s : Sn) (w : World) (en : Nat) (a : Act) (W : World) : Prop := ∃ (v : Value) (u0 u1 u2 u4 u5 u7 u8 u9 u10 u11 u12 u13 u14 u15 u16 u17 u18 u19 u20 u21 u22 u23 u24 u25 u26 u27 u28 : Value), a = { tmps := #[u0, u1, u2, .pointer (some ⟨w.heap.size + 1, 0, none⟩), u4, u5, v, u7, u8, u9, u10, u11, u12, u13, u14, u15, u16, u17, u18, u19, u20, u21, u22, u23, u24, u25, u26, u27, u28], defers := [] } ∧ (ErrIs s v en ∧ R2 W (w.heap.size + 1) (.int .i64 0) (.slice none 0 0)) ∧ Below w.heap.size w W

set_option maxRecDepth 100000 in
set_option maxHeartbeats 4000000 in
theorem take_any (s : Sn) (m : Int) (ao : Option Addr) (len cap : Nat) (zs : List It) (hreach : len ≤ 1000000) (hsum : takes zs ≤ 1000000) (w : World) (hL : Txs w ao len cap zs) (hs : Sent s w) :
    Calls Tryz.prog 100 #[.agg #[.int .i64 m, .slice ao len cap]] w (ItemP s (takeX m zs) (takeM m zs) (takeL m zs) (takeE m zs) w) := by
  have hB1 := Below.new w (.cells #[.int .i64 m, .slice ao len cap] 53)
  have hB2 := below_more hB1 (Below.new _ (.cells #[.int .i64 0, .slice none 0 0] 53))
  have r1 := (R2.new w (.int .i64 m) (.slice ao len cap) 53).more (Below.new _ (.cells #[.int .i64 0, .slice none 0 0] 53))
  have r2 := R2.new (w.alloc (.cells #[.int .i64 m, .slice ao len cap] 53)) (.int .i64 0) (.slice none 0 0) 53
  rw [World.size_alloc] at r2
  obtain ⟨W0, hW0⟩ : ∃ W0, (w.alloc (.cells #[.int .i64 m, .slice ao len cap] 53)).alloc (.cells #[.int .i64 0, .slice none 0 0] 53) = W0 := ⟨_, rfl⟩
  rw [hW0] at hB2 r1 r2
  obtain ⟨pm, hpm⟩ : ∃ pm, takeM m zs = pm := ⟨_, rfl⟩
  obtain ⟨pl, hpl⟩ : ∃ pl, takeL m zs = pl := ⟨_, rfl⟩
  obtain ⟨pe, hpe⟩ : ∃ pe, takeE m zs = pe := ⟨_, rfl⟩
  obtain ⟨px, hpx⟩ : ∃ px, takeX m zs = px := ⟨_, rfl⟩
  have E1 := Lib.hid (fun h => take_wrong (m := m) (l := zs) h)
  have E2 := Lib.hid (fun h h0 => take_none (m := m) (l := zs) h h0)
  have E3 := Lib.hid (fun x h h1 => take_yes (m := m) (l := zs) (x := x) h h1)
  rw [hpm, hpl, hpe, hpx] at E1 E2 E3
  rw [hpm, hpl, hpe, hpx]
  have HX := Lib.hid (And.intro (hL.more hB2) (And.intro (hs.more hB2) (And.intro r2 hB2)))
  obtain ⟨c0, c1, _, _⟩ := r1
  have hzl := hL.hlen
  have HB0 := Lib.hid (fun hp => hL.at hp)
  clear hB1 hB2 r2 hL hs hpm hpl hpe hpx
  by_cases hen : pe = 0
  · subst hen
    have hrt : rightR m zs = true := by
      cases h : rightR m zs
      · exact absurd (E1.out h).1 (by decide)
      · rfl
    have hne : 0 < len := by
      rcases Nat.eq_zero_or_pos len with h | h
      · exact absurd (E2.out hrt (List.eq_nil_of_length_eq_zero (hzl.trans h))).1 (by decide)
      · exact h
    obtain ⟨x, hx⟩ : ∃ x, zs[0]? = some x := ⟨_, List.getElem?_eq_getElem (by rw [hzl]; exact hne)⟩
    obtain ⟨_, rfl, rfl, rfl⟩ := E3.out x hrt hx
    obtain ⟨b, off, rfl, hbl, hcs⟩ := HX.out.1.at hne
    have hbQ : b ≠ w.heap.size + 1 := by
      obtain ⟨b', off', e', hb', _⟩ := HB0.out hne
      injection e' with e'
      injection e' with e1 e2 e3
      omega
    have hi0 := hcs 0 px hx
    rw [Nat.add_zero] at hi0
    have hne1 : 1 ≤ len := hne
    have HI := Lib.hid (And.intro hi0 (And.intro hrt hzl))
    have hd0 : (((len : Nat) : Int) == 0) = false := by simp; omega
    clear hcs hx hi0 hrt hzl
    go_enter Tryz.func100, Tryz.ntmps100
    go_wp2
    refine wp_scope_jumps 0 (fun _ _ => False) (fun _ _ => 0) rfl ?first ?pass
    case pass => exact fun _ _ h => h.elim
    case first =>
      go_wp2_with (go_at_call 116; refine (open_any s pm _ len cap zs hreach hsum W0 HX.out.1 HX.out.2.1).mono ?_)
      rintro e w1 ⟨⟨hr, t, ht, rfl⟩ | ⟨hr, rfl⟩, hb1⟩
      · have hN1 := Below.new w1 (.cells #[.int .i64 pm, .slice (some ⟨b, off, none⟩) len cap, .int .i64 (t : Int)] 146)
        have q := R3.new w1 (.int .i64 pm) (.slice (some ⟨b, off, none⟩) len cap) (.int .i64 (t : Int)) 146
        have L2 := (HX.out.1.more hb1).more hN1
        have R2' := (HX.out.2.2.1.more hb1).more hN1
        have B2 := below_more (below_more HX.out.2.2.2 hb1) hN1
        have i2 := cell_later hN1 (cell_later hb1 HI.out.1)
        obtain ⟨W2, hW2⟩ : ∃ W2, w1.alloc (.cells #[.int .i64 pm, .slice (some ⟨b, off, none⟩) len cap, .int .i64 (t : Int)] 146) = W2 := ⟨_, rfl⟩
        have hQ : w1.heap.size ≠ w.heap.size + 1 := by have := (HX.out.2.2.1.more hb1).lt; omega
        rw [hW2] at hN1 q L2 R2' B2 i2
        have hD : Below W2.heap.size W2 W2.drew := (Below.refl _ W2).drew
        have HY := Lib.hid (And.intro (L2.more hD) (And.intro (R2'.more hD) (below_more B2 hD)))
        obtain ⟨q0, q1, q2, _, _, _⟩ := q
        have x0 := cell_later hD q0
        have x1 := cell_later hD q1
        have x2 := cell_later hD q2
        have x3 := cell_later hD i2
        clear hb1 hr ht L2 R2' B2 hN1 hD
        go_wp2
        go_region_held3 (fun w' => w'.cell? ⟨w1.heap.size, 0, none⟩ = some (.int .i64 pm) ∧ w'.cell? ⟨w1.heap.size, 1, none⟩ = some (.slice (some ⟨b, off, none⟩) len cap) ∧ w'.cell? ⟨w1.heap.size, 2, none⟩ = some (.int .i64 (t : Int)) ∧ w'.cell? ⟨b, off, none⟩ = some (.string (bs px)))
          (first | (simp only [World.cell?_drew, q0, q1, q2, i2, and_self]; done) | (with_reducible exact ⟨cell_later hb x0, cell_later hb x1, cell_later hb x2, cell_later hb x3⟩) | (with_reducible exact ⟨set2O (cell_later hb x0) hQ.symm, set2O (cell_later hb x1) hQ.symm, set2O (cell_later hb x2) hQ.symm, set2O (cell_later hb x3) hbQ.symm⟩))
          (first | (go_at_call 120; ((with_reducible refine (rest_any pm _ len cap zs _ rfl hreach hne1 _ HY.out.1).mono ?_); rintro e w3 ⟨va, vc, rfl, hO, hb⟩; obtain ⟨d0, d1, f0, f1⟩ := HY.out.2.1.more hb)))
        obtain ⟨y0, y1, _, _⟩ := R2.set ⟨d0, d1, f0, f1⟩ (.int .i64 pm) (.slice va (len - 1) vc)
        have hz : W2.drew.heap.size = W2.heap.size := rfl
        have hlt := HY.out.2.1.lt
        have hs0 := HY.out.2.2.size
        have HB3 := Lib.hid (set2B (below_more HY.out.2.2 hb) (b := w.heap.size + 1) (by omega) (.int .i64 pm) (.slice va (len - 1) vc))
        have HO := Lib.hid (((hO.set1 (b := w.heap.size + 1) (i := 0) (x := .int .i64 pm) (by omega)).set1 (b := w.heap.size + 1) (i := 1) (x := .slice va (len - 1) vc) (by omega)).mono (n1 := w.heap.size) (by omega))
        clear hO hb hlt hs0
        go_wp2
        generalize hWF : ((w3.setCell ⟨w.heap.size + 1, 0, none⟩ (.int .i64 pm)).setCell ⟨w.heap.size + 1, 1, none⟩ (.slice va (len - 1) vc)) = WF at y0 y1 HB3 HO ⊢
        refine bodyPost_ret (v := .tuple #[.string (bs px), .agg #[.int .i64 pm, .slice va (len - 1) vc], .nilIface]) (by simp [results, Tryz.results100, go_sem, y0, y1]) rfl ?_
        rw [← List.drop_one]
        exact ⟨va, vc, _, len - 1, by rw [List.length_drop, HI.out.2.2], .ok, rfl, HO.out, HB3.out⟩
      · exact absurd (HI.out.2.1.symm.trans hr) (by decide)
  · have hm0 : pm = 0 ∧ pl = [] ∧ px = [] := by
      cases hr : rightR m zs
      · exact (E1.out hr).2
      · by_cases h : zs = []
        · exact (E2.out hr h).2
        · obtain ⟨x, hx⟩ : ∃ x, zs[0]? = some x := ⟨_, List.getElem?_eq_getElem (List.length_pos_iff.2 h)⟩
          exact absurd (E3.out x hr hx).1 hen
    obtain ⟨rfl, rfl, rfl⟩ := hm0
    go_enter Tryz.func100, Tryz.ntmps100
    go_wp2
    refine wp_scope_jumps 0 (OutTake s w pe) (fun _ _ => 0) rfl ?first ?pass
    case pass =>
      rintro act W ⟨v, u0, u1, u2, u4, u5, u7, u8, u9, u10, u11, u12, u13, u14, u15, u16, u17, u18, u19, u20, u21, u22, u23, u24, u25, u26, u27, u28, rfl, ⟨hv, hr⟩, hb⟩
      obtain ⟨y0, y1, _, _⟩ := hr.set (.int .i64 0) (.slice none 0 0)
      obtain ⟨d0, d1, f0, f1⟩ := hr
      have HR := Lib.hid (And.intro hv (set2B hb (b := w.heap.size + 1) (by omega) (.int .i64 0) (.slice none 0 0)))
      clear hv hb
      go_wp2
      generalize hWF : ((W.setCell ⟨w.heap.size + 1, 0, none⟩ (.int .i64 0)).setCell ⟨w.heap.size + 1, 1, none⟩ (.slice none 0 0)) = WF at y0 y1 HR ⊢
      refine bodyPost_ret (v := .tuple #[.string { data := #[] }, .agg #[.int .i64 0, .slice none 0 0], v]) (by simp [results, Tryz.results100, go_sem, y0, y1]) rfl ?_
      exact ⟨none, 0, v, 0, rfl, HR.out.1, rfl, OwnT.nil _ _, HR.out.2⟩
    case first =>
      go_wp2_with (go_at_call 116; refine (open_any s m ao len cap zs hreach hsum W0 HX.out.1 HX.out.2.1).mono ?_)
      rintro e w1 ⟨⟨hr, t, ht, rfl⟩ | ⟨hr, rfl⟩, hb1⟩
      · have hz : zs = [] := Classical.byContradiction fun h => by
          obtain ⟨x, hx⟩ : ∃ x, zs[0]? = some x := ⟨_, List.getElem?_eq_getElem (List.length_pos_iff.2 h)⟩
          exact absurd (E3.out x hr hx).1 hen
        have e2 := (E2.out hr hz).1
        subst e2
        obtain rfl : 0 = len := by rw [← hzl, hz]; rfl
        have hN1 := Below.new w1 (.cells #[.int .i64 m, .slice ao 0 cap, .int .i64 (t : Int)] 146)
        obtain ⟨q0, q1, q2, _, _, _⟩ := R3.new w1 (.int .i64 m) (.slice ao 0 cap) (.int .i64 (t : Int)) 146
        have k0 := ((HX.out.2.1.more hb1).more hN1).ce
        have HZ := Lib.hid (And.intro ((HX.out.2.2.1.more hb1).more hN1) (below_more (below_more HX.out.2.2.2 hb1) hN1))
        clear hb1 hN1 hr ht hz hzl
        go_wp2
        apply wp_goto
        exact ⟨rfl, _, _, _, _, _, _, _, _, _, _, _, _, _, _, _, _, _, _, _, _, _, _, _, _, _, _, _, _, rfl, ⟨.empty, HZ.out.1⟩, HZ.out.2⟩
      · have e1 := (E1.out hr).1
        subst e1
        have qq := neq_err s.w
        have hN1 := Below.new w1 (.cells #[.int .i64 0, .slice none 0 0, .int .i64 0] 146)
        have HZ := Lib.hid (And.intro ((HX.out.2.2.1.more hb1).more hN1) (below_more (below_more HX.out.2.2.2 hb1) hN1))
        clear hb1 hN1 hr
        go_wp2
        apply wp_goto
        exact ⟨rfl, _, _, _, _, _, _, _, _, _, _, _, _, _, _, _, _, _, _, _, _, _, _, _, _, _, _, _, _, rfl, ⟨.wrong, HZ.out.1⟩, HZ.out.2⟩


end Go.Proofs.YtnbpfbmhheimbaaGreatDoor

/- New, Right, Used, Put, Take, All. -/
namespace Go.Proofs.YtnbpfbmhheimbaaGreatDoor
open Go.RowKit Go.Proofs.Fld Go.Proofs.Rng Go.Shelf Go.Sort

/-- A ring is told, and a number. -/
def TellR (m : Int) (l : List It) (k : Nat) (c : Int) (w : World) (e : Ending) (w' : World) : Prop :=
  ∃ va vc, e = .returned (.tuple #[.agg #[.int .i64 m, .slice va k vc], .int .i64 c]) ∧ (Txs w' va k vc l ∧ OwnT w.heap.size w' (.slice va k vc) l) ∧ Below w.heap.size w w'
/-- An item, a ring, a number. -/
def TellX (x : It) (m : Int) (l : List It) (k : Nat) (c : Int) (w : World) (e : Ending) (w' : World) : Prop :=
  ∃ va vc, e = .returned (.tuple #[.string (bs x), .agg #[.int .i64 m, .slice va k vc], .int .i64 c]) ∧ (Txs w' va k vc l ∧ OwnT w.heap.size w' (.slice va k vc) l) ∧ Below w.heap.size w w'
/-- A ring, how many, a number. -/
def TellA (m : Int) (l : List It) (k n : Nat) (c : Int) (w : World) (e : Ending) (w' : World) : Prop :=
  ∃ va vc, e = .returned (.tuple #[.agg #[.int .i64 m, .slice va k vc], .int .i64 (n : Int), .int .i64 c]) ∧ (Txs w' va k vc l ∧ OwnT w.heap.size w' (.slice va k vc) l) ∧ Below w.heap.size w w'
theorem Sent.set2 {s : Sn} {w A : World} {X : Nat} {u v : Value} (h : Sent s w) (hb : Below w.heap.size w A) (hX : w.heap.size ≤ X) : Sent s ((A.setCell ⟨X, 0, none⟩ u).setCell ⟨X, 1, none⟩ v) := h.more (set2B hb hX u v)

set_option maxRecDepth 100000 in
set_option maxHeartbeats 4000000 in
theorem Put_p {s : Sn} {m : Int} {ao : Option Addr} {len cap : Nat} {zs : List It} {x : It} {pm : Int} {pl : List It} {pe k : Nat} (hx : x.length ≤ 900000) (hreach : len ≤ 1000000) (hsum : takes zs ≤ 1000000) (hpm : putM m zs x = pm) (hpl : putL m zs x = pl) (hpe : putE m zs x = pe) (hk : pl.length = k) {w : World} (hL : Txs w ao len cap zs) (hs : Sent s w) :
    Calls Tryz.prog 72 #[.agg #[.int .i64 m, .slice ao len cap], .string (bs x)] w (TellR pm pl k (errN pe) w) := by
  have hB1 := Below.new w (.cells #[.int .i64 m, .slice ao len cap] 53)
  have hB2 := below_more hB1 (Below.new _ (.cells #[.int .i64 0, .slice none 0 0] 53))
  have r1 := (R2.new w (.int .i64 m) (.slice ao len cap) 53).more (Below.new _ (.cells #[.int .i64 0, .slice none 0 0] 53))
  have r2 := R2.new (w.alloc (.cells #[.int .i64 m, .slice ao len cap] 53)) (.int .i64 0) (.slice none 0 0) 53
  rw [World.size_alloc] at r2
  obtain ⟨W0, hW0⟩ : ∃ W0, (w.alloc (.cells #[.int .i64 m, .slice ao len cap] 53)).alloc (.cells #[.int .i64 0, .slice none 0 0] 53) = W0 := ⟨_, rfl⟩
  rw [hW0] at hB2 r1 r2
  have hf : ∀ y ∈ pl, y.length ≤ 9223372036854775807 := by
    intro y hy
    rw [← hpl] at hy
    unfold putL at hy
    split at hy
    · rcases List.mem_append.1 hy with h | h
      · exact hL.hfits y h
      · obtain rfl : y = x := by simpa using h
        omega
    · cases hy
  have HP := Lib.hid (put_any s m ao len cap zs x hx hreach hsum W0 (hL.more hB2) (hs.more hB2))
  rw [hpm, hpl, hpe] at HP
  have HX := Lib.hid (And.intro hs (And.intro r2 (And.intro hB2 (And.intro hf hk))))
  obtain ⟨c0, c1, _, _⟩ := r1
  clear hB1 hB2 r2 hL hs hpm hpl hpe hf hk
  go_enter Tryz.func72, Tryz.ntmps72
  go_wp2_with (go_at_call 97; refine HP.out.mono ?_)
  rintro e w1 ⟨va, vc, v, k', rfl, hv, rfl, hO, hb1⟩
  have hkk := HX.out.2.2.2.2
  rw [hkk] at hO
  rw [hkk]
  have hN1 := Below.new w1 (.cells #[.int .i64 pm, .slice va k vc] 53)
  have q := R2.new w1 (.int .i64 pm) (.slice va k vc) 53
  have O2 := hO.more hN1
  have RR := HX.out.2.1.more hb1
  have BB := below_more HX.out.2.2.1 hb1
  have hl0 := HX.out.2.1.lt
  clear hO hkk hb1
  have hQ : w.heap.size + 1 ≠ w1.heap.size := by have := RR.lt; omega
  have B2 := below_more BB hN1
  have R2' := RR.more hN1
  obtain ⟨W2, hW2⟩ : ∃ W2, w1.alloc (.cells #[.int .i64 pm, .slice va k vc] 53) = W2 := ⟨_, rfl⟩
  rw [hW2] at hN1 q R2' B2 O2
  have hD : Below W2.heap.size W2 W2.drew := (Below.refl _ W2).drew
  have B3 := below_more B2 hD
  have hlt := R2'.lt
  have z0 : ∀ u x, (((W2.setCell ⟨w.heap.size + 1, 0, none⟩ u).setCell ⟨w.heap.size + 1, 1, none⟩ x).drew).cell? ⟨w1.heap.size, 0, none⟩ = some (.int .i64 pm) := fun u x => set2O q.c0 hQ
  have z1 : ∀ u x, (((W2.setCell ⟨w.heap.size + 1, 0, none⟩ u).setCell ⟨w.heap.size + 1, 1, none⟩ x).drew).cell? ⟨w1.heap.size, 1, none⟩ = some (.slice va k vc) := fun u x => set2O q.c1 hQ
  have zs2 : ∀ u x, Sent s (((W2.setCell ⟨w.heap.size + 1, 0, none⟩ u).setCell ⟨w.heap.size + 1, 1, none⟩ x).drew) := fun u x => HX.out.1.more (set2B B2 (b := w.heap.size + 1) (by omega) u x).drew
  have HS := Lib.hid (And.intro (HX.out.1.more B3) zs2)
  obtain ⟨d0, d1, f0, f1⟩ := id R2'
  obtain ⟨y0, y1, _, _⟩ := R2'.set (.int .i64 pm) (.slice va k vc)
  have x0 := cell_later hD q.c0
  have x1 := cell_later hD q.c1
  have q0 := q.c0
  have q1 := q.c1
  have HB3 := Lib.hid (set2B B2 (b := w.heap.size + 1) (by omega) (.int .i64 pm) (.slice va k vc))
  have HO := Lib.hid (((O2.set1 (b := w.heap.size + 1) (i := 0) (x := .int .i64 pm) (by omega)).set1 (b := w.heap.size + 1) (i := 1) (x := .slice va k vc) (by omega)).mono (n1 := w.heap.size) (by have := HX.out.2.2.1.size; omega))
  have HV := Lib.hid hv
  clear q zs2 RR BB R2' B2 B3 hN1 hD hlt hv O2
  go_wp2
  go_region_held3 (fun w' => w'.cell? ⟨w1.heap.size, 0, none⟩ = some (.int .i64 pm) ∧ w'.cell? ⟨w1.heap.size, 1, none⟩ = some (.slice va k vc) ∧ Sent s w')
    (first | (with_reducible exact ⟨x0, x1, HS.out.1⟩) | (with_reducible exact ⟨z0 _ _, z1 _ _, HS.out.2 _ _⟩))
    (first | (go_at_call 98; go_split_ands; ((with_reducible refine (told_any s HV.out _ (by assumption)).mono ?_); rintro e w3 ⟨rfl, rfl⟩)))
  all_goals go_wp2
  all_goals
    generalize hWF : ((W2.setCell ⟨w.heap.size + 1, 0, none⟩ (.int .i64 pm)).setCell ⟨w.heap.size + 1, 1, none⟩ (.slice va k vc)) = WF at y0 y1 HB3 HO ⊢
    refine bodyPost_ret (v := .tuple #[.agg #[.int .i64 pm, .slice va k vc], .int .i64 (errN pe)]) (by simp [results, Tryz.results72, go_sem, y0, y1]) rfl ?_
    exact ⟨va, vc, rfl, ⟨(HO.out.more (Below.refl _ WF).drew).txs HX.out.2.2.2.2 HX.out.2.2.2.1, HO.out.more (Below.refl _ WF).drew⟩, HB3.out.drew⟩

set_option maxRecDepth 100000 in
set_option maxHeartbeats 4000000 in
theorem Take_p {s : Sn} {m : Int} {ao : Option Addr} {len cap : Nat} {zs : List It} {px : It} {pm : Int} {pl : List It} {pe k : Nat} (hreach : len ≤ 1000000) (hsum : takes zs ≤ 1000000) (hpx : takeX m zs = px) (hpm : takeM m zs = pm) (hpl : takeL m zs = pl) (hpe : takeE m zs = pe) (hk : pl.length = k) {w : World} (hL : Txs w ao len cap zs) (hs : Sent s w) :
    Calls Tryz.prog 76 #[.agg #[.int .i64 m, .slice ao len cap]] w (TellX px pm pl k (errN pe) w) := by
  have hB1 := Below.new w (.cells #[.int .i64 m, .slice ao len cap] 53)
  have hB2 := below_more hB1 (Below.new _ (.cells #[.int .i64 0, .slice none 0 0] 53))
  have r1 := (R2.new w (.int .i64 m) (.slice ao len cap) 53).more (Below.new _ (.cells #[.int .i64 0, .slice none 0 0] 53))
  have r2 := R2.new (w.alloc (.cells #[.int .i64 m, .slice ao len cap] 53)) (.int .i64 0) (.slice none 0 0) 53
  rw [World.size_alloc] at r2
  obtain ⟨W0, hW0⟩ : ∃ W0, (w.alloc (.cells #[.int .i64 m, .slice ao len cap] 53)).alloc (.cells #[.int .i64 0, .slice none 0 0] 53) = W0 := ⟨_, rfl⟩
  rw [hW0] at hB2 r1 r2
  have hf : ∀ y ∈ pl, y.length ≤ 9223372036854775807 := by
    intro y hy
    rw [← hpl] at hy
    unfold takeL at hy
    split at hy
    · exact hL.hfits y (List.mem_of_mem_tail hy)
    · cases hy
  have HP := Lib.hid (take_any s m ao len cap zs hreach hsum W0 (hL.more hB2) (hs.more hB2))
  rw [hpx, hpm, hpl, hpe] at HP
  have HX := Lib.hid (And.intro hs (And.intro r2 (And.intro hB2 (And.intro hf hk))))
  obtain ⟨c0, c1, _, _⟩ := r1
  clear hB1 hB2 r2 hL hs hpm hpl hpe hf hk hpx
  go_enter Tryz.func76, Tryz.ntmps76
  go_wp2_with (go_at_call 100; refine HP.out.mono ?_)
  rintro e w1 ⟨va, vc, v, k', rfl, hv, rfl, hO, hb1⟩
  have hkk := HX.out.2.2.2.2
  rw [hkk] at hO
  rw [hkk]
  have hN1 := Below.new w1 (.cells #[.int .i64 pm, .slice va k vc] 53)
  have q := R2.new w1 (.int .i64 pm) (.slice va k vc) 53
  have O2 := hO.more hN1
  have RR := HX.out.2.1.more hb1
  have BB := below_more HX.out.2.2.1 hb1
  have hl0 := HX.out.2.1.lt
  clear hO hkk hb1
  have hQ : w.heap.size + 1 ≠ w1.heap.size := by have := RR.lt; omega
  have B2 := below_more BB hN1
  have R2' := RR.more hN1
  obtain ⟨W2, hW2⟩ : ∃ W2, w1.alloc (.cells #[.int .i64 pm, .slice va k vc] 53) = W2 := ⟨_, rfl⟩
  rw [hW2] at hN1 q R2' B2 O2
  have hD : Below W2.heap.size W2 W2.drew := (Below.refl _ W2).drew
  have B3 := below_more B2 hD
  have hlt := R2'.lt
  have z0 : ∀ u x, (((W2.setCell ⟨w.heap.size + 1, 0, none⟩ u).setCell ⟨w.heap.size + 1, 1, none⟩ x).drew).cell? ⟨w1.heap.size, 0, none⟩ = some (.int .i64 pm) := fun u x => set2O q.c0 hQ
  have z1 : ∀ u x, (((W2.setCell ⟨w.heap.size + 1, 0, none⟩ u).setCell ⟨w.heap.size + 1, 1, none⟩ x).drew).cell? ⟨w1.heap.size, 1, none⟩ = some (.slice va k vc) := fun u x => set2O q.c1 hQ
  have zs2 : ∀ u x, Sent s (((W2.setCell ⟨w.heap.size + 1, 0, none⟩ u).setCell ⟨w.heap.size + 1, 1, none⟩ x).drew) := fun u x => HX.out.1.more (set2B B2 (b := w.heap.size + 1) (by omega) u x).drew
  have HS := Lib.hid (And.intro (HX.out.1.more B3) zs2)
  obtain ⟨d0, d1, f0, f1⟩ := id R2'
  obtain ⟨y0, y1, _, _⟩ := R2'.set (.int .i64 pm) (.slice va k vc)
  have x0 := cell_later hD q.c0
  have x1 := cell_later hD q.c1
  have q0 := q.c0
  have q1 := q.c1
  have HB3 := Lib.hid (set2B B2 (b := w.heap.size + 1) (by omega) (.int .i64 pm) (.slice va k vc))
  have HO := Lib.hid (((O2.set1 (b := w.heap.size + 1) (i := 0) (x := .int .i64 pm) (by omega)).set1 (b := w.heap.size + 1) (i := 1) (x := .slice va k vc) (by omega)).mono (n1 := w.heap.size) (by have := HX.out.2.2.1.size; omega))
  have HV := Lib.hid hv
  clear q zs2 RR BB R2' B2 B3 hN1 hD hlt hv O2
  go_wp2
  go_region_held3 (fun w' => w'.cell? ⟨w1.heap.size, 0, none⟩ = some (.int .i64 pm) ∧ w'.cell? ⟨w1.heap.size, 1, none⟩ = some (.slice va k vc) ∧ Sent s w')
    (first | (with_reducible exact ⟨x0, x1, HS.out.1⟩) | (with_reducible exact ⟨z0 _ _, z1 _ _, HS.out.2 _ _⟩))
    (first | (go_at_call 98; go_split_ands; ((with_reducible refine (told_any s HV.out _ (by assumption)).mono ?_); rintro e w3 ⟨rfl, rfl⟩)))
  all_goals go_wp2
  all_goals
    generalize hWF : ((W2.setCell ⟨w.heap.size + 1, 0, none⟩ (.int .i64 pm)).setCell ⟨w.heap.size + 1, 1, none⟩ (.slice va k vc)) = WF at y0 y1 HB3 HO ⊢
    refine bodyPost_ret (v := .tuple #[.string (bs px), .agg #[.int .i64 pm, .slice va k vc], .int .i64 (errN pe)]) (by simp [results, Tryz.results76, go_sem, y0, y1]) rfl ?_
    exact ⟨va, vc, rfl, ⟨(HO.out.more (Below.refl _ WF).drew).txs HX.out.2.2.2.2 HX.out.2.2.2.1, HO.out.more (Below.refl _ WF).drew⟩, HB3.out.drew⟩

theorem new_open (s : Sn) (m : Int) (w : World) (hs : Sent s w) : Calls Tryz.prog 116 #[.agg #[.int .i64 m, .slice none 0 0]] w (OpenP s m none 0 0 [] w) := open_any s m none 0 0 [] (by omega) (by simp [takes]) w (Txs.nil w) hs
set_option maxRecDepth 100000 in
set_option maxHeartbeats 4000000 in
theorem New_p {s : Sn} {m pm : Int} {pe : Nat} (hp1 : rightR m [] = true → pm = m ∧ pe = 0) (hp2 : rightR m [] = false → pm = 0 ∧ pe = 1) {w : World} (hs : Sent s w) :
    Calls Tryz.prog 105 #[.int .i64 m] w (TellR pm [] 0 (errN pe) w) := by
  have hB2 := Below.new w (.cells #[.int .i64 0, .slice none 0 0] 53)
  have r2 := R2.new w (.int .i64 0) (.slice none 0 0) 53
  obtain ⟨W0, hW0⟩ : ∃ W0, w.alloc (.cells #[.int .i64 0, .slice none 0 0] 53) = W0 := ⟨_, rfl⟩
  rw [hW0] at hB2 r2
  have HP := Lib.hid (new_open s m W0 (hs.more hB2))
  have HX := Lib.hid (And.intro hs (And.intro r2 (And.intro hB2 (And.intro hp1 hp2))))
  clear hB2 r2 hs hp1 hp2
  go_enter Tryz.func105, Tryz.ntmps105
  go_wp2_with (go_at_call 116; refine HP.out.mono ?_)
  rintro e w1 ⟨⟨hr, t, ht, rfl⟩ | ⟨hr, rfl⟩, hb1⟩
  · obtain ⟨rfl, rfl⟩ := HX.out.2.2.2.1 hr
    have hv : ErrIs s .nilIface 0 := .ok
    have hN1 := Below.new w1 (.cells #[.int .i64 pm, .slice none 0 0, .int .i64 (t : Int)] 146)
    have q := R3.new w1 (.int .i64 pm) (.slice none 0 0) (.int .i64 (t : Int)) 146
    have RR := HX.out.2.1.more hb1
    have BB := below_more HX.out.2.2.1 hb1
    have hl0 := HX.out.2.1.lt
    clear hb1 hr ht
    have hQ : w.heap.size ≠ w1.heap.size := by have := RR.lt; omega
    have B2 := below_more BB hN1
    have R2' := RR.more hN1
    obtain ⟨W2, hW2⟩ : ∃ W2, w1.alloc (.cells #[.int .i64 pm, .slice none 0 0, .int .i64 (t : Int)] 146) = W2 := ⟨_, rfl⟩
    rw [hW2] at hN1 q R2' B2
    have hD : Below W2.heap.size W2 W2.drew := (Below.refl _ W2).drew
    have B3 := below_more B2 hD
    have hlt := R2'.lt
    have z0 : ∀ u x, (((W2.setCell ⟨w.heap.size, 0, none⟩ u).setCell ⟨w.heap.size, 1, none⟩ x).drew).cell? ⟨w1.heap.size, 0, none⟩ = some (.int .i64 pm) := fun u x => set2O q.c0 hQ
    have z1 : ∀ u x, (((W2.setCell ⟨w.heap.size, 0, none⟩ u).setCell ⟨w.heap.size, 1, none⟩ x).drew).cell? ⟨w1.heap.size, 1, none⟩ = some (.slice none 0 0) := fun u x => set2O q.c1 hQ
    have zs2 : ∀ u x, Sent s (((W2.setCell ⟨w.heap.size, 0, none⟩ u).setCell ⟨w.heap.size, 1, none⟩ x).drew) := fun u x => HX.out.1.more (set2B B2 (b := w.heap.size) (by omega) u x).drew
    have HS := Lib.hid (And.intro (HX.out.1.more B3) zs2)
    obtain ⟨d0, d1, f0, f1⟩ := id R2'
    obtain ⟨y0, y1, _, _⟩ := R2'.set (.int .i64 pm) (.slice none 0 0)
    have x0 := cell_later hD q.c0
    have x1 := cell_later hD q.c1
    have q0 := q.c0
    have q1 := q.c1
    have HB3 := Lib.hid (set2B B2 (b := w.heap.size) (by omega) (.int .i64 pm) (.slice none 0 0))
    have HV := Lib.hid hv
    clear q zs2 RR BB R2' B2 B3 hN1 hD hlt hv
    go_wp2
    go_region_held3 (fun w' => w'.cell? ⟨w1.heap.size, 0, none⟩ = some (.int .i64 pm) ∧ w'.cell? ⟨w1.heap.size, 1, none⟩ = some (.slice none 0 0) ∧ Sent s w')
      (first | (with_reducible exact ⟨x0, x1, HS.out.1⟩) | (with_reducible exact ⟨z0 _ _, z1 _ _, HS.out.2 _ _⟩))
      (first | (go_at_call 98; go_split_ands; ((with_reducible refine (told_any s HV.out _ (by assumption)).mono ?_); rintro e w3 ⟨rfl, rfl⟩)))
    all_goals go_wp2
    all_goals
      generalize hWF : ((W2.setCell ⟨w.heap.size, 0, none⟩ (.int .i64 pm)).setCell ⟨w.heap.size, 1, none⟩ (.slice none 0 0)) = WF at y0 y1 HB3 ⊢
      refine bodyPost_ret (v := .tuple #[.agg #[.int .i64 pm, .slice none 0 0], .int .i64 (errN 0)]) (by simp [results, Tryz.results105, go_sem, y0, y1]) rfl ?_
      exact ⟨none, 0, rfl, ⟨Txs.nil _, OwnT.nil _ _⟩, HB3.out.drew⟩
  · obtain ⟨rfl, rfl⟩ := HX.out.2.2.2.2 hr
    have hv : ErrIs s (.iface 207 (.pointer (some s.w))) 1 := .wrong
    have hN1 := Below.new w1 (.cells #[.int .i64 0, .slice none 0 0, .int .i64 0] 146)
    have q := R3.new w1 (.int .i64 0) (.slice none 0 0) (.int .i64 0) 146
    have RR := HX.out.2.1.more hb1
    have BB := below_more HX.out.2.2.1 hb1
    have hl0 := HX.out.2.1.lt
    clear hb1 hr
    go_wp2
    have hQ : w.heap.size ≠ w1.heap.size := by have := RR.lt; omega
    have B2 := below_more BB hN1
    have R2' := RR.more hN1
    obtain ⟨W2, hW2⟩ : ∃ W2, w1.alloc (.cells #[.int .i64 0, .slice none 0 0, .int .i64 0] 146) = W2 := ⟨_, rfl⟩
    rw [hW2] at hN1 q R2' B2 ⊢
    have hD : Below W2.heap.size W2 W2.drew := (Below.refl _ W2).drew
    have B3 := below_more B2 hD
    have hlt := R2'.lt
    have z0 : ∀ u x, (((W2.setCell ⟨w.heap.size, 0, none⟩ u).setCell ⟨w.heap.size, 1, none⟩ x).drew).cell? ⟨w1.heap.size, 0, none⟩ = some (.int .i64 0) := fun u x => set2O q.c0 hQ
    have z1 : ∀ u x, (((W2.setCell ⟨w.heap.size, 0, none⟩ u).setCell ⟨w.heap.size, 1, none⟩ x).drew).cell? ⟨w1.heap.size, 1, none⟩ = some (.slice none 0 0) := fun u x => set2O q.c1 hQ
    have zs2 : ∀ u x, Sent s (((W2.setCell ⟨w.heap.size, 0, none⟩ u).setCell ⟨w.heap.size, 1, none⟩ x).drew) := fun u x => HX.out.1.more (set2B B2 (b := w.heap.size) (by omega) u x).drew
    have HS := Lib.hid (And.intro (HX.out.1.more B3) zs2)
    obtain ⟨d0, d1, f0, f1⟩ := id R2'
    obtain ⟨y0, y1, _, _⟩ := R2'.set (.int .i64 0) (.slice none 0 0)
    have x0 := cell_later hD q.c0
    have x1 := cell_later hD q.c1
    have q0 := q.c0
    have q1 := q.c1
    have HB3 := Lib.hid (set2B B2 (b := w.heap.size) (by omega) (.int .i64 0) (.slice none 0 0))
    have HV := Lib.hid hv
    clear q zs2 RR BB R2' B2 B3 hN1 hD hlt hv
    go_region_held3 (fun w' => w'.cell? ⟨w1.heap.size, 0, none⟩ = some (.int .i64 0) ∧ w'.cell? ⟨w1.heap.size, 1, none⟩ = some (.slice none 0 0) ∧ Sent s w')
      (first | (with_reducible exact ⟨x0, x1, HS.out.1⟩) | (with_reducible exact ⟨z0 _ _, z1 _ _, HS.out.2 _ _⟩))
      (first | (go_at_call 98; go_split_ands; ((with_reducible refine (told_any s HV.out _ (by assumption)).mono ?_); rintro e w3 ⟨rfl, rfl⟩)))
    all_goals go_wp2
    all_goals
      generalize hWF : ((W2.setCell ⟨w.heap.size, 0, none⟩ (.int .i64 0)).setCell ⟨w.heap.size, 1, none⟩ (.slice none 0 0)) = WF at y0 y1 HB3 ⊢
      refine bodyPost_ret (v := .tuple #[.agg #[.int .i64 0, .slice none 0 0], .int .i64 (errN 1)]) (by simp [results, Tryz.results105, go_sem, y0, y1]) rfl ?_
      exact ⟨none, 0, rfl, ⟨Txs.nil _, OwnT.nil _ _⟩, HB3.out.drew⟩

set_option maxHeartbeats 2000000 in
theorem Right_p {s : Sn} {m : Int} {ao : Option Addr} {len cap : Nat} {zs : List It} {b : Bool} (hreach : len ≤ 1000000) (hsum : takes zs ≤ 1000000) (hb : rightR m zs = b) {w : World} (hL : Txs w ao len cap zs) (hs : Sent s w) :
    Calls Tryz.prog 137 #[.agg #[.int .i64 m, .slice ao len cap]] w (BoolP b w) := by
  have hB2 := Below.new w (.cells #[.int .i64 m, .slice ao len cap] 53)
  obtain ⟨c0, c1, _, _⟩ := R2.new w (.int .i64 m) (.slice ao len cap) 53
  have HP := Lib.hid (open_any s m ao len cap zs hreach hsum _ (hL.more hB2) (hs.more hB2))
  have HB := Lib.hid (And.intro hB2 hb)
  clear hB2 hL hs hb
  go_enter Tryz.func137, Tryz.ntmps137
  go_wp2_with (go_at_call 116; refine HP.out.mono ?_)
  rintro e w1 ⟨⟨hr, t, ht, rfl⟩ | ⟨hr, rfl⟩, hb1⟩
  · have HZ := Lib.hid (And.intro (below_more (below_more HB.out.1 hb1) (Below.new w1 (.cells #[.int .i64 m, .slice ao len cap, .int .i64 (t : Int)] 146))) (HB.out.2.symm.trans hr))
    clear hb1 hr ht
    go_wp2
    go_ret
    exact ⟨by rw [HZ.out.2]; rfl, HZ.out.1⟩
  · have HZ := Lib.hid (And.intro (below_more (below_more HB.out.1 hb1) (Below.new w1 (.cells #[.int .i64 0, .slice none 0 0, .int .i64 0] 146))) (HB.out.2.symm.trans hr))
    have qq := eql_err s.w
    clear hb1 hr
    go_wp2
    go_ret
    exact ⟨by rw [HZ.out.2]; rfl, HZ.out.1⟩

end Go.Proofs.YtnbpfbmhheimbaaGreatDoor

/- Same: the same, field by field? The program's, and the document's. -/
namespace Go.Proofs.Rng
theorem sameT_iff {l m : List It} : sameT l m = true ↔ l = m := by simp [sameT]
theorem sameT_len {l m : List It} (h : l.length ≠ m.length) : sameT l m = false := by
  cases e : sameT l m
  · rfl
  · rw [sameT_iff] at e; rw [e] at h; exact absurd rfl h
theorem sameT_at {l m : List It} {k : Nat} {x y : It} (hx : l[k]? = some x) (hy : m[k]? = some y) (h : decide (x = y) = false) : sameT l m = false := by
  cases e : sameT l m
  · rfl
  · rw [sameT_iff] at e
    subst e
    rw [hx] at hy
    obtain rfl := Option.some.inj hy
    simp at h
theorem sameT_all {l m : List It} (hl : l.length = m.length) (h : ∀ j x y, j < l.length → l[j]? = some x → m[j]? = some y → decide (x = y) = true) : sameT l m = true := by
  rw [sameT_iff]
  refine List.ext_getElem hl fun j h1 h2 => ?_
  exact of_decide_eq_true (h j _ _ h1 (List.getElem?_eq_getElem h1) (List.getElem?_eq_getElem h2))
/-- Are two rings the same? -/
def sameR (m : Int) (l : List It) (m' : Int) (l' : List It) : Bool := decide (m = m') && sameT l l'
theorem sameR_iff {m m' : Int} {l l' : List It} : sameR m l m' l' = true ↔ m = m' ∧ l = l' := by simp [sameR, sameT]
end Go.Proofs.Rng
namespace Go.Proofs.YtnbpfbmhheimbaaGreatDoor
open Go.RowKit Go.Proofs.Fld Go.Proofs.Rng Go.Shelf Go.Sort

theorem str_same (x y : It) : ((bs x).toList == (bs y).toList) = decide (x = y) := by
  rw [bs_toList, bs_toList]
  by_cases h : x = y <;> simp [h]
/-- Equal between two rounds. -/
def EqI (l m : List It) (k : Nat) : Prop := ∀ j x y, j < k → l[j]? = some x → m[j]? = some y → decide (x = y) = true
theorem EqI.next {l m : List It} {k : Nat} {x y : It} (h : EqI l m k) (hx : l[k]? = some x) (hy : m[k]? = some y) (hs : decide (x = y) = true) : EqI l m (k + 1) := fun j x' y' hj h1 h2 => by
  by_cases e : j = k
  · subst e
    rw [hx] at h1
    rw [hy] at h2
    obtain rfl := Option.some.inj h1
    obtain rfl := Option.some.inj h2
    exact hs
  · exact h j x' y' (by omega) h1 h2

set_option maxRecDepth 100000 in
set_option maxHeartbeats 4000000 in
theorem equal_any (a1 a2 : Option Addr) (len1 len2 c1 c2 : Nat) (l m : List It) (hr1 : len1 ≤ 1000000) (hr2 : len2 ≤ 1000000) (w : World) (h1 : Txs w a1 len1 c1 l) (h2 : Txs w a2 len2 c2 m) :
    Calls Tryz.prog 85 #[.slice a1 len1 c1, .slice a2 len2 c2] w (BoolP (sameT l m) w) := by
  have e1 := h1.hlen
  have e2 := h2.hlen
  by_cases hne : len1 = len2
  · subst hne
    have HH := Lib.hid (And.intro h1 (And.intro h2 (And.intro e1 e2)))
    clear h1 h2 e1 e2
    go_enter Tryz.func85, Tryz.ntmps85
    go_wp2
    go_loopw [13] (fun v wr => ∃ k : Nat, k ≤ len1 ∧ v = .int .i64 k ∧ Hid (EqI l m k) ∧ Below w.heap.size w wr) (fun v _ => len1 - (intOf v).toNat)
    case atStart => exact ⟨0, Nat.zero_le _, rfl, (fun j x y hj => absurd hj (by omega)), Below.refl _ _⟩
    case round =>
      obtain ⟨k, hk, rfl, HI, hB⟩ := hrel
      by_cases hlt : k < len1
      · obtain ⟨x, hx⟩ : ∃ x, l[k]? = some x := ⟨_, List.getElem?_eq_getElem (by rw [HH.out.2.2.1]; exact hlt)⟩
        obtain ⟨y, hy⟩ : ∃ y, m[k]? = some y := ⟨_, List.getElem?_eq_getElem (by rw [HH.out.2.2.2]; exact hlt)⟩
        obtain ⟨b1, o1, rfl, hb1, hc1⟩ := HH.out.1.at (by omega)
        obtain ⟨b2, o2, rfl, hb2, hc2⟩ := HH.out.2.1.at (by omega)
        have q0 := (World.cell?_of_block (a := ⟨b1, o1 + k, none⟩) (hB.block b1 hb1)).trans (hc1 k x hx)
        have p0 := (World.cell?_of_block (a := ⟨b2, o2 + k, none⟩) (hB.block b2 hb2)).trans (hc2 k y hy)
        have hq : ((bs x).toList == (bs y).toList) = decide (x = y) := str_same x y
        have HX := Lib.hid (And.intro hx hy)
        clear hx hy hc1 hc2
        cases hs : decide (x = y) with
        | true =>
          rw [hs] at hq
          have HN := Lib.hid (HI.out.next HX.out.1 HX.out.2 hs)
          clear hs
          go_wp2
          go_quiet (fail)
          go_wp2
          go_roundw
          case rel => exact ⟨k + 1, by omega, by simp, HN.out, below_drewN hB _⟩
          case measure => simp [intOf]; omega
        | false =>
          rw [hs] at hq
          have HN := Lib.hid (sameT_at HX.out.1 HX.out.2 hs)
          clear hs
          go_wp2
          go_quiet (fail)
          go_wp2
          go_ret
          exact ⟨by rw [HN.out]; rfl, below_drewN hB _⟩
      · obtain rfl : k = len1 := by omega
        have HN := Lib.hid (sameT_all (HH.out.2.2.1.trans HH.out.2.2.2.symm) (by rw [HH.out.2.2.1]; exact HI.out))
        go_wp2
        go_ret
        exact ⟨by rw [HN.out]; rfl, hB⟩
  · have HN := Lib.hid (sameT_len (l := l) (m := m) (by omega))
    have hd : (((len1 : Nat) : Int) != ((len2 : Nat) : Int)) = true := by simp; omega
    clear h1 h2 e1 e2
    go_enter Tryz.func85, Tryz.ntmps85
    go_wp2
    go_ret
    exact ⟨by rw [HN.out]; rfl, Below.refl _ _⟩

set_option maxRecDepth 100000 in
set_option maxHeartbeats 4000000 in
theorem texts_any (a1 a2 : Option Addr) (len1 len2 c1 c2 : Nat) (l m : List It) (hr1 : len1 ≤ 1000000) (hr2 : len2 ≤ 1000000) (w : World) (h1 : Txs w a1 len1 c1 l) (h2 : Txs w a2 len2 c2 m) :
    Calls Tryz.prog 23 #[.slice a1 len1 c1, .slice a2 len2 c2] w (BoolP (sameT l m) w) := by
  have e1 := h1.hlen
  have e2 := h2.hlen
  by_cases hne : len1 = len2
  · subst hne
    have HH := Lib.hid (And.intro h1 (And.intro h2 (And.intro e1 e2)))
    clear h1 h2 e1 e2
    go_enter Tryz.func23, Tryz.ntmps23
    go_wp2
    go_loopw [5] (fun v wr => ∃ k : Nat, k ≤ len1 ∧ v = .int .i64 k ∧ Hid (EqI l m k) ∧ Below w.heap.size w wr) (fun v _ => len1 - (intOf v).toNat)
    case atStart => exact ⟨0, Nat.zero_le _, rfl, (fun j x y hj => absurd hj (by omega)), Below.refl _ _⟩
    case round =>
      obtain ⟨k, hk, rfl, HI, hB⟩ := hrel
      by_cases hlt : k < len1
      · obtain ⟨x, hx⟩ : ∃ x, l[k]? = some x := ⟨_, List.getElem?_eq_getElem (by rw [HH.out.2.2.1]; exact hlt)⟩
        obtain ⟨y, hy⟩ : ∃ y, m[k]? = some y := ⟨_, List.getElem?_eq_getElem (by rw [HH.out.2.2.2]; exact hlt)⟩
        obtain ⟨b1, o1, rfl, hb1, hc1⟩ := HH.out.1.at (by omega)
        obtain ⟨b2, o2, rfl, hb2, hc2⟩ := HH.out.2.1.at (by omega)
        have q0 := (World.cell?_of_block (a := ⟨b1, o1 + k, none⟩) (hB.block b1 hb1)).trans (hc1 k x hx)
        have p0 := (World.cell?_of_block (a := ⟨b2, o2 + k, none⟩) (hB.block b2 hb2)).trans (hc2 k y hy)
        have hq : ((bs x).toList == (bs y).toList) = decide (x = y) := str_same x y
        have HX := Lib.hid (And.intro hx hy)
        clear hx hy hc1 hc2
        cases hs : decide (x = y) with
        | true =>
          rw [hs] at hq
          have HN := Lib.hid (HI.out.next HX.out.1 HX.out.2 hs)
          clear hs
          go_wp2
          go_quiet (fail)
          go_wp2
          go_roundw
          case rel => exact ⟨k + 1, by omega, by simp, HN.out, below_drewN hB _⟩
          case measure => simp [intOf]; omega
        | false =>
          rw [hs] at hq
          have HN := Lib.hid (sameT_at HX.out.1 HX.out.2 hs)
          clear hs
          go_wp2
          go_quiet (fail)
          go_wp2
          go_ret
          exact ⟨by rw [HN.out]; rfl, below_drewN hB _⟩
      · obtain rfl : k = len1 := by omega
        have HN := Lib.hid (sameT_all (HH.out.2.2.1.trans HH.out.2.2.2.symm) (by rw [HH.out.2.2.1]; exact HI.out))
        go_wp2
        go_ret
        exact ⟨by rw [HN.out]; rfl, hB⟩
  · have HN := Lib.hid (sameT_len (l := l) (m := m) (by omega))
    have hd : (((len1 : Nat) : Int) != ((len2 : Nat) : Int)) = true := by simp; omega
    clear h1 h2 e1 e2
    go_enter Tryz.func23, Tryz.ntmps23
    go_wp2
    go_ret
    exact ⟨by rw [HN.out]; rfl, Below.refl _ _⟩

set_option maxHeartbeats 2000000 in
theorem Same_p {m1 m2 : Int} {a1 a2 : Option Addr} {len1 len2 c1 c2 : Nat} {l l' : List It} {b : Bool} (hr1 : len1 ≤ 1000000) (hr2 : len2 ≤ 1000000) (hb : sameR m1 l m2 l' = b) {w : World} (h1 : Txs w a1 len1 c1 l) (h2 : Txs w a2 len2 c2 l') :
    Calls Tryz.prog 52 #[.agg #[.int .i64 m1, .slice a1 len1 c1], .agg #[.int .i64 m2, .slice a2 len2 c2]] w (BoolP b w) := by
  have hB1 := Below.new w (.cells #[.int .i64 m1, .slice a1 len1 c1] 53)
  have hN := Below.new (w.alloc (.cells #[.int .i64 m1, .slice a1 len1 c1] 53)) (.cells #[.int .i64 m2, .slice a2 len2 c2] 53)
  have hB2 := below_more hB1 hN
  obtain ⟨p0, p1, _, _⟩ := (R2.new w (.int .i64 m1) (.slice a1 len1 c1) 53).more hN
  have r2 := R2.new (w.alloc (.cells #[.int .i64 m1, .slice a1 len1 c1] 53)) (.int .i64 m2) (.slice a2 len2 c2) 53
  rw [World.size_alloc] at r2
  obtain ⟨q0, q1, _, _⟩ := r2
  obtain ⟨W0, hW0⟩ : ∃ W0, (w.alloc (.cells #[.int .i64 m1, .slice a1 len1 c1] 53)).alloc (.cells #[.int .i64 m2, .slice a2 len2 c2] 53) = W0 := ⟨_, rfl⟩
  rw [hW0] at hB2 p0 p1 q0 q1
  have HE := Lib.hid (equal_any a1 a2 len1 len2 c1 c2 l l' hr1 hr2 W0 (h1.more hB2) (h2.more hB2))
  have HB := Lib.hid (And.intro hB2 hb)
  clear hB1 hB2 hN h1 h2 hb
  by_cases hm : m1 = m2
  · have hd : (m1 == m2) = true := by simp [hm]
    have HV := Lib.hid (show b = sameT l l' by rw [← HB.out.2]; unfold sameR; rw [decide_eq_true hm, Bool.true_and])
    subst hm
    go_enter Tryz.func52, Tryz.ntmps52
    go_wp2_with (go_at_call 85; refine HE.out.mono ?_)
    rintro e w1 ⟨rfl, hb1⟩
    have HB1 := Lib.hid (below_more HB.out.1 hb1)
    clear hb1
    go_wp2
    go_ret
    exact ⟨by rw [HV.out]; rfl, HB1.out⟩
  · have hd : (m1 == m2) = false := by simp [hm]
    have HV := Lib.hid (show b = false by rw [← HB.out.2]; unfold sameR; rw [decide_eq_false hm, Bool.false_and])
    go_enter Tryz.func52, Tryz.ntmps52
    go_wp2
    go_ret
    exact ⟨by rw [HV.out]; rfl, HB.out.1⟩

set_option maxHeartbeats 2000000 in
theorem RSame_p {m1 m2 : Int} {a1 a2 : Option Addr} {len1 len2 c1 c2 : Nat} {l l' : List It} {b : Bool} (hr1 : len1 ≤ 1000000) (hr2 : len2 ≤ 1000000) (hb : sameR m1 l m2 l' = b) {w : World} (h1 : Txs w a1 len1 c1 l) (h2 : Txs w a2 len2 c2 l') :
    Calls Tryz.prog 86 #[.agg #[.int .i64 m1, .slice a1 len1 c1], .agg #[.int .i64 m2, .slice a2 len2 c2]] w (BoolP b w) := by
  have hB1 := Below.new w (.cells #[.int .i64 m1, .slice a1 len1 c1] 53)
  have hN := Below.new (w.alloc (.cells #[.int .i64 m1, .slice a1 len1 c1] 53)) (.cells #[.int .i64 m2, .slice a2 len2 c2] 53)
  have hB2 := below_more hB1 hN
  obtain ⟨p0, p1, _, _⟩ := (R2.new w (.int .i64 m1) (.slice a1 len1 c1) 53).more hN
  have r2 := R2.new (w.alloc (.cells #[.int .i64 m1, .slice a1 len1 c1] 53)) (.int .i64 m2) (.slice a2 len2 c2) 53
  rw [World.size_alloc] at r2
  obtain ⟨q0, q1, _, _⟩ := r2
  obtain ⟨W0, hW0⟩ : ∃ W0, (w.alloc (.cells #[.int .i64 m1, .slice a1 len1 c1] 53)).alloc (.cells #[.int .i64 m2, .slice a2 len2 c2] 53) = W0 := ⟨_, rfl⟩
  rw [hW0] at hB2 p0 p1 q0 q1
  have HE := Lib.hid (texts_any a1 a2 len1 len2 c1 c2 l l' hr1 hr2 W0 (h1.more hB2) (h2.more hB2))
  have HB := Lib.hid (And.intro hB2 hb)
  clear hB1 hB2 hN h1 h2 hb
  by_cases hm : m1 = m2
  · have hd : (m1 == m2) = true := by simp [hm]
    have HV := Lib.hid (show b = sameT l l' by rw [← HB.out.2]; unfold sameR; rw [decide_eq_true hm, Bool.true_and])
    subst hm
    go_enter Tryz.func86, Tryz.ntmps86
    go_wp2_with (go_at_call 23; refine HE.out.mono ?_)
    rintro e w1 ⟨rfl, hb1⟩
    have HB1 := Lib.hid (below_more HB.out.1 hb1)
    clear hb1
    go_wp2
    go_ret
    exact ⟨by rw [HV.out]; rfl, HB1.out⟩
  · have hd : (m1 == m2) = false := by simp [hm]
    have HV := Lib.hid (show b = false by rw [← HB.out.2]; unfold sameR; rw [decide_eq_false hm, Bool.false_and])
    go_enter Tryz.func86, Tryz.ntmps86
    go_wp2
    go_ret
    exact ⟨by rw [HV.out]; rfl, HB.out.1⟩

end Go.Proofs.YtnbpfbmhheimbaaGreatDoor

/- cut, few, Few: the first items, cut; what is known: shown. -/
namespace Go.Proofs.Rng
/-- The first forty, of at most two hundred and ten bytes. -/
def fewK (l : List It) (k : Nat) : List It := (l.take k).map fun x => x.take 210
def fewI (l : List It) : List It := fewK l 40
theorem fewI_length (l : List It) : (fewI l).length ≤ 40 := by
  unfold fewI fewK
  rw [List.length_map, List.length_take]
  omega
theorem fewI_item {l : List It} {x : It} (h : x ∈ fewI l) : x.length ≤ 210 := by
  unfold fewI fewK at h
  obtain ⟨y, _, rfl⟩ := List.mem_map.1 h
  rw [List.length_take]
  omega
theorem takes_bound {l : List It} (h : ∀ x ∈ l, x.length ≤ 210) : takes l ≤ l.length * 211 := by
  induction l with
  | nil => simp [takes]
  | cons a r ih =>
    have h1 := h a (by simp)
    have h2 := ih fun x hx => h x (by simp [hx])
    simp only [takes, List.length_cons]
    omega
theorem fewI_takes (l : List It) : takes (fewI l) ≤ 8440 := by
  have h1 := takes_bound (l := fewI l) fun x hx => fewI_item hx
  have h2 := fewI_length l
  omega
theorem fewI_next {l : List It} {k : Nat} {x : It} (h : l[k]? = some x) : fewK l (k + 1) = fewK l k ++ [x.take 210] := by
  unfold fewK
  have e : l.take (k + 1) = l.take k ++ [x] := by
    rw [List.take_add_one, h]
    rfl
  rw [e, List.map_append]
  rfl
end Go.Proofs.Rng
namespace Go.Proofs.YtnbpfbmhheimbaaGreatDoor
open Go.RowKit Go.Proofs.Fld Go.Proofs.Rng Go.Shelf Go.Sort

/-- It tells a text, and leaves all as it was. -/
def CutP (x : It) (w : World) (e : Ending) (w' : World) : Prop := e = .returned (.string (bs x)) ∧ w = w'
set_option maxHeartbeats 1000000 in
theorem cut_any (x : It) (hx : x.length ≤ 9223372036854775807) (w : World) : Calls Tryz.prog 101 #[.string (bs x)] w (CutP (x.take 210) w) := by
  have hz := bs_size x
  by_cases h : x.length ≤ 210
  · have hs := str_upto x x.length (Nat.le_refl _)
    rw [List.take_of_length_le (Nat.le_refl _)] at hs
    rw [List.take_of_length_le h]
    have h1 : min (x.length : Int) 210 = x.length := by omega
    have h2 : ¬ ((210 : Int) < (x.length : Int)) := by omega
    go_enter Tryz.func101, Tryz.ntmps101
    go_wp2
    go_ret
    exact ⟨rfl, rfl⟩
  · have hs := str_upto x 210 (by omega)
    have h1 : min (x.length : Int) 210 = 210 := by omega
    have h2 : ((210 : Int) < (x.length : Int)) := by omega
    rw [show ((210 : Nat) : Int) = 210 from rfl] at hs
    go_enter Tryz.func101, Tryz.ntmps101
    go_wp2
    go_ret
    exact ⟨rfl, rfl⟩

/-- Out, grown by appends: a row of the call's own. -/
structure OutW (n0 : Nat) (w0 : World) (v : Value) (k : Nat) (l : List It) (w : World) : Prop where
  row : w.ownsRow n0 9 1 v k (tcl l)
  len : l.length = k
  below : Below n0 w0 w
  le : n0 ≤ w0.heap.size
theorem OutW.more {n0 : Nat} {w0 : World} {v : Value} {k : Nat} {l : List It} {w w' : World} (h : OutW n0 w0 v k l w) (hb : Below w.heap.size w w') : OutW n0 w0 v k l w' := by
  have hr : OwnT n0 w v l := by unfold OwnT; rw [h.len]; exact h.row
  have := hr.more hb
  unfold OwnT at this
  rw [h.len] at this
  exact ⟨this, h.len, h.below.trans (hb.mono (Nat.le_trans h.le h.below.size)), h.le⟩
theorem OutW.snoc {n0 : Nat} {w0 : World} {v v' : Value} {k : Nat} {l : List It} {w w' : World} {x : It} (h : OutW n0 w0 v k l w) (hown : w'.ownsRow n0 9 1 v' (k + 1) (tcl l ++ [.string (bs x)])) (hg : w.grownBy w' v.ownBlock) : OutW n0 w0 v' (k + 1) (l ++ [x]) w' := by
  refine ⟨?_, by rw [List.length_append, h.len]; rfl, h.below.grown hg (Nat.le_trans h.le h.below.size) (fun k e => (World.ownsRow.lt h.row k e).1), h.le⟩
  rw [tcl_append]
  exact hown
theorem it_new (W : World) (x : It) : ∀ j u, [Value.string (bs x)][j]? = some u → (W.alloc (.cells #[.string (bs x)] 9)).cell? ((⟨W.heap.size, 0, none⟩ : Addr).add j) = some u := by
  intro j u hu
  rw [add_at, World.cell?_alloc_at _ _ _ _ rfl]
  simpa using hu
/-- A slice is told, its row the call's own. -/
def SeqP (l : List It) (k : Nat) (w : World) (e : Ending) (w' : World) : Prop :=
  ∃ va vc, e = .returned (.slice va k vc) ∧ (Txs w' va k vc l ∧ OwnT w.heap.size w' (.slice va k vc) l) ∧ Below w.heap.size w w'

set_option maxRecDepth 100000 in
set_option maxHeartbeats 4000000 in
theorem few_p {ao : Option Addr} {len cap k0 : Nat} {l l' : List It} (hl' : fewI l = l') (hk0 : l'.length = k0) {w : World} (hL : Txs w ao len cap l) :
    Calls Tryz.prog 78 #[.slice ao len cap] w (SeqP l' k0 w) := by
  obtain ⟨i0, hi, hz0, hz1, hz2⟩ := info_parts infoS
  have hll := hL.hlen
  have hcm : cap ≤ 9223372036854775807 := by have := hL.hmax; unfold maxLen at this; exact this
  have hlc := hL.hle
  have HL := Lib.hid (And.intro hL (And.intro hl' hk0))
  clear hL hl' hk0
  go_enter Tryz.func78, Tryz.ntmps78
  go_wp2
  go_loopw [3, 4] (fun o v wr => ∃ (k : Nat) (va : Option Addr) (vc : Nat), k ≤ len ∧ k ≤ 40 ∧ o = .slice va k vc ∧ v = .int .i64 k ∧ Hid (OutW w.heap.size w (.slice va k vc) k (fewK l k) wr)) (fun _ v _ => 40 - (intOf v).toNat)
  case atStart => exact ⟨0, none, 0, Nat.zero_le _, Nat.zero_le _, rfl, rfl, ⟨World.ownsRow_nil _ _ _ _, by simp [fewK], Below.refl _ _, Nat.le_refl _⟩⟩
  case round =>
    obtain ⟨k, va, vc, hk, hk40, rfl, rfl, HO⟩ := hrel
    by_cases hlt : k < len
    · by_cases hlt4 : k < 40
      · obtain ⟨x, hx⟩ : ∃ x, l[k]? = some x := ⟨_, List.getElem?_eq_getElem (by rw [hll]; exact hlt)⟩
        obtain ⟨b, off, rfl, hb, hcs⟩ := HL.out.1.at (by omega)
        have hfx := HL.out.1.hfits x (List.mem_of_getElem? hx)
        have q0 := (World.cell?_of_block (a := ⟨b, off + k, none⟩) (HO.out.below.block b hb)).trans (hcs k x hx)
        have HX := Lib.hid (fewI_next hx)
        have hd1 : decide ((k : Int) < (len : Int)) = true := decide_eq_true (by omega)
        have hd2 : decide ((k : Int) < 40) = true := decide_eq_true (by omega)
        have HN := Lib.hid (it_new wr (x.take 210))
        have hO2 := HO.out.more (Below.new wr (.cells #[.string (bs (x.take 210))] 9))
        have HO2 := Lib.hid hO2
        have HSZ := Lib.hid hO2.below.size
        have HC := Lib.hid (cut_any x hfx wr)
        obtain ⟨y, hy⟩ : ∃ y, x.take 210 = y := ⟨_, rfl⟩
        rw [hy] at HX HN HO2 HSZ HC
        clear hx hcs hO2 hy
        go_wp2_with (go_at_call 101; refine HC.out.mono ?_)
        rintro e w1 ⟨rfl, rfl⟩
        go_wp2_with (at_builtin; go_loud (refine wpList_append_own _ rfl _ _ 31 rfl w.heap.size 9 i0 (.string { data := #[] }) 1 16 Tryz.underlying31 hi hz0 hz1 hz2 rfl (by decide) (.slice va k vc) k _ rfl HO2.out.row ⟨wr.heap.size, 0, none⟩ 1 1 [.string (bs y)] rfl rfl HN.out (by simp [Value.oneCell']) (by unfold maxLen; omega) (by omega) HSZ.out ?_))
        intro v' w5 hown hgrow _
        obtain ⟨g', cap', rfl⟩ := ownsRow_succ hown
        have HF := Lib.hid (HO2.out.snoc hown hgrow)
        clear hown hgrow
        go_wp2
        go_roundw
        case rel => exact ⟨k + 1, _, cap', by omega, by omega, rfl, by simp, by rw [HX.out]; exact HF.out⟩
        case measure => simp [intOf]; omega
      · obtain rfl : k = 40 := by omega
        have hd1 : decide (((40 : Nat) : Int) < (len : Int)) = true := decide_eq_true (by omega)
        have ho := HO.out
        rw [show fewK l 40 = l' from HL.out.2.1] at ho
        have hkk : 40 = k0 := ho.len.symm.trans HL.out.2.2
        subst hkk
        have hO : OwnT w.heap.size wr (.slice va 40 vc) l' := by unfold OwnT; rw [ho.len]; exact ho.row
        have HF := Lib.hid (And.intro (hO.txs ho.len (fun x hx => by have := fewI_item (l := l) (HL.out.2.1 ▸ hx); omega)) (And.intro hO ho.below))
        clear ho hO
        go_wp2
        go_ret
        exact ⟨va, vc, rfl, ⟨HF.out.1, HF.out.2.1⟩, HF.out.2.2⟩
    · obtain rfl : k = len := by omega
      have ho := HO.out
      have hd1 : decide ((k : Int) < (k : Int)) = false := decide_eq_false (by omega)
      rw [show fewK l k = l' by rw [← HL.out.2.1]; unfold fewI fewK; rw [List.take_of_length_le (Nat.le_of_eq hll), List.take_of_length_le (by omega)]] at ho
      have hkk : k = k0 := ho.len.symm.trans HL.out.2.2
      have hO : OwnT w.heap.size wr (.slice va k vc) l' := by unfold OwnT; rw [ho.len]; exact ho.row
      have HF := Lib.hid (And.intro (hO.txs ho.len (fun x hx => by have := fewI_item (l := l) (HL.out.2.1 ▸ hx); omega)) (And.intro hO (And.intro ho.below hkk)))
      clear ho hO hkk
      go_wp2
      go_ret
      exact ⟨va, vc, by rw [← HF.out.2.2.2]; rfl, by rw [← HF.out.2.2.2]; exact ⟨HF.out.1, HF.out.2.1⟩, HF.out.2.2.1⟩

/-- A ring is told. -/
def FewP (m : Int) (l : List It) (k : Nat) (w : World) (e : Ending) (w' : World) : Prop :=
  ∃ va vc, e = .returned (.agg #[.int .i64 m, .slice va k vc]) ∧ (Txs w' va k vc l ∧ OwnT w.heap.size w' (.slice va k vc) l) ∧ Below w.heap.size w w'
set_option maxRecDepth 100000 in
set_option maxHeartbeats 4000000 in
theorem Few_p {m : Int} {ao : Option Addr} {len cap k0 : Nat} {l l' : List It} (hl' : fewI l = l') (hk0 : l'.length = k0) {w : World} (hL : Txs w ao len cap l) :
    Calls Tryz.prog 44 #[.agg #[.int .i64 m, .slice ao len cap]] w (FewP m l' k0 w) := by
  have hB1 := Below.new w (.cells #[.int .i64 m, .slice ao len cap] 53)
  have hB2 := below_more hB1 (Below.new _ (.cells #[.int .i64 0, .slice none 0 0] 53))
  have r1 := (R2.new w (.int .i64 m) (.slice ao len cap) 53).more (Below.new _ (.cells #[.int .i64 0, .slice none 0 0] 53))
  have r2 := R2.new (w.alloc (.cells #[.int .i64 m, .slice ao len cap] 53)) (.int .i64 0) (.slice none 0 0) 53
  rw [World.size_alloc] at r2
  obtain ⟨W0, hW0⟩ : ∃ W0, (w.alloc (.cells #[.int .i64 m, .slice ao len cap] 53)).alloc (.cells #[.int .i64 0, .slice none 0 0] 53) = W0 := ⟨_, rfl⟩
  rw [hW0] at hB2 r1 r2
  have hD : Below W0.heap.size W0 W0.drew := (Below.refl _ W0).drew
  have HC := Lib.hid (few_p hl' hk0 ((hL.more hB2).more hD))
  have HF := Lib.hid (And.intro (below_more hB2 hD) (And.intro (r2.more hD) (And.intro hk0 (show ∀ x ∈ l', x.length ≤ 9223372036854775807 from fun x hx => by have := fewI_item (l := l) (hl' ▸ hx); omega))))
  have c0 := r1.c0
  have c1 := r1.c1
  have x0 := cell_later hD c0
  have x1 := cell_later hD c1
  have hlt := r2.lt
  clear hB1 hB2 r1 r2 hL hD hl' hk0
  go_enter Tryz.func44, Tryz.ntmps44
  go_wp2
  go_region_held3 (fun w' => w'.cell? ⟨w.heap.size, 0, none⟩ = some (.int .i64 m) ∧ w'.cell? ⟨w.heap.size, 1, none⟩ = some (.slice ao len cap))
    (first | (simp only [World.cell?_drew, c0, c1, and_self]; done) | (with_reducible exact ⟨cell_later hb x0, cell_later hb x1⟩) | (with_reducible exact ⟨set2O (cell_later hb x0) (by omega), set2O (cell_later hb x1) (by omega)⟩))
    (first | (go_at_call 78; ((with_reducible refine HC.out.mono ?_); rintro e w1 ⟨va, vc, rfl, ⟨hT, hO⟩, hb⟩; obtain ⟨d0, d1, f0, f1⟩ := HF.out.2.1.more hb)))
  all_goals
    obtain ⟨y0, y1, _, _⟩ := R2.set ⟨d0, d1, f0, f1⟩ (.int .i64 m) (.slice va k0 vc)
    have hz : W0.drew.heap.size = W0.heap.size := rfl
    have HB3 := Lib.hid (set2B (below_more HF.out.1 hb) (b := w.heap.size + 1) (by omega) (.int .i64 m) (.slice va k0 vc))
    have HO := Lib.hid (((hO.set1 (b := w.heap.size + 1) (i := 0) (x := .int .i64 m) (by omega)).set1 (b := w.heap.size + 1) (i := 1) (x := .slice va k0 vc) (by omega)).mono (n1 := w.heap.size) (by omega))
    clear hO hb hT
    go_wp2
    generalize hWF : ((w1.setCell ⟨w.heap.size + 1, 0, none⟩ (.int .i64 m)).setCell ⟨w.heap.size + 1, 1, none⟩ (.slice va k0 vc)) = WF at y0 y1 HB3 HO ⊢
    refine bodyPost_ret (v := .agg #[.int .i64 m, .slice va k0 vc]) (by simp [results, Tryz.results44, go_sem, y0, y1]) rfl ?_
    exact ⟨_, _, rfl, ⟨HO.out.txs HF.out.2.2.1 HF.out.2.2.2, HO.out⟩, HB3.out⟩

end Go.Proofs.YtnbpfbmhheimbaaGreatDoor

/- What a law's walk carries; what is known: shown. -/
namespace Go.Proofs.YtnbpfbmhheimbaaGreatDoor
open Go.RowKit Go.Proofs.Fld Go.Proofs.Rng Go.Shelf Go.Sort

/-- A law's world. -/
structure Wd (s : Sn) (w0 w : World) : Prop where
  below : Below w0.heap.size w0 w
  sent : Sent s w
theorem Wd.more {s : Sn} {w0 w w' : World} (h : Wd s w0 w) (k : Below w.heap.size w w') : Wd s w0 w' := ⟨below_more h.below k, h.sent.more k⟩
theorem Wd.of {s : Sn} {w : World} (h : Sent s w) : Wd s w w := ⟨Below.refl _ _, h⟩
/-- A ring in a variable. -/
structure Rv (W : World) (b : Nat) (m : Int) (ao : Option Addr) (k c : Nat) (l : List It) : Prop where
  r : R2 W b (.int .i64 m) (.slice ao k c)
  t : Txs W ao k c l
theorem Rv.more {W W' : World} {b : Nat} {m : Int} {ao : Option Addr} {k c : Nat} {l : List It} (h : Rv W b m ao k c l) (hb : Below W.heap.size W W') : Rv W' b m ao k c l := ⟨h.r.more hb, h.t.more hb⟩
theorem Rv.new (W : World) (m : Int) (ao : Option Addr) (k c : Nat) (l : List It) (h : Txs W ao k c l) : Rv (W.alloc (.cells #[.int .i64 m, .slice ao k c] 53)) W.heap.size m ao k c l := ⟨R2.new _ _ _ _, h.more (Below.new _ _)⟩
theorem Txs.set {W : World} {b i : Nat} {ao : Option Addr} {k c : Nat} {l : List It} {x : Value} (h : Txs W ao k c l) (hne : ∀ a, ao = some a → a.block ≠ b) : Txs (W.setCell ⟨b, i, none⟩ x) ao k c l := h.of_block fun a e _ => Below.heap_setCell _ _ _ _ (fun q => hne a e q)
theorem OwnT.apart {n0 : Nat} {W : World} {va : Option Addr} {k c : Nat} {l : List It} (h : OwnT n0 W (.slice va k c) l) {b : Nat} (hb : b < n0) : ∀ a, va = some a → a.block ≠ b := by
  intro a e
  rcases h.2 with ⟨e', _⟩ | ⟨g, cap, cur, e', hg, _⟩
  · injection e' with e1
    rw [e1] at e
    cases e
  · injection e' with e1
    rw [e1] at e
    obtain rfl := Option.some.inj e
    intro q
    have q' : g = b := q
    omega
theorem Rv.set {W : World} {b : Nat} {u x : Value} {m : Int} {ao : Option Addr} {k c : Nat} {l : List It} (h : R2 W b u x) (ht : Txs W ao k c l) (hne : ∀ a, ao = some a → a.block ≠ b) : Rv ((W.setCell ⟨b, 0, none⟩ (.int .i64 m)).setCell ⟨b, 1, none⟩ (.slice ao k c)) b m ao k c l := ⟨h.set _ _, (ht.set hne).set hne⟩
/-- The variable of a law's argument takes another ring. -/
theorem Wd.set {s : Sn} {w0 w : World} {b : Nat} (h : Wd s w0 w) (h0 : Sent s w0) (hb : w0.heap.size ≤ b) (u x : Value) : Wd s w0 ((w.setCell ⟨b, 0, none⟩ u).setCell ⟨b, 1, none⟩ x) := ⟨set2B h.below hb u x, h0.more (set2B h.below hb u x)⟩
theorem rg_bool {f : FuncId} {args : Array Value} {V : World} {v : Bool} (h : ∀ W, Below V.heap.size V W → Calls Tryz.prog f args W (BoolP v W)) : ∀ d os, Calls Tryz.prog f args (grow (redrawn V d) os) fun e w'' => e = .returned (.bool v) ∧ ∃ p : Regrown, w'' = grow (redrawn V p.d) p.os :=
  fun d os => Calls.regrown_of (h _ (below_regrown V d os))
theorem rg_int {f : FuncId} {args : Array Value} {V : World} {v : Int} (h : ∀ W, Below V.heap.size V W → Calls Tryz.prog f args W (IntP v W)) : ∀ d os, Calls Tryz.prog f args (grow (redrawn V d) os) fun e w'' => e = .returned (.int .i64 v) ∧ ∃ p : Regrown, w'' = grow (redrawn V p.d) p.os :=
  fun d os => Calls.regrown_of (h _ (below_regrown V d os))
/-- Put, Take, All, New, their words named. -/
theorem Put_q {s : Sn} {m : Int} {ao : Option Addr} {len cap : Nat} {zs : List It} {x : It} {pm : Int} {pl : List It} {c : Int} {k : Nat} (hx : x.length ≤ 900000) (hreach : len ≤ 1000000) (hsum : takes zs ≤ 1000000) (hpm : putM m zs x = pm) (hpl : putL m zs x = pl) (hc : errN (putE m zs x) = c) (hk : pl.length = k) {w : World} (hL : Txs w ao len cap zs) (hs : Sent s w) :
    Calls Tryz.prog 72 #[.agg #[.int .i64 m, .slice ao len cap], .string (bs x)] w (TellR pm pl k c w) := hc ▸ Put_p hx hreach hsum hpm hpl rfl hk hL hs
theorem Take_q {s : Sn} {m : Int} {ao : Option Addr} {len cap : Nat} {zs : List It} {px : It} {pm : Int} {pl : List It} {c : Int} {k : Nat} (hreach : len ≤ 1000000) (hsum : takes zs ≤ 1000000) (hpx : takeX m zs = px) (hpm : takeM m zs = pm) (hpl : takeL m zs = pl) (hc : errN (takeE m zs) = c) (hk : pl.length = k) {w : World} (hL : Txs w ao len cap zs) (hs : Sent s w) :
    Calls Tryz.prog 76 #[.agg #[.int .i64 m, .slice ao len cap]] w (TellX px pm pl k c w) := hc ▸ Take_p hreach hsum hpx hpm hpl rfl hk hL hs
/-- What New tells. -/
def newM (m : Int) : Int := if rightR m [] then m else 0
def newE (m : Int) : Nat := if rightR m [] then 0 else 1
theorem New_q {s : Sn} {m pm c : Int} (hpm : newM m = pm) (hc : errN (newE m) = c) {w : World} (hs : Sent s w) :
    Calls Tryz.prog 105 #[.int .i64 m] w (TellR pm [] 0 c w) := by
  refine hc ▸ New_p (pe := newE m) ?_ ?_ hs
  · intro h
    rw [← hpm]
    unfold newM newE
    rw [h]
    exact ⟨rfl, rfl⟩
  · intro h
    rw [← hpm]
    unfold newM newE
    rw [h]
    exact ⟨rfl, rfl⟩

theorem shNew {s : Sn} {w : World} (hs : Sent s w) : Calls Tryz.prog 105 #[.int .i64 5] w (TellR 5 [] 0 0 w) := New_q rfl rfl hs
theorem shAb {s : Sn} {ao : Option Addr} {cap : Nat} {w : World} (hL : Txs w ao 0 cap []) (hs : Sent s w) : Calls Tryz.prog 72 #[.agg #[.int .i64 5, .slice ao 0 cap], .string { data := #[97, 98] }] w (TellR 5 [[97, 98]] 1 0 w) := Put_q (x := [97, 98]) (by decide) (by decide) (by decide) (by decide) (by decide) (by decide) rfl hL hs
theorem shC {s : Sn} {ao : Option Addr} {cap : Nat} {w : World} (hL : Txs w ao 1 cap [[97, 98]]) (hs : Sent s w) : Calls Tryz.prog 72 #[.agg #[.int .i64 5, .slice ao 1 cap], .string { data := #[99] }] w (TellR 5 [[97, 98], [99]] 2 0 w) := Put_q (x := [99]) (by decide) (by decide) (by decide) (by decide) (by decide) (by decide) rfl hL hs
theorem shD {s : Sn} {ao : Option Addr} {cap : Nat} {w : World} (hL : Txs w ao 2 cap [[97, 98], [99]]) (hs : Sent s w) : Calls Tryz.prog 72 #[.agg #[.int .i64 5, .slice ao 2 cap], .string { data := #[100] }] w (TellR 0 [] 0 80 w) := Put_q (x := [100]) (by decide) (by decide) (by decide) (by decide) (by decide) (by decide) rfl hL hs
/-- The first letters are told. -/
def ShTake (w : World) (e : Ending) (w' : World) : Prop :=
  ∃ va vc, e = .returned (.tuple #[.string { data := #[97, 98] }, .agg #[.int .i64 5, .slice va 1 vc], .int .i64 0]) ∧ (Txs w' va 1 vc [[99]] ∧ OwnT w.heap.size w' (.slice va 1 vc) [[99]]) ∧ Below w.heap.size w w'
theorem shTake {s : Sn} {ao : Option Addr} {cap : Nat} {w : World} (hL : Txs w ao 2 cap [[97, 98], [99]]) (hs : Sent s w) : Calls Tryz.prog 76 #[.agg #[.int .i64 5, .slice ao 2 cap]] w (ShTake w) := Take_q (m := 5) (px := [97, 98]) (pm := 5) (pl := [[99]]) (c := 0) (by decide) (by decide) (by decide) (by decide) (by decide) (by decide) rfl hL hs
end Go.Proofs.YtnbpfbmhheimbaaGreatDoor

/- RingTurns: the walk. -/
namespace Go.Proofs.Rng
theorem errN_0 {k : Nat} (h : errN k = 0) : k = 0 := by
  match k with
  | 0 => rfl
  | 1 => simp [errN] at h
  | 2 => simp [errN] at h
  | n + 3 => simp [errN] at h
theorem put_or (m : Int) (l : List It) (x : It) : putE m l x = 0 ∨ (putE m l x ≠ 0 ∧ putM m l x = 0 ∧ putL m l x = []) := by
  by_cases h : putE m l x = 0
  · exact .inl h
  · exact .inr ⟨h, by unfold putM; rw [if_neg h], by unfold putL; rw [if_neg h]⟩
theorem take_or (m : Int) (l : List It) : takeE m l = 0 ∨ (takeE m l ≠ 0 ∧ takeM m l = 0 ∧ takeL m l = [] ∧ takeX m l = []) := by
  by_cases h : takeE m l = 0
  · exact .inl h
  · exact .inr ⟨h, by unfold takeM; rw [if_neg h], by unfold takeL; rw [if_neg h], by unfold takeX; rw [if_neg h]⟩
theorem put_0 {m : Int} {l : List It} {x : It} (h : putE m l x = 0) : putM m l x = m ∧ putL m l x = l ++ [x] := ⟨by unfold putM; rw [if_pos h], by unfold putL; rw [if_pos h]⟩
theorem take_0 {m : Int} {l : List It} (h : takeE m l = 0) : rightR m l = true ∧ ∃ x r, l = x :: r ∧ takeM m l = m ∧ takeL m l = r ∧ takeX m l = x := by
  have hr : rightR m l = true := by
    cases e : rightR m l
    · unfold takeE at h; rw [e] at h; cases h
    · rfl
  have hne : l ≠ [] := fun e => by unfold takeE at h; rw [if_pos hr, if_pos e] at h; cases h
  cases l with
  | nil => exact absurd rfl hne
  | cons x r => exact ⟨hr, x, r, rfl, by unfold takeM; rw [if_pos h], by unfold takeL; rw [if_pos h]; rfl, by unfold takeX; rw [if_pos h]; rfl⟩
theorem putE_iff {m : Int} {l : List It} {x : It} : putE m l x = 0 ↔ rightR m l = true ∧ x.length ≤ 200 ∧ ((takes l + x.length + 1 : Nat) : Int) ≤ m := by
  unfold putE
  constructor
  · intro h
    split at h
    · rename_i hr
      rw [roomE_one] at h
      split at h
      · cases h
      split at h
      · cases h
      exact ⟨hr, by omega, by omega⟩
    · cases h
  · rintro ⟨hr, h1, h2⟩
    rw [if_pos hr, roomE_one, if_neg (by omega), if_neg (by omega)]
theorem takeE_iff {m : Int} {l : List It} : takeE m l = 0 ↔ rightR m l = true ∧ l ≠ [] := by
  unfold takeE
  constructor
  · intro h
    split at h
    · rename_i hr
      split at h
      · cases h
      · rename_i hn
        exact ⟨hr, hn⟩
    · cases h
  · rintro ⟨hr, hn⟩
    rw [if_pos hr, if_neg hn]
theorem take_empty : errN (takeE 0 []) = 81 := by rfl
theorem put_zero (x : It) : putE 0 [] x ≠ 0 := fun h => by
  have := (putE_iff.1 h).2.2
  omega
theorem turns_ok {m : Int} {l : List It} {x : It} (hp : putE m l x = 0) (ht : takeE m l = 0) : takeE (putM m l x) (putL m l x) = 0 ∧ putE (takeM m l) (takeL m l) x = 0 ∧ takeX (putM m l x) (putL m l x) = takeX m l ∧ sameR (takeM (putM m l x) (putL m l x)) (takeL (putM m l x) (putL m l x)) (putM (takeM m l) (takeL m l) x) (putL (takeM m l) (takeL m l) x) = true := by
  obtain ⟨e1, e2⟩ := put_0 hp
  obtain ⟨hr, a, r, rfl, e3, e4, e5⟩ := take_0 ht
  have hrp := (right_put hp).2.1
  rw [e1, e2, e3, e4, e5]
  have h1 : takeE m (a :: r ++ [x]) = 0 := takeE_iff.2 ⟨hrp, by simp⟩
  obtain ⟨_, a', r', ea, f1, f2, f3⟩ := take_0 h1
  simp at ea
  obtain ⟨rfl, rfl⟩ := ea
  obtain ⟨p1, p2, p3⟩ := putE_iff.1 hp
  have h2 : putE m r x = 0 := putE_iff.2 ⟨by simpa using right_drop 1 hr, p2, by simp [takes] at p3 ⊢; omega⟩
  obtain ⟨g1, g2⟩ := put_0 h2
  refine ⟨h1, h2, f3, ?_⟩
  rw [f1, f2, g1, g2]
  exact sameR_iff.2 ⟨rfl, rfl⟩
theorem putL_takes (m : Int) (l : List It) (x : It) : takes (putL m l x) ≤ takes l + x.length + 1 := by
  unfold putL
  split
  · rw [takes_append]; simp [takes]; omega
  · simp [takes]
theorem putL_len (m : Int) (l : List It) (x : It) : (putL m l x).length ≤ l.length + 1 := by
  unfold putL
  split
  · simp
  · simp
theorem takeL_takes (m : Int) (l : List It) : takes (takeL m l) ≤ takes l := by
  unfold takeL
  split
  · cases l with
    | nil => simp
    | cons a r => simp [takes]
  · simp [takes]
theorem takeL_len (m : Int) (l : List It) : (takeL m l).length ≤ l.length := by
  unfold takeL
  split
  · simp
  · simp
end Go.Proofs.Rng
namespace Go.Proofs.YtnbpfbmhheimbaaGreatDoor
open Go.RowKit Go.Proofs.Fld Go.Proofs.Rng Go.Shelf Go.Sort

end Go.Proofs.YtnbpfbmhheimbaaGreatDoor

/- The document's takes, Right, New, Used. -/
namespace Go.Proofs.Rng
theorem items_no {l : List It} {k : Nat} {x : It} {m : Int} (hx : l[k]? = some x) (h : 200 < x.length) : rightR m l = false := by
  cases e : rightR m l
  · rfl
  · have := (rightR_iff.1 e).2.2.1 x (List.mem_of_getElem? hx)
    omega
theorem right_items {m : Int} {l : List It} (h : ∀ j x, j < l.length → l[j]? = some x → x.length ≤ 200) : rightR m l = (decide (0 ≤ m) && (decide (m ≤ 2000) && decide ((takes l : Int) ≤ m))) := by
  have hi : itemsB l = true := itemsB_iff.2 fun x hx => by
    obtain ⟨j, hj⟩ := List.mem_iff_getElem?.1 hx
    exact h j x (List.getElem?_eq_some_iff.1 hj).1 hj
  unfold rightR
  rw [hi, Bool.and_true, Bool.and_assoc]
end Go.Proofs.Rng
namespace Go.Proofs.YtnbpfbmhheimbaaGreatDoor
open Go.RowKit Go.Proofs.Fld Go.Proofs.Rng Go.Shelf Go.Sort

theorem wr1 (t : Int) (h0 : 0 ≤ t) (h1 : t ≤ 1000000000) : IntKind.i64.wrap t = t ∧ wrap64 t = t := by
  constructor
  · rw [IntKind.wrap_i64]; omega
  · unfold wrap64; omega
set_option maxRecDepth 100000 in
set_option maxHeartbeats 2000000 in
theorem Rtakes_p {ao : Option Addr} {len cap t : Nat} {l : List It} (hreach : len ≤ 1000000) (hsum : takes l ≤ 1000000) (ht : takes l = t) {w : World} (hL : Txs w ao len cap l) :
    Calls Tryz.prog 99 #[.slice ao len cap] w (IntP (t : Int) w) := by
  have hll := hL.hlen
  have HL := Lib.hid (And.intro hL ht)
  clear hL ht
  go_enter Tryz.func99, Tryz.ntmps99
  go_wp2
  go_loopw [3, 4] (fun n v wr => ∃ k u : Nat, k ≤ len ∧ v = .int .i64 k ∧ n = .int .i64 (u : Int) ∧ Hid (takes (l.take k) = u) ∧ Below w.heap.size w wr) (fun _ v _ => len - (intOf v).toNat)
  case atStart => exact ⟨0, 0, Nat.zero_le _, rfl, rfl, (by show takes (l.take 0) = 0; simp [takes]), Below.refl _ _⟩
  case round =>
    obtain ⟨k, u, hk, rfl, rfl, HU, hB⟩ := hrel
    by_cases hlt : k < len
    · obtain ⟨x, hx⟩ : ∃ x, l[k]? = some x := ⟨_, List.getElem?_eq_getElem (by rw [hll]; exact hlt)⟩
      obtain ⟨b, off, rfl, hb, hcs⟩ := HL.out.1.at (by omega)
      have q0 := (World.cell?_of_block (a := ⟨b, off + k, none⟩) (hB.block b hb)).trans (hcs k x hx)
      have hm := takes_mem hx
      have hn := takes_next hx
      rw [HU.out] at hm hn
      have hsz := bs_size x
      obtain ⟨t1, ht1⟩ : ∃ t1 : Int, (u : Int) + (x.length : Int) = t1 := ⟨_, rfl⟩
      obtain ⟨t2, ht2⟩ : ∃ t2 : Nat, u + x.length + 1 = t2 := ⟨_, rfl⟩
      have ht3 : t1 + 1 = (t2 : Int) := by omega
      have HN := Lib.hid (hn.trans ht2)
      have hlt' := Lib.hid hlt
      have hd1 : decide ((k : Int) < (len : Int)) = true := decide_eq_true (by omega)
      have HE := Lib.hid (And.intro (show IntKind.i64.wrap ((u : Int) + (x.length : Int)) = t1 by rw [ht1]; exact (wr1 t1 (by omega) (by omega)).1) (show IntKind.i64.wrap (t1 + 1) = (t2 : Int) by rw [ht3]; exact (wr1 (t2 : Int) (by omega) (by omega)).1))
      clear hcs hx hm hn ht1 ht2 ht3
      obtain ⟨e1, e2⟩ := HE.out
      go_wp2
      go_roundw
      case rel => exact ⟨k + 1, t2, hlt'.out, by simp, rfl, HN.out, hB⟩
      case measure =>
        have := hlt'.out
        clear e1 e2
        simp [intOf]
        omega
    · obtain rfl : k = len := by omega
      have HT := Lib.hid (show u = t by rw [← HL.out.2, ← HU.out, List.take_of_length_le (Nat.le_of_eq hll)])
      go_wp2
      go_ret
      exact ⟨by rw [HT.out]; rfl, hB⟩

/-- Right between two rounds. -/
def RgI (l : List It) (k : Nat) : Prop := ∀ j x, j < k → l[j]? = some x → x.length ≤ 200
theorem RgI.next {l : List It} {k : Nat} {x : It} (h : RgI l k) (hx : l[k]? = some x) (hl : x.length ≤ 200) : RgI l (k + 1) := fun j y hj hy => by
  by_cases e : j = k
  · subst e
    rw [hx] at hy
    obtain rfl := Option.some.inj hy
    exact hl
  · exact h j y (by omega) hy

set_option maxRecDepth 100000 in
set_option maxHeartbeats 4000000 in
theorem RRight_p {m : Int} {ao : Option Addr} {len cap : Nat} {l : List It} {v : Bool} (hreach : len ≤ 1000000) (hsum : takes l ≤ 1000000) (hv : rightR m l = v) {w : World} (hL : Txs w ao len cap l) :
    Calls Tryz.prog 80 #[.agg #[.int .i64 m, .slice ao len cap]] w (BoolP v w) := by
  have hN := Below.new w (.cells #[.int .i64 m, .slice ao len cap] 53)
  have R := Rv.new w m ao len cap l hL
  obtain ⟨W0, hW0⟩ : ∃ W0, w.alloc (.cells #[.int .i64 m, .slice ao len cap] 53) = W0 := ⟨_, rfl⟩
  rw [hW0] at hN R
  have hll := hL.hlen
  have HL := Lib.hid (And.intro R (And.intro hN hv))
  clear hL hv hN R
  go_enter Tryz.func80, Tryz.ntmps80
  go_wp2
  go_loopw [3] (fun i wr => ∃ k : Nat, k ≤ len ∧ i = .int .i64 k ∧ Hid (RgI l k) ∧ Hid (Below W0.heap.size W0 wr)) (fun i _ => len - (intOf i).toNat)
  case atStart => exact ⟨0, Nat.zero_le _, rfl, (fun j x hj => absurd hj (by omega)), Below.refl _ _⟩
  case round =>
    obtain ⟨k, hk, rfl, HI, HB⟩ := hrel
    have R := Lib.hid (HL.out.1.more HB.out)
    have c0 := R.out.r.c0
    have c1 := R.out.r.c1
    by_cases hlt : k < len
    · obtain ⟨x, hx⟩ : ∃ x, l[k]? = some x := ⟨_, List.getElem?_eq_getElem (by rw [hll]; exact hlt)⟩
      obtain ⟨b, off, rfl, hb, hcs⟩ := R.out.t.at (by omega)
      have q0 := hcs k x hx
      have hsz := bs_size x
      have hd1 : decide ((k : Int) < (len : Int)) = true := decide_eq_true (by omega)
      have HX := Lib.hid hx
      clear hcs hx
      by_cases h2 : 200 < x.length
      · have hd2 : decide ((x.length : Int) > 200) = true := decide_eq_true (by omega)
        have HF := Lib.hid (HL.out.2.2.symm.trans (items_no HX.out h2))
        go_wp2
        go_ret
        exact ⟨by rw [HF.out]; rfl, below_more HL.out.2.1 HB.out⟩
      · have hd2 : decide ((x.length : Int) > 200) = false := decide_eq_false (by omega)
        have HN := Lib.hid (HI.out.next HX.out (by omega))
        go_wp2
        go_roundw
        case rel => exact ⟨k + 1, by omega, by simp, HN.out, HB.out⟩
        case measure => simp [intOf]; omega
    · obtain rfl : k = len := by omega
      have hd1 : decide ((k : Int) < (k : Int)) = false := decide_eq_false (by omega)
      have hri := right_items (m := m) (l := l) (fun j x hj => HI.out j x (by omega))
      rw [HL.out.2.2] at hri
      by_cases h0 : 0 ≤ m
      · by_cases h1 : m ≤ 2000
        · obtain ⟨t, ht⟩ : ∃ t, takes l = t := ⟨_, rfl⟩
          rw [decide_eq_true h0, decide_eq_true h1, Bool.true_and, Bool.true_and, ht] at hri
          have HV := Lib.hid hri
          have g0 : decide (0 ≤ m) = true := decide_eq_true h0
          have g1 : decide (m ≤ 2000) = true := decide_eq_true h1
          have g2 : decide (m ≥ 0) = true := decide_eq_true h0
          have cT := rg_int (V := wr) fun W hb => Rtakes_p hreach hsum ht (R.out.more hb).t
          have r0 := cell_regrown c0
          have r1 := cell_regrown c1
          clear hri
          go_wp2
          refine wp_region_quiet_below (by kernel_rfl) (by kernel_rfl) ?_
          repeat (quiet_step (with_reducible (first | exact cT _ _)))
          refine wpQuiet_nil ?_
          intro W9 hw'
          obtain ⟨⟨dq, osq⟩, hw''⟩ := hw'
          have hbq : Below wr.heap.size wr W9 := hw'' ▸ below_regrown wr dq osq
          have HD := Lib.hid (below_more (below_more HL.out.2.1 HB.out) hbq)
          clear hw'' hbq cT r0 r1 c0 c1
          go_wp2
          go_ret
          exact ⟨by rw [HV.out]; rfl, HD.out⟩
        · rw [decide_eq_true h0, decide_eq_false h1, Bool.true_and, Bool.false_and] at hri
          have HV := Lib.hid hri
          have g0 : decide (0 ≤ m) = true := decide_eq_true h0
          have g2 : decide (m ≥ 0) = true := decide_eq_true h0
          have g1 : decide (m ≤ 2000) = false := decide_eq_false h1
          clear hri
          go_wp2
          go_quiet (fail)
          go_wp2
          go_ret
          exact ⟨by rw [HV.out]; rfl, below_drewN (below_more HL.out.2.1 HB.out) _⟩
      · rw [decide_eq_false h0, Bool.false_and] at hri
        have HV := Lib.hid hri
        have g0 : decide (0 ≤ m) = false := decide_eq_false h0
        have g2 : decide (m ≥ 0) = false := decide_eq_false h0
        clear hri
        go_wp2
        go_quiet (fail)
        go_wp2
        go_ret
        exact ⟨by rw [HV.out]; rfl, below_drewN (below_more HL.out.2.1 HB.out) _⟩

set_option maxHeartbeats 2000000 in
theorem RNew_p {m pm c : Int} (hpm : newM m = pm) (hc : errN (newE m) = c) (w : World) :
    Calls Tryz.prog 56 #[.int .i64 m] w (TellR pm [] 0 c w) := by
  have hn := right_nil m
  have HP := Lib.hid (And.intro hpm hc)
  clear hpm hc
  unfold newM newE at HP
  by_cases h0 : m < 0
  · have hr : rightR m [] = false := by rw [hn, decide_eq_false (by omega)]; rfl
    rw [hr] at HP
    obtain ⟨rfl, rfl⟩ := HP.out
    go_enter Tryz.func56, Tryz.ntmps56
    go_wp2
    refine bodyPost_ret (v := .tuple #[.agg #[.int .i64 0, .slice none 0 0], .int .i64 2]) (by simp [results, Tryz.results56, go_sem]) rfl ?_
    exact ⟨none, 0, rfl, ⟨Txs.nil _, OwnT.nil _ _⟩, Below.new _ _⟩
  · by_cases h1 : m > 2000
    · have hr : rightR m [] = false := by rw [hn, decide_eq_false (p := m ≤ 2000) (by omega), Bool.and_false]
      rw [hr] at HP
      obtain ⟨rfl, rfl⟩ := HP.out
      go_enter Tryz.func56, Tryz.ntmps56
      go_wp2
      refine bodyPost_ret (v := .tuple #[.agg #[.int .i64 0, .slice none 0 0], .int .i64 2]) (by simp [results, Tryz.results56, go_sem]) rfl ?_
      exact ⟨none, 0, rfl, ⟨Txs.nil _, OwnT.nil _ _⟩, Below.new _ _⟩
    · have hr : rightR m [] = true := by rw [hn, decide_eq_true (by omega), decide_eq_true (by omega)]; rfl
      rw [hr] at HP
      obtain ⟨rfl, rfl⟩ := HP.out
      go_enter Tryz.func56, Tryz.ntmps56
      go_wp2
      refine bodyPost_ret (v := .tuple #[.agg #[.int .i64 m, .slice none 0 0], .int .i64 0]) (by simp [results, Tryz.results56, go_sem]) rfl ?_
      exact ⟨none, 0, rfl, ⟨Txs.nil _, OwnT.nil _ _⟩, Below.new _ _⟩

end Go.Proofs.YtnbpfbmhheimbaaGreatDoor

/- The document's Put, Take. -/
namespace Go.Proofs.YtnbpfbmhheimbaaGreatDoor
open Go.RowKit Go.Proofs.Fld Go.Proofs.Rng Go.Shelf Go.Sort

/-- What an append leaves. -/
def AppQ (base e size : Nat) (v : Value) (w : World) (v' : Value) (n : Nat) (xs : List Value) (w' : World) : Prop := w'.ownsRow base e size v' n xs ∧ w.grownBy w' v.ownBlock
/-- append(buf, xs...) where buf is the call's own, and xs came in, nil or not: a step of a region that draws. -/
theorem step_append_some {P : Program} {ops : Array Oper} {o : Oper} {a : Act} {w : World} {K : Act → World → Prop} {Q : Exit → Act → World → Prop} {E : Prop} (hgd : o.guard = none) (sl x : Operand) (t : TypeId)
    (ho : o.op = .call { callee := .builtin .append, args := #[sl, x], argTypes := #[t, t] })
    (base : Nat) (e : TypeId) (i : TypeInfo) (z : Value) (size bytes : Nat) (ht : P.underlying t = some (.slice e)) (hi : P.info? e = some i) (hz : i.zero = some z)
    (hsize : i.size = size) (hby : i.bytes = bytes) (hzs : z.cells.size = size) (hsz : 0 < size)
    (v : Value) (n : Nat) (xs : List Value) (hs : a.eval sl = v) (hown : w.ownsRow base e size v n xs)
    (ao : Option Addr) (m c : Nat) (news : List Value) (hx : a.eval x = .slice ao m c) (hl : news.length = m * size) (hnone : ao = none → m = 0 ∧ c = 0) (hnews : ∀ ad, ao = some ad → ∀ j u, news[j]? = some u → w.cell? (ad.add j) = some u) (h1 : ∀ u ∈ news, u.oneCell' = true)
    (h63 : n + m ≤ maxLen) (hbytes : (n + m) * bytes ≤ 140737488355328) (hbase : base ≤ w.heap.size)
    (h : ∀ v' w', AppQ base e size v w v' (n + m) (xs ++ news) w' → K (a.put o.dst v') w') : if Region.wanted o (yielded ops a.tmps) = true then Oper.wp P o a w K Q else E := by
  have hw : Region.wanted o (yielded ops a.tmps) = true := by simp [Region.wanted, hgd]
  rw [if_pos hw]
  cases ao with
  | none =>
    obtain ⟨rfl, rfl⟩ := hnone rfl
    have hn : news = [] := List.eq_nil_of_length_eq_zero (by rw [hl]; omega)
    subst hn
    have hrun := run_append_owned_none (P := P) (w := w) base t o.type e i size ht hi v n xs hown
    unfold Oper.wp
    simp [execOp, ho, resolve, invoke, builtin, hs, hx, hrun, Result.andThen]
    exact h v w ⟨by rw [List.append_nil]; exact hown, World.grownBy.refl w _⟩
  | some ad => exact wp_append_own w sl x t ho base e i z size bytes ht hi hz hsize hby hzs hsz v n xs hs hown ad m c news hx hl (hnews ad rfl) h1 h63 hbytes hbase (fun v' w' h2 h3 _ => h v' w' ⟨h2, h3⟩)
theorem row_slice {w : World} {base e size : Nat} {n : Nat} {v : Value} {xs : List Value} (h : w.ownsRow base e size v n xs) : ∃ a cap, v = .slice a n cap := by
  rcases h.2 with ⟨rfl, rfl⟩ | ⟨g, cap, cur, rfl, _⟩
  · exact ⟨none, 0, rfl⟩
  · exact ⟨_, cap, rfl⟩
theorem row_more {w w' : World} {base e size : Nat} {n : Nat} {v : Value} {xs : List Value} (h : w.ownsRow base e size v n xs) (hb : Below w.heap.size w w') : w'.ownsRow base e size v n xs := by
  refine ⟨h.1, ?_⟩
  rcases h.2 with ⟨e, h0⟩ | ⟨g, cap, cur, e, hb', hg, rest⟩
  · exact .inl ⟨e, h0⟩
  · exact .inr ⟨g, cap, cur, e, hb', (hb.block g (Array.getElem?_eq_some_iff.1 hg).1).trans hg, rest⟩
theorem app_below {V w w' : World} {v v' : Value} {n n' : Nat} {xs xs' : List Value} {e size : Nat} (hV : Below V.heap.size V w) (h0 : w.ownsRow V.heap.size e size v n' xs') (h : AppQ V.heap.size e size v w v' n xs w') : Below V.heap.size V w' :=
  hV.grown h.2 hV.size (fun k hk => (World.ownsRow.lt h0 k hk).1)
theorem Txs.nones2 {W : World} {ao : Option Addr} {len cap : Nat} {zs : List It} (h : Txs W ao len cap zs) : ao = none → len = 0 ∧ cap = 0 := fun e => ⟨h.nones e, h.hnone e⟩
theorem Txs.fromc {W : World} {ao : Option Addr} {len cap : Nat} {zs : List It} (h : Txs W ao len cap zs) (e : Nat) (he : e ≤ len) : Txs W (fromA ao e cap) (len - e) (cap - e) (zs.drop e) := by
  have hm := h.hmax
  have hle := h.hle
  refine ⟨by rw [List.length_drop, h.hlen], by omega, by omega, fun q => ?_, fun x hx => h.hfits x (List.mem_of_mem_drop hx), fun hz => ?_⟩
  · unfold fromA at q
    by_cases e1 : cap = e
    · omega
    · rw [if_neg e1] at q
      cases ao with
      | none => have := h.hnone rfl; omega
      | some x => simp at q
  · have hlt : e < len := by
      rcases Nat.lt_or_ge e len with q | q
      · exact q
      · exact absurd (List.drop_eq_nil_of_le (by rw [h.hlen]; exact q)) hz
    obtain ⟨b, off, rfl, hc⟩ := h.hcells (fun q => hz (by rw [q]; simp))
    refine ⟨b, off + e, ?_, fun j x hj => ?_⟩
    · unfold fromA
      rw [if_neg (by omega)]
      simp [add_at]
    · rw [List.getElem?_drop] at hj
      have := hc _ x hj
      rw [show off + e + j = off + (e + j) by omega]
      exact this

set_option maxRecDepth 100000 in
set_option maxHeartbeats 4000000 in
theorem RPut_q {m : Int} {ao : Option Addr} {len cap : Nat} {zs : List It} {x : It} {pm : Int} {pl : List It} {c : Int} {k : Nat} (hx : x.length ≤ 900000) (hreach : len ≤ 1000000) (hsum : takes zs ≤ 1000000) (hpm : putM m zs x = pm) (hpl : putL m zs x = pl) (hc : errN (putE m zs x) = c) (hk : pl.length = k) {w : World} (hL : Txs w ao len cap zs) :
    Calls Tryz.prog 73 #[.agg #[.int .i64 m, .slice ao len cap], .string (bs x)] w (TellR pm pl k c w) := by
  obtain ⟨i0, hi, hz0, hz1, hz2⟩ := info_parts infoS
  have hfz : ∀ y ∈ zs, y.length ≤ 9223372036854775807 := hL.hfits
  have HFZ := Lib.hid hfz
  have hB1 := Below.new w (.cells #[.int .i64 m, .slice ao len cap] 53)
  have hN2 := Below.new (w.alloc (.cells #[.int .i64 m, .slice ao len cap] 53)) (.cells #[.int .i64 0, .slice none 0 0] 53)
  have hB2 := below_more hB1 hN2
  have R := (Rv.new w m ao len cap zs hL).more hN2
  have r2 := R2.new (w.alloc (.cells #[.int .i64 m, .slice ao len cap] 53)) (.int .i64 0) (.slice none 0 0) 53
  rw [World.size_alloc] at r2
  obtain ⟨W0, hW0⟩ : ∃ W0, (w.alloc (.cells #[.int .i64 m, .slice ao len cap] 53)).alloc (.cells #[.int .i64 0, .slice none 0 0] 53) = W0 := ⟨_, rfl⟩
  rw [hW0] at hB2 R r2
  have HX := Lib.hid (And.intro R (And.intro r2 hB2))
  have c0 := R.r.c0
  have c1 := R.r.c1
  have hzl := hL.hlen
  clear hB1 hB2 hN2 r2 hL R
  have HW := Lib.hid (And.intro hpm (And.intro hpl (And.intro hc hk)))
  have hsz := bs_size x
  clear hpm hpl hc hk hfz
  cases hr : rightR m zs with
  | false =>
    obtain ⟨q1, q2, q3⟩ := put_wrong (x := x) hr
    obtain ⟨h1, h2, h3, h4⟩ := HW.out
    rw [q2] at h1
    rw [q3] at h2
    rw [q1] at h3
    subst h1 h2 h4
    obtain rfl : (2 : Int) = c := h3
    have HR := Lib.hid hr
    clear hr q1 q2 q3
    go_enter Tryz.func73, Tryz.ntmps73
    go_wp2_with (go_at_call 80; refine (RRight_p hreach hsum HR.out HX.out.1.t).mono ?_)
    rintro e w1 ⟨rfl, hb⟩
    have R1 := HX.out.1.more hb
    have HY := Lib.hid (And.intro R1 (And.intro (HX.out.2.1.more hb) (below_more HX.out.2.2 hb)))
    clear c0 c1
    have c0 := R1.r.c0
    have c1 := R1.r.c1
    clear hb R1
    obtain ⟨y0, y1, _, _⟩ := HY.out.2.1.set (.int .i64 0) (.slice none 0 0)
    obtain ⟨d0, d1, f0, f1⟩ := HY.out.2.1
    have HB3 := Lib.hid (set2B HY.out.2.2 (b := w.heap.size + 1) (by omega) (.int .i64 0) (.slice none 0 0))
    go_wp2
    generalize hWF : ((w1.setCell ⟨w.heap.size + 1, 0, none⟩ (.int .i64 0)).setCell ⟨w.heap.size + 1, 1, none⟩ (.slice none 0 0)) = WF at y0 y1 HB3 ⊢
    refine bodyPost_ret (v := .tuple #[.agg #[.int .i64 0, .slice none 0 0], .int .i64 2]) (by simp [results, Tryz.results73, go_sem, y0, y1]) rfl ?_
    exact ⟨none, 0, rfl, ⟨Txs.nil _, OwnT.nil _ _⟩, HB3.out⟩
  | true =>
    have HR := Lib.hid hr
    by_cases h2 : 200 < x.length
    · have hd : decide ((x.length : Int) > 200) = true := decide_eq_true (by omega)
      obtain ⟨q1, q2, q3⟩ := put_no (x := x) (k := 1) hr (by rw [roomE_one, if_pos h2]) (by decide)
      obtain ⟨h1, h2', h3, h4⟩ := HW.out
      rw [q2] at h1
      rw [q3] at h2'
      rw [q1] at h3
      subst h1 h2' h4
      obtain rfl : (2 : Int) = c := h3
      clear hr q1 q2 q3
      go_enter Tryz.func73, Tryz.ntmps73
      go_wp2_with (go_at_call 80; refine (RRight_p hreach hsum HR.out HX.out.1.t).mono ?_)
      rintro e w1 ⟨rfl, hb⟩
      have R1 := HX.out.1.more hb
      have HY := Lib.hid (And.intro R1 (And.intro (HX.out.2.1.more hb) (below_more HX.out.2.2 hb)))
      clear c0 c1
      have c0 := R1.r.c0
      have c1 := R1.r.c1
      clear hb R1
      obtain ⟨y0, y1, _, _⟩ := HY.out.2.1.set (.int .i64 0) (.slice none 0 0)
      obtain ⟨d0, d1, f0, f1⟩ := HY.out.2.1
      have HB3 := Lib.hid (set2B HY.out.2.2 (b := w.heap.size + 1) (by omega) (.int .i64 0) (.slice none 0 0))
      go_wp2
      generalize hWF : ((w1.setCell ⟨w.heap.size + 1, 0, none⟩ (.int .i64 0)).setCell ⟨w.heap.size + 1, 1, none⟩ (.slice none 0 0)) = WF at y0 y1 HB3 ⊢
      refine bodyPost_ret (v := .tuple #[.agg #[.int .i64 0, .slice none 0 0], .int .i64 2]) (by simp [results, Tryz.results73, go_sem, y0, y1]) rfl ?_
      exact ⟨none, 0, rfl, ⟨Txs.nil _, OwnT.nil _ _⟩, HB3.out⟩
    · have hd : decide ((x.length : Int) > 200) = false := decide_eq_false (by omega)
      obtain ⟨u, hu⟩ : ∃ u, takes zs = u := ⟨_, rfl⟩
      obtain ⟨t1, ht1⟩ : ∃ t1 : Int, (u : Int) + (x.length : Int) = t1 := ⟨_, rfl⟩
      obtain ⟨t2, ht2⟩ : ∃ t2 : Int, t1 + 1 = t2 := ⟨_, rfl⟩
      have g1 : 0 ≤ t1 ∧ t1 ≤ 1000000000 := by omega
      have g2 : 0 ≤ t2 ∧ t2 ≤ 1000000000 := by omega
      have HWR := Lib.hid (And.intro (show IntKind.i64.wrap ((u : Int) + (x.length : Int)) = t1 by rw [ht1]; exact (wr1 t1 g1.1 g1.2).1) (show IntKind.i64.wrap (t1 + 1) = t2 by rw [ht2]; exact (wr1 t2 g2.1 g2.2).1))
      have ht3 : t2 = ((u + x.length + 1 : Nat) : Int) := by omega
      have HU := Lib.hid (And.intro hu ht3)
      clear g1 g2
      by_cases hf : m < t2
      · have hd2 : decide (t2 > m) = true := decide_eq_true hf
        obtain ⟨q1, q2, q3⟩ := put_no (x := x) (k := 2) hr (by rw [roomE_one, if_neg h2, hu, ← ht3, if_pos hf]) (by decide)
        obtain ⟨h1, h2', h3, h4⟩ := HW.out
        rw [q2] at h1
        rw [q3] at h2'
        rw [q1] at h3
        subst h1 h2' h4
        obtain rfl : (80 : Int) = c := h3
        clear hr q1 q2 q3 hf ht1 ht2 ht3 hu
        go_enter Tryz.func73, Tryz.ntmps73
        go_wp2_with (go_at_call 80; refine (RRight_p hreach hsum HR.out HX.out.1.t).mono ?_)
        rintro e w1 ⟨rfl, hb⟩
        have R1 := HX.out.1.more hb
        have HY := Lib.hid (And.intro R1 (And.intro (HX.out.2.1.more hb) (below_more HX.out.2.2 hb)))
        clear c0 c1
        have c0 := R1.r.c0
        have c1 := R1.r.c1
        have r0 := cell_regrown c0
        have r1 := cell_regrown c1
        have cT := rg_int (V := w1) fun W hb => Rtakes_p hreach hsum HU.out.1 (HY.out.1.more hb).t
        obtain ⟨e1, e2⟩ := HWR.out
        clear hb R1
        go_wp2
        refine wp_region_quiet_below (by kernel_rfl) (by kernel_rfl) ?_
        repeat (quiet_step (with_reducible (first | exact cT _ _)))
        refine wpQuiet_nil ?_
        intro W3 hw'
        obtain ⟨⟨dq, osq⟩, hw''⟩ := hw'
        have hbq : Below w1.heap.size w1 W3 := hw'' ▸ below_regrown w1 dq osq
        have HZ := Lib.hid (And.intro (HY.out.1.more hbq) (And.intro (HY.out.2.1.more hbq) (below_more HY.out.2.2 hbq)))
        clear hw'' hbq cT r0 r1 c0 c1 e1 e2 HWR
        obtain ⟨y0, y1, _, _⟩ := HZ.out.2.1.set (.int .i64 0) (.slice none 0 0)
        obtain ⟨d0, d1, f0, f1⟩ := HZ.out.2.1
        have HB3 := Lib.hid (set2B HZ.out.2.2 (b := w.heap.size + 1) (by omega) (.int .i64 0) (.slice none 0 0))
        go_wp2
        generalize hWF : ((W3.setCell ⟨w.heap.size + 1, 0, none⟩ (.int .i64 0)).setCell ⟨w.heap.size + 1, 1, none⟩ (.slice none 0 0)) = WF at y0 y1 HB3 ⊢
        refine bodyPost_ret (v := .tuple #[.agg #[.int .i64 0, .slice none 0 0], .int .i64 80]) (by simp [results, Tryz.results73, go_sem, y0, y1]) rfl ?_
        exact ⟨none, 0, rfl, ⟨Txs.nil _, OwnT.nil _ _⟩, HB3.out⟩
      · have hd2 : decide (t2 > m) = false := decide_eq_false (by omega)
        obtain ⟨q1, q2, q3⟩ := put_yes (x := x) hr (by rw [roomE_one, if_neg h2, hu, ← ht3, if_neg hf])
        obtain ⟨h1, h2', h3, h4⟩ := HW.out
        rw [q2] at h1
        rw [q3] at h2'
        rw [q1] at h3
        subst h1 h2'
        have hk1 : len + 1 = k := by rw [← h4, List.length_append, hzl]; rfl
        subst hk1
        obtain rfl : (0 : Int) = c := h3
        clear hr q1 q2 q3 hf ht1 ht2 ht3 hu h4
        go_enter Tryz.func73, Tryz.ntmps73
        go_wp2_with (go_at_call 80; refine (RRight_p hreach hsum HR.out HX.out.1.t).mono ?_)
        rintro e w1 ⟨rfl, hb⟩
        have R1 := HX.out.1.more hb
        have HY := Lib.hid (And.intro R1 (And.intro (HX.out.2.1.more hb) (below_more HX.out.2.2 hb)))
        clear c0 c1
        have c0 := R1.r.c0
        have c1 := R1.r.c1
        have r0 := cell_regrown c0
        have r1 := cell_regrown c1
        have cT := rg_int (V := w1) fun W hb => Rtakes_p hreach hsum HU.out.1 (HY.out.1.more hb).t
        obtain ⟨e1, e2⟩ := HWR.out
        clear hb R1
        go_wp2
        refine wp_region_quiet_below (by kernel_rfl) (by kernel_rfl) ?_
        repeat (quiet_step (with_reducible (first | exact cT _ _)))
        refine wpQuiet_nil ?_
        intro W3 hw'
        obtain ⟨⟨dq, osq⟩, hw''⟩ := hw'
        have hbq : Below w1.heap.size w1 W3 := hw'' ▸ below_regrown w1 dq osq
        have HZ := Lib.hid (And.intro (HY.out.1.more hbq) (And.intro (HY.out.2.1.more hbq) (below_more HY.out.2.2 hbq)))
        clear hw'' hbq cT r0 r1 c0 c1 e1 e2 HWR
        obtain ⟨l1, hl1⟩ : ∃ l1, tcl zs = l1 := ⟨_, rfl⟩
        have hl2 : l1.length = len * 1 := by rw [← hl1, tcl_length, hzl, Nat.mul_one]
        have HO1 := Lib.hid (show ∀ u ∈ l1, u.oneCell' = true from hl1 ▸ tcl_one zs)
        have HNW := Lib.hid (And.intro HZ.out.1.t.nones2 (And.intro (show ∀ W, Below W3.heap.size W3 W → ∀ ad, ao = some ad → ∀ j u, l1[j]? = some u → W.cell? (ad.add j) = some u from fun W hb => hl1 ▸ (HZ.out.1.more hb).t.news) (And.intro hl1 hl2)))
        clear hl1 hl2
        have hV0 : Below W3.heap.size W3 W3.drew := (Below.refl _ W3).drew
        have hV1 : Below W3.heap.size W3 (W3.alloc (.cells #[.string (bs x)] 9)).drew := (Below.new _ _).drew
        have c0 := HZ.out.1.r.c0
        have c1 := HZ.out.1.r.c1
        have c0a : ∀ o, (W3.alloc o).cell? ⟨w.heap.size, 0, none⟩ = some (.int .i64 m) := fun o => cell_later (Below.new _ _) c0
        have c1a : ∀ o, (W3.alloc o).cell? ⟨w.heap.size, 1, none⟩ = some (.slice ao len cap) := fun o => cell_later (Below.new _ _) c1
        have HI1 := Lib.hid (it_new W3 x)
        have hzs : W3.heap.size ≤ (W3.alloc (.cells #[.string (bs x)] 9)).drew.heap.size := hV1.size
        have HVV := Lib.hid (And.intro hV0 (And.intro hV1 hzs))
        clear hV0 hV1 hzs
        go_wp2
        go_region_law (first
          | (refine step_append_some rfl (.tmp 29) (.tmp 31) 31 rfl W3.heap.size 9 i0 (.string { data := #[] }) 1 16 Tryz.underlying31 hi hz0 hz1 hz2 rfl (by decide) (.slice none 0 0) 0 [] (by simp [Act.eval]) (World.ownsRow_nil _ _ _ _) ao len cap l1 (by simp [Act.eval]) HNW.out.2.2.2 HNW.out.1 (HNW.out.2.1 _ (by first | exact HVV.out.1 | exact HVV.out.2.1)) HO1.out (by unfold maxLen; omega) (by omega) (by first | exact HVV.out.1.size | exact HVV.out.2.2) ?_; rintro v1 w5 hA1; have hB5 := app_below (by first | exact HVV.out.1 | exact HVV.out.2.1) (World.ownsRow_nil _ _ _ _) hA1; obtain ⟨va1, vc1, rfl⟩ := row_slice hA1.1; have k0 := cell_later hB5 c0; have k1 := cell_later hB5 c1; have k0a := fun o => cell_later (Below.new w5 o) k0; have k1a := fun o => cell_later (Below.new w5 o) k1)
          | (refine step_append_some rfl (.tmp 32) (.tmp 34) 31 rfl W3.heap.size 9 i0 (.string { data := #[] }) 1 16 Tryz.underlying31 hi hz0 hz1 hz2 rfl (by decide) (.slice va1 (0 + len) vc1) (0 + len) ([] ++ l1) (by simp [Act.eval]) (row_more hA1.1 (Below.new _ _)) (some ⟨w5.heap.size, 0, none⟩) 1 1 [.string (bs x)] (by simp [Act.eval]) rfl (fun h => by cases h) (fun ad e => by cases e; exact it_new w5 x) (by simp [Value.oneCell']) (by unfold maxLen; omega) (by omega) (Nat.le_trans hB5.size (Below.new _ _).size) ?_; rintro v2 w6 hA2; have hB6 := app_below (below_more hB5 (Below.new _ _)) (row_more hA1.1 (Below.new _ _)) hA2; obtain ⟨va2, vc2, rfl⟩ := row_slice hA2.1; have n0 := cell_later hB6 c0; have n1 := cell_later hB6 c1; obtain ⟨d0, d1, f0, f1⟩ := HZ.out.2.1.more hB6)
          | (refine step_append_some rfl (.tmp 32) (.tmp 34) 31 rfl W3.heap.size 9 i0 (.string { data := #[] }) 1 16 Tryz.underlying31 hi hz0 hz1 hz2 rfl (by decide) (.slice va1 (0 + len) vc1) (0 + len) ([] ++ l1) (by simp [Act.eval]) hA1.1 (some ⟨W3.heap.size, 0, none⟩) 1 1 [.string (bs x)] (by simp [Act.eval]) rfl (fun h => by cases h) (fun ad e => by cases e; exact fun j u hj => (World.cell?_of_block (hA1.2.block _ (by simp [add_at]) (by simp [Value.ownBlock]))).trans (HI1.out j u hj)) (by simp [Value.oneCell']) (by unfold maxLen; omega) (by omega) hB5.size ?_; rintro v2 w6 hA2; have hB6 := app_below hB5 hA1.1 hA2; obtain ⟨va2, vc2, rfl⟩ := row_slice hA2.1; have n0 := cell_later hB6 c0; have n1 := cell_later hB6 c1; obtain ⟨d0, d1, f0, f1⟩ := HZ.out.2.1.more hB6))
        all_goals
          have hlt := HZ.out.2.1.lt
          have hO : OwnT W3.heap.size w6 (.slice va2 (len + 1) vc2) (zs ++ [x]) := by
            have hh := hA2.1
            rw [Nat.zero_add, List.nil_append, ← HNW.out.2.2.1] at hh
            unfold OwnT
            rw [List.length_append, hzl, tcl_append]
            exact hh
          obtain ⟨y0, y1, _, _⟩ := R2.set ⟨d0, d1, f0, f1⟩ (.int .i64 m) (.slice va2 (len + 1) vc2)
          have HB3 := Lib.hid (set2B (below_more HZ.out.2.2 hB6) (b := w.heap.size + 1) (by omega) (.int .i64 m) (.slice va2 (len + 1) vc2))
          have HO := Lib.hid (((hO.set1 (b := w.heap.size + 1) (i := 0) (x := .int .i64 m) (by omega)).set1 (b := w.heap.size + 1) (i := 1) (x := .slice va2 (len + 1) vc2) (by omega)).mono (n1 := w.heap.size) (by omega))
          clear hO hlt hA1 hA2 hB5 hB6 k0 k1 k0a k1a n0 n1
          go_wp2
          generalize hWF : ((w6.setCell ⟨w.heap.size + 1, 0, none⟩ (.int .i64 m)).setCell ⟨w.heap.size + 1, 1, none⟩ (.slice va2 (len + 1) vc2)) = WF at y0 y1 HB3 HO ⊢
          refine bodyPost_ret (v := .tuple #[.agg #[.int .i64 m, .slice va2 (len + 1) vc2], .int .i64 0]) (by simp [results, Tryz.results73, go_sem, y0, y1]) rfl ?_
          exact ⟨va2, vc2, rfl, ⟨HO.out.txs (by rw [List.length_append, hzl]; rfl) (fun y hy => by
            rcases List.mem_append.1 hy with h | h
            · exact HFZ.out y h
            · obtain rfl : y = x := by simpa using h
              omega), HO.out⟩, HB3.out⟩

set_option maxRecDepth 100000 in
set_option maxHeartbeats 4000000 in
theorem RTake_q {m : Int} {ao : Option Addr} {len cap : Nat} {zs : List It} {px : It} {pm : Int} {pl : List It} {c : Int} {k : Nat} (hreach : len ≤ 1000000) (hsum : takes zs ≤ 1000000) (hpx : takeX m zs = px) (hpm : takeM m zs = pm) (hpl : takeL m zs = pl) (hc : errN (takeE m zs) = c) (hk : pl.length = k) {w : World} (hL : Txs w ao len cap zs) :
    Calls Tryz.prog 77 #[.agg #[.int .i64 m, .slice ao len cap]] w (TellX px pm pl k c w) := by
  obtain ⟨i0, hi, hz0, hz1, hz2⟩ := info_parts infoS
  have hfz : ∀ y ∈ zs, y.length ≤ 9223372036854775807 := hL.hfits
  have HFZ := Lib.hid hfz
  have hB1 := Below.new w (.cells #[.int .i64 m, .slice ao len cap] 53)
  have hN2 := Below.new (w.alloc (.cells #[.int .i64 m, .slice ao len cap] 53)) (.cells #[.int .i64 0, .slice none 0 0] 53)
  have hB2 := below_more hB1 hN2
  have R := (Rv.new w m ao len cap zs hL).more hN2
  have r2 := R2.new (w.alloc (.cells #[.int .i64 m, .slice ao len cap] 53)) (.int .i64 0) (.slice none 0 0) 53
  rw [World.size_alloc] at r2
  obtain ⟨W0, hW0⟩ : ∃ W0, (w.alloc (.cells #[.int .i64 m, .slice ao len cap] 53)).alloc (.cells #[.int .i64 0, .slice none 0 0] 53) = W0 := ⟨_, rfl⟩
  rw [hW0] at hB2 R r2
  have HX := Lib.hid (And.intro R (And.intro r2 hB2))
  have c0 := R.r.c0
  have c1 := R.r.c1
  have hzl := hL.hlen
  clear hB1 hB2 hN2 r2 hL R
  have HW := Lib.hid (And.intro hpx (And.intro hpm (And.intro hpl (And.intro hc hk))))
  clear hpx hpm hpl hc hk hfz
  cases hr : rightR m zs with
  | false =>
    obtain ⟨q1, q2, q3, q4⟩ := take_wrong hr
    obtain ⟨h0, h1, h2, h3, h4⟩ := HW.out
    rw [q4] at h0
    rw [q2] at h1
    rw [q3] at h2
    rw [q1] at h3
    subst h0 h1 h2 h4
    obtain rfl : (2 : Int) = c := h3
    have HR := Lib.hid hr
    clear hr q1 q2 q3 q4
    go_enter Tryz.func77, Tryz.ntmps77
    go_wp2_with (go_at_call 80; refine (RRight_p hreach hsum HR.out HX.out.1.t).mono ?_)
    rintro e w1 ⟨rfl, hb⟩
    have R1 := HX.out.1.more hb
    have HY := Lib.hid (And.intro R1 (And.intro (HX.out.2.1.more hb) (below_more HX.out.2.2 hb)))
    clear c0 c1
    have c0 := R1.r.c0
    have c1 := R1.r.c1
    clear hb R1
    obtain ⟨y0, y1, _, _⟩ := HY.out.2.1.set (.int .i64 0) (.slice none 0 0)
    obtain ⟨d0, d1, f0, f1⟩ := HY.out.2.1
    have HB3 := Lib.hid (set2B HY.out.2.2 (b := w.heap.size + 1) (by omega) (.int .i64 0) (.slice none 0 0))
    go_wp2
    generalize hWF : ((w1.setCell ⟨w.heap.size + 1, 0, none⟩ (.int .i64 0)).setCell ⟨w.heap.size + 1, 1, none⟩ (.slice none 0 0)) = WF at y0 y1 HB3 ⊢
    refine bodyPost_ret (v := .tuple #[.string { data := #[] }, .agg #[.int .i64 0, .slice none 0 0], .int .i64 2]) (by simp [results, Tryz.results77, go_sem, y0, y1]) rfl ?_
    exact ⟨none, 0, rfl, ⟨Txs.nil _, OwnT.nil _ _⟩, HB3.out⟩
  | true =>
    have HR := Lib.hid hr
    by_cases hz : len = 0
    · obtain ⟨q1, q2, q3, q4⟩ := take_none hr (List.eq_nil_of_length_eq_zero (hzl.trans hz))
      obtain ⟨h0, h1, h2, h3, h4⟩ := HW.out
      rw [q4] at h0
      rw [q2] at h1
      rw [q3] at h2
      rw [q1] at h3
      subst h0 h1 h2 h4 hz
      obtain rfl : (81 : Int) = c := h3
      clear hr q1 q2 q3 q4
      go_enter Tryz.func77, Tryz.ntmps77
      go_wp2_with (go_at_call 80; refine (RRight_p hreach hsum HR.out HX.out.1.t).mono ?_)
      rintro e w1 ⟨rfl, hb⟩
      have R1 := HX.out.1.more hb
      have HY := Lib.hid (And.intro R1 (And.intro (HX.out.2.1.more hb) (below_more HX.out.2.2 hb)))
      clear c0 c1
      have c0 := R1.r.c0
      have c1 := R1.r.c1
      clear hb R1
      obtain ⟨y0, y1, _, _⟩ := HY.out.2.1.set (.int .i64 0) (.slice none 0 0)
      obtain ⟨d0, d1, f0, f1⟩ := HY.out.2.1
      have HB3 := Lib.hid (set2B HY.out.2.2 (b := w.heap.size + 1) (by omega) (.int .i64 0) (.slice none 0 0))
      go_wp2
      generalize hWF : ((w1.setCell ⟨w.heap.size + 1, 0, none⟩ (.int .i64 0)).setCell ⟨w.heap.size + 1, 1, none⟩ (.slice none 0 0)) = WF at y0 y1 HB3 ⊢
      refine bodyPost_ret (v := .tuple #[.string { data := #[] }, .agg #[.int .i64 0, .slice none 0 0], .int .i64 81]) (by simp [results, Tryz.results77, go_sem, y0, y1]) rfl ?_
      exact ⟨none, 0, rfl, ⟨Txs.nil _, OwnT.nil _ _⟩, HB3.out⟩
    · have hne : 0 < len := by omega
      obtain ⟨x, hx⟩ : ∃ x, zs[0]? = some x := ⟨_, List.getElem?_eq_getElem (by rw [hzl]; exact hne)⟩
      obtain ⟨q1, q2, q3, q4⟩ := take_yes hr hx
      obtain ⟨h0, h1, h2, h3, h4⟩ := HW.out
      rw [q4] at h0
      rw [q2] at h1
      rw [q3] at h2
      rw [q1] at h3
      subst h0 h1 h2
      obtain ⟨k', hk'⟩ : ∃ k', len - 1 = k' := ⟨_, rfl⟩
      have hkk : k = k' := by rw [← h4, List.length_drop, hzl]; exact hk'
      subst hkk
      obtain rfl : (0 : Int) = c := h3
      have hd0 : (((len : Nat) : Int) == 0) = false := by simp; omega
      have hk6 : k ≤ 1000000 := by omega
      have HK := Lib.hid (And.intro hk' (And.intro hx h4))
      clear hr q1 q2 q3 q4 hx hk' h4
      go_enter Tryz.func77, Tryz.ntmps77
      go_wp2_with (go_at_call 80; refine (RRight_p hreach hsum HR.out HX.out.1.t).mono ?_)
      rintro e w1 ⟨rfl, hb⟩
      have R1 := HX.out.1.more hb
      have HY := Lib.hid (And.intro R1 (And.intro (HX.out.2.1.more hb) (below_more HX.out.2.2 hb)))
      clear c0 c1
      have c0 := R1.r.c0
      have c1 := R1.r.c1
      clear hb R1
      obtain ⟨b, off, rfl, hbl, hcs⟩ := HY.out.1.t.at hne
      have i1 := hcs 0 x HK.out.2.1
      rw [Nat.add_zero] at i1
      have sl := slice_l (some ⟨b, off, none⟩) len cap 1 hne (HY.out.1.t.hle)
      have T2 := HY.out.1.t.fromc 1 hne
      rw [HK.out.1] at sl T2
      rw [show ((1 : Nat) : Int) = 1 from rfl] at sl
      obtain ⟨A2, hA2⟩ : ∃ A2, fromA (some ⟨b, off, none⟩) 1 cap = A2 := ⟨_, rfl⟩
      obtain ⟨c2, hc2⟩ : ∃ c2, cap - 1 = c2 := ⟨_, rfl⟩
      rw [hA2, hc2] at sl T2
      obtain ⟨l1, hl1⟩ : ∃ l1, tcl (zs.drop 1) = l1 := ⟨_, rfl⟩
      have hl2 : l1.length = k * 1 := by rw [← hl1, tcl_length, HK.out.2.2, Nat.mul_one]
      have HO1 := Lib.hid (show ∀ u ∈ l1, u.oneCell' = true from hl1 ▸ tcl_one (zs.drop 1))
      have hV0 : Below w1.heap.size w1 w1.drew := (Below.refl _ w1).drew
      have HNW := Lib.hid (And.intro T2.nones2 (And.intro (show ∀ ad, A2 = some ad → ∀ j u, l1[j]? = some u → w1.drew.cell? (ad.add j) = some u from hl1 ▸ (T2.more hV0).news) (And.intro hl1 (And.intro hl2 hV0))))
      clear hl1 hl2 hV0 T2 hA2 hc2 hcs
      go_wp2
      go_region_law (refine step_append_some rfl (.tmp 21) (.tmp 24) 31 rfl w1.heap.size 9 i0 (.string { data := #[] }) 1 16 Tryz.underlying31 hi hz0 hz1 hz2 rfl (by decide) (.slice none 0 0) 0 [] (by simp [Act.eval, Act.put]) (World.ownsRow_nil _ _ _ _) A2 k c2 l1 (by simp [Act.eval, Act.put]) HNW.out.2.2.2.1 HNW.out.1 HNW.out.2.1 HO1.out (by unfold maxLen; omega) (by omega) (HNW.out.2.2.2.2.size) ?_; rintro v1 w5 hA1; have hB5 := app_below HNW.out.2.2.2.2 (World.ownsRow_nil _ _ _ _) hA1; obtain ⟨va1, vc1, rfl⟩ := row_slice hA1.1; have k0 := cell_later hB5 c0; have k1 := cell_later hB5 c1; have k2 := cell_later hB5 i1; obtain ⟨d0, d1, f0, f1⟩ := HY.out.2.1.more hB5)
      all_goals
        have hlt := HY.out.2.1.lt
        have hO : OwnT w1.heap.size w5 (.slice va1 k vc1) (zs.drop 1) := by
          have hh := hA1.1
          rw [Nat.zero_add, List.nil_append, ← HNW.out.2.2.1] at hh
          unfold OwnT
          rw [HK.out.2.2]
          exact hh
        obtain ⟨y0, y1, _, _⟩ := R2.set ⟨d0, d1, f0, f1⟩ (.int .i64 m) (.slice va1 k vc1)
        have HB3 := Lib.hid (set2B (below_more HY.out.2.2 hB5) (b := w.heap.size + 1) (by omega) (.int .i64 m) (.slice va1 k vc1))
        have HO := Lib.hid (((hO.set1 (b := w.heap.size + 1) (i := 0) (x := .int .i64 m) (by omega)).set1 (b := w.heap.size + 1) (i := 1) (x := .slice va1 k vc1) (by omega)).mono (n1 := w.heap.size) (by omega))
        clear hO hlt hA1 hB5 k0 k1 k2
        go_wp2
        generalize hWF : ((w5.setCell ⟨w.heap.size + 1, 0, none⟩ (.int .i64 m)).setCell ⟨w.heap.size + 1, 1, none⟩ (.slice va1 k vc1)) = WF at y0 y1 HB3 HO ⊢
        refine bodyPost_ret (v := .tuple #[.string (bs x), .agg #[.int .i64 m, .slice va1 k vc1], .int .i64 0]) (by simp [results, Tryz.results77, go_sem, y0, y1]) rfl ?_
        first
          | exact ⟨va1, vc1, rfl, ⟨HO.out.txs HK.out.2.2 (fun y hy => HFZ.out y (List.mem_of_mem_drop hy)), HO.out⟩, HB3.out⟩
          | (rw [← List.drop_one]; exact ⟨va1, vc1, rfl, ⟨HO.out.txs HK.out.2.2 (fun y hy => HFZ.out y (List.mem_of_mem_drop hy)), HO.out⟩, HB3.out⟩)

end Go.Proofs.YtnbpfbmhheimbaaGreatDoor

/- What the listed variables give the walks: the three sentinels; rings, texts and slices of texts that come in. -/
namespace Go.Proofs.YtnbpfbmhheimbaaGreatDoor
open Go.ChangeShapes Go.WideShapes Go.ChangeAt Go.RowKit Go.Proofs.Fld Go.Proofs.Rng Go.Joins

theorem own : ownKnob Tryz.prog.godebug = none := by kernel_rfl
theorem laidOut : laidOutB Tryz.prog = true := by kernel_rfl

/-- What the rows list. -/
def laid8 : List (String × DataW Unit) := [("plimsoll/ring.errWrong", Rows.laid_plimsoll_ring_errWrong), ("plimsoll/ring.errFull", Rows.laid_plimsoll_ring_errFull), ("plimsoll/ring.errEmpty", Rows.laid_plimsoll_ring_errEmpty)]

theorem wG : Tryz.prog.globalNamed "plimsoll/ring.errWrong" = some 1 := by kernel_rfl
theorem fG : Tryz.prog.globalNamed "plimsoll/ring.errFull" = some 2 := by kernel_rfl
theorem gG : Tryz.prog.globalNamed "plimsoll/ring.errEmpty" = some 3 := by kernel_rfl
theorem wT : (Tryz.prog.globals[1]?).map (·.type) = some 59 := by kernel_rfl
theorem fT : (Tryz.prog.globals[2]?).map (·.type) = some 59 := by kernel_rfl
theorem gT : (Tryz.prog.globals[3]?).map (·.type) = some 59 := by kernel_rfl
theorem star : "*errors.errorString" = "*" ++ "errors.errorString" := by decide
theorem rowErr (u : TypeId) (h : Tryz.prog.typeName? 3 u = some "*errors.errorString") : u = 207 :=
  typeName_ptr_named (nm := "errors.errorString") (by rw [← star]; kernel_rfl) (by kernel_rfl) (by decide) u (by rw [← star]; exact h)
theorem cellsErr : Tryz.prog.cellsOf 225 = 1 := by kernel_rfl
theorem cells9 : Tryz.prog.cellsOf 9 = 1 := by kernel_rfl
theorem laidMet_rest {P : Program} {x : String × DataW Unit} {r : List (String × DataW Unit)} {W : World} (h : laidMet P (x :: r) W) : laidMet P r W := by
  obtain ⟨n, d⟩ := x
  obtain ⟨ps, ⟨g, t, cs, fuel, p, q, _, _, _, _, hr, rfl⟩, hnd, hrows⟩ := h
  exact ⟨q, hr, (List.nodup_append.1 hnd).2.1, fun b off hm => hrows b off (List.mem_append_right _ hm)⟩

theorem sent_of_laid {W : World} (h : laidMetH Tryz.prog laid8 W) : ∃ s, Sent s W := by
  rw [MakeChecks.laidMetH_plain _ _ _ (by kernel_rfl)] at h
  obtain ⟨aw, af, sw, sf, c0, c1, t0, t1, vw, vf, cw, xw, _, cf, xf, _, nwf, bw, bf⟩ := laid_sentinels2 h wG wT fG fT Tryz.underlying59 rowErr Tryz.underlying207 Tryz.underlying225 rfl rfl Tryz.underlying9 cellsErr cells9
  obtain ⟨af', ag, sf', sg, c2, c3, t2, t3, vf', vg, _, _, _, cg, xg, _, nfg, _, bg⟩ := laid_sentinels2 (laidMet_rest h) fG fT gG gT Tryz.underlying59 rowErr Tryz.underlying207 Tryz.underlying225 rfl rfl Tryz.underlying9 cellsErr cells9
  obtain rfl : af = af' := by
    have e := Option.some.inj (vf.symm.trans vf')
    simpa using e
  refine ⟨⟨aw, af, ag⟩, by simpa using World.var?_cell wG vw 0, by simpa using World.var?_cell fG vf 0, by simpa using World.var?_cell gG vg 0, ⟨_, _, bw⟩, ⟨_, _, bf⟩, ⟨_, _, bg⟩, nwf, ?_, nfg⟩
  intro e
  have e2 : aw = ag := e
  rw [e2, cg] at cw
  have e3 : sg = sw := by simpa using cw
  rw [← e3, xg] at xw
  exact absurd xw (by decide)

theorem door_met8 (os : Os) (args : Array Value) : laidMetH Tryz.prog laid8 ((World.doorLaid Tryz.prog 400 os).forCall (fun _ _ => 0) ⟨#[], args, []⟩).memory :=
  laidMetH_of_parts3 (fuel := 8) (laidMet_of_run' 8 (by kernel_rfl) (by kernel_rfl)) (by kernel_rfl) (by kernel_rfl)

theorem cellsR : Tryz.prog.cellsOf 53 = 2 := by kernel_rfl
section
variable {H : Type} {enc : TypeId × Value → H} {W : World} {base : Nat}
set_option maxRecDepth 100000 in
theorem open_elem {spare : Nat → Bool} {held : Bool} {fuel : Nat} {x : Addr} {cs : List Value} {y : DataW H × List MemPlace} (hc : W.cells? base x (Tryz.prog.cellsOf 9) = some cs) (ht : DataW.trod enc Tryz.prog W base spare held fuel 9 cs = some y) :
    ∃ z : It, z.length ≤ 9223372036854775807 ∧ W.cell? (x.add 0) = some (.string (bs z)) := by
  obtain ⟨_, hcl, hat⟩ := World.cells?_some hc
  rw [cells9] at hcl hat
  match cs, hcl with
  | [c0], _ =>
    obtain ⟨b, e, _, hb⟩ := DataW.trod_string Tryz.underlying9 ht
    obtain rfl := List.head_eq_of_cons_eq e
    refine ⟨b.data.toList, ?_, ?_⟩
    · rw [bs_all b, bs_size] at hb
      exact hb
    · rw [← bs_all b]
      exact hat 0 (by omega)

set_option maxRecDepth 100000 in
theorem open_txsv {v : Value} {fuel : Nat} {y : DataW H × List MemPlace} {held : Bool} (hf : DataW.trod enc Tryz.prog W base (fun _ => true) held fuel 31 [v] = some y) :
    ∃ a len cap zs, v = .slice a len cap ∧ Txs W a len cap zs := by
  rcases Go.Deep.open_slice Tryz.underlying31 hf with ⟨hcs, _⟩ | ⟨x, len, c, m, n, D, Pl, hcs, _, hl, hm, hmm, _, hi⟩
  · obtain rfl := List.head_eq_of_cons_eq hcs
    exact ⟨none, 0, 0, [], rfl, Txs.nil W⟩
  · obtain rfl := List.head_eq_of_cons_eq hcs
    simp only [if_true] at hmm
    subst hmm
    have hel : ∀ i, ∃ z : It, i < len → z.length ≤ 9223372036854775807 ∧ W.cell? ((x.add (i * 1)).add 0) = some (.string (bs z)) := fun i => by
      by_cases hlt : i < len
      · obtain ⟨cs, hc, ht⟩ := hi i (by omega)
        obtain ⟨z, hz⟩ := open_elem hc ht
        rw [cells9] at hz
        exact ⟨z, fun _ => hz⟩
      · exact ⟨[], fun h => absurd h hlt⟩
    obtain ⟨f, hfz⟩ := Classical.axiomOfChoice hel
    refine ⟨some x, len, m, (List.range len).map f, rfl, by simp, hl, hm, (fun h => by cases h), ?_, fun hne => ?_⟩
    · intro z hz
      obtain ⟨i, hi1, rfl⟩ := List.mem_map.1 hz
      exact (hfz i (List.mem_range.1 hi1)).1
    have hpos : 0 < len := by
      rcases Nat.eq_zero_or_pos len with h | h
      · exact absurd (by rw [h]; rfl) hne
      · exact h
    obtain ⟨b, off, sp⟩ := x
    have h0 := (hfz 0 hpos).2
    have hsp' : sp = none := by
      have := World.cell?_spot h0
      simpa [Addr.add] using this
    subst hsp'
    simp only [add_at] at hfz h0
    refine ⟨b, off, rfl, fun j z hj => ?_⟩
    rw [List.getElem?_map] at hj
    by_cases hjl : j < len
    · rw [List.getElem?_range hjl] at hj
      obtain rfl := Option.some.inj hj
      have := (hfz j hjl).2
      rw [Nat.mul_one, Nat.add_zero] at this
      exact this
    · rw [List.getElem?_eq_none (by simp; omega)] at hj
      cases hj
set_option maxRecDepth 100000 in
theorem open_txs {b0 : Nat} {v : Value} {d : DataW H} {p : List MemPlace} {held : Bool} (hv : Value.okWide Tryz.prog W .any b0 31 v) (h : DataW.Trod enc Tryz.prog W base (fun _ => true) held 31 v d p) :
    ∃ a len cap zs, v = .slice a len cap ∧ Txs W a len cap zs := by
  obtain ⟨a, len, cap, rfl⟩ := okWide_slice Tryz.underlying31 hv
  obtain ⟨fuel, hf⟩ := h
  exact open_txsv (show DataW.trod enc Tryz.prog W base (fun _ => true) held fuel 31 [.slice a len cap] = some (d, p) from by simpa [Value.cells] using hf)
set_option maxRecDepth 100000 in
theorem open_ring {b0 : Nat} {v : Value} {d : DataW H} {p : List MemPlace} {held : Bool} (hv : Value.okWide Tryz.prog W .any b0 53 v) (h : DataW.Trod enc Tryz.prog W base (fun _ => true) held 53 v d p) :
    ∃ m a len cap zs, v = .agg #[.int .i64 m, .slice a len cap] ∧ Txs W a len cap zs := by
  obtain ⟨v0, v1, y0, y1, n, rfl, _, _, h0, h1⟩ := open_agg2 Tryz.underlying53 (by kernel_rfl) cellsR hv h
  obtain ⟨n0, e0, _, _⟩ := DataW.trod_int Tryz.underlying3 h0
  obtain rfl := List.head_eq_of_cons_eq e0
  obtain ⟨a, len, cap, zs, rfl, hz⟩ := open_txsv h1
  exact ⟨n0, a, len, cap, zs, rfl, hz⟩
end

end Go.Proofs.YtnbpfbmhheimbaaGreatDoor
