/- open: a ring that is right, and what its items take; Right, Used, New. -/
import Derived.Test.YtbdhagilmdmpdaaDoorRgRoom
import Derived.Deep.RegionHeld3
namespace Go.Proofs.YtbdhagilmdmpdaaDoor
open Go.RowKit Go.Proofs.Fld Go.Proofs.Rng Go.Shelf Go.Sort

/-- A struct of two cells. -/
structure R2 (W : World) (b : Nat) (u x : Value) : Prop where
  c0 : W.cell? ⟨b, 0, none⟩ = some u
  c1 : W.cell? ⟨b, 1, none⟩ = some x
  f0 : W.frozen? ⟨b, 0, none⟩ = false
  f1 : W.frozen? ⟨b, 1, none⟩ = false
theorem R2.lt {W : World} {b : Nat} {u x : Value} (h : R2 W b u x) : b < W.heap.size := World.block_lt_of_cell? W _ h.c0
theorem R2.more {W W' : World} {b : Nat} {u x : Value} (h : R2 W b u x) (hb : Below W.heap.size W W') : R2 W' b u x :=
  ⟨cell_later hb h.c0, cell_later hb h.c1, (hb.frozen (p := ⟨b, 0, none⟩) h.lt).trans h.f0, (hb.frozen (p := ⟨b, 1, none⟩) h.lt).trans h.f1⟩
theorem R2.new (W : World) (u x : Value) (T : TypeId) : R2 (W.alloc (.cells #[u, x] T)) W.heap.size u x := ⟨by simp, by simp, by simp, by simp⟩
theorem R2.set {W : World} {b : Nat} {u x : Value} (h : R2 W b u x) (u' x' : Value) : R2 ((W.setCell ⟨b, 0, none⟩ u').setCell ⟨b, 1, none⟩ x') b u' x' :=
  ⟨setO (setS _ h.c0) (ne_off (by omega)), setS _ (setO h.c1 (ne_off (by omega))), setF (setF h.f0), setF (setF h.f1)⟩
theorem set2O {W : World} {b B o : Nat} {v u x : Value} (h : W.cell? ⟨B, o, none⟩ = some v) (hne : b ≠ B) : ((W.setCell ⟨b, 0, none⟩ u).setCell ⟨b, 1, none⟩ x).cell? ⟨B, o, none⟩ = some v := setO (setO h (ne_blk hne)) (ne_blk hne)
theorem set2B {n : Nat} {w W : World} (h : Below n w W) {b : Nat} (hb : n ≤ b) (u x : Value) : Below n w ((W.setCell ⟨b, 0, none⟩ u).setCell ⟨b, 1, none⟩ x) := (h.setCell (p := ⟨b, 0, none⟩) hb _).setCell (p := ⟨b, 1, none⟩) hb _
/-- A struct of three cells. -/
structure R3 (W : World) (b : Nat) (u x y : Value) : Prop where
  c0 : W.cell? ⟨b, 0, none⟩ = some u
  c1 : W.cell? ⟨b, 1, none⟩ = some x
  c2 : W.cell? ⟨b, 2, none⟩ = some y
  f0 : W.frozen? ⟨b, 0, none⟩ = false
  f1 : W.frozen? ⟨b, 1, none⟩ = false
  f2 : W.frozen? ⟨b, 2, none⟩ = false
theorem R3.lt {W : World} {b : Nat} {u x y : Value} (h : R3 W b u x y) : b < W.heap.size := World.block_lt_of_cell? W _ h.c0
theorem R3.more {W W' : World} {b : Nat} {u x y : Value} (h : R3 W b u x y) (hb : Below W.heap.size W W') : R3 W' b u x y :=
  ⟨cell_later hb h.c0, cell_later hb h.c1, cell_later hb h.c2, (hb.frozen (p := ⟨b, 0, none⟩) h.lt).trans h.f0, (hb.frozen (p := ⟨b, 1, none⟩) h.lt).trans h.f1, (hb.frozen (p := ⟨b, 2, none⟩) h.lt).trans h.f2⟩
theorem R3.new (W : World) (u x y : Value) (T : TypeId) : R3 (W.alloc (.cells #[u, x, y] T)) W.heap.size u x y := ⟨by simp, by simp, by simp, by simp, by simp, by simp⟩
theorem R3.set {W : World} {b : Nat} {u x y : Value} (h : R3 W b u x y) (u' x' y' : Value) : R3 (((W.setCell ⟨b, 0, none⟩ u').setCell ⟨b, 1, none⟩ x').setCell ⟨b, 2, none⟩ y') b u' x' y' :=
  ⟨setO (setO (setS _ h.c0) (ne_off (by omega))) (ne_off (by omega)), setO (setS _ (setO h.c1 (ne_off (by omega)))) (ne_off (by omega)), setS _ (setO (setO h.c2 (ne_off (by omega))) (ne_off (by omega))), setF (setF (setF h.f0)), setF (setF (setF h.f1)), setF (setF (setF h.f2))⟩
theorem set3O {W : World} {b B o : Nat} {v u x y : Value} (h : W.cell? ⟨B, o, none⟩ = some v) (hne : b ≠ B) : (((W.setCell ⟨b, 0, none⟩ u).setCell ⟨b, 1, none⟩ x).setCell ⟨b, 2, none⟩ y).cell? ⟨B, o, none⟩ = some v :=
  setO (setO (setO h (ne_blk hne)) (ne_blk hne)) (ne_blk hne)
theorem set3B {n : Nat} {w W : World} (h : Below n w W) {b : Nat} (hb : n ≤ b) (u x y : Value) : Below n w (((W.setCell ⟨b, 0, none⟩ u).setCell ⟨b, 1, none⟩ x).setCell ⟨b, 2, none⟩ y) :=
  ((h.setCell (p := ⟨b, 0, none⟩) hb _).setCell (p := ⟨b, 1, none⟩) hb _).setCell (p := ⟨b, 2, none⟩) hb _

/-- What open tells. -/
def OpenP (s : Sn) (m : Int) (ao : Option Addr) (len cap : Nat) (zs : List It) (w : World) (e : Ending) (w' : World) : Prop :=
  ((rightR m zs = true ∧ ∃ t : Nat, t = takes zs ∧ e = .returned (.tuple #[.agg #[.int .i64 m, .slice ao len cap, .int .i64 (t : Int)], .nilIface])) ∨ (rightR m zs = false ∧ e = .returned (.tuple #[.agg #[.int .i64 0, .slice none 0 0, .int .i64 0], .iface 82 (.pointer (some s.w))]))) ∧ Below w.heap.size w w'

theorem room0 (s : Sn) (m : Int) (ao : Option Addr) (len cap : Nat) (zs : List It) (hreach : len ≤ 1000000) (hsum : takes zs ≤ 1000000) (w : World) (hL : Txs w ao len cap zs) (hs : Sent s w) :
    Calls Tryd.prog 34 #[.agg #[.int .i64 m, .slice none 0 0, .int .i64 0], .slice ao len cap] w (RoomP s m 0 zs w) :=
  callsIn_wide.1 (room_in 3 (Nat.le_refl _) s m 0 (.slice none 0 0) rfl ao len cap zs hreach (by omega) w hL hs)
theorem neq_err (a : Addr) (w : World) : (binOp .neq 47 (.iface 82 (.pointer (some a))) .nilIface).run Tryd.prog w = .ok (.bool true) w := by
  simp [go_sem]
theorem eql_err (a : Addr) (w : World) : (binOp .eql 47 (.iface 82 (.pointer (some a))) .nilIface).run Tryd.prog w = .ok (.bool false) w := by
  simp [go_sem]

set_option maxRecDepth 100000 in
set_option maxHeartbeats 4000000 in
theorem open_any (s : Sn) (m : Int) (ao : Option Addr) (len cap : Nat) (zs : List It) (hreach : len ≤ 1000000) (hsum : takes zs ≤ 1000000) (w : World) (hL : Txs w ao len cap zs) (hs : Sent s w) :
    Calls Tryd.prog 27 #[.agg #[.int .i64 m, .slice ao len cap]] w (OpenP s m ao len cap zs w) := by
  have hB1 := Below.new w (.cells #[.int .i64 m, .slice ao len cap] 24)
  have hB2 := below_more hB1 (Below.new _ (.cells #[.int .i64 0, .slice none 0 0, .int .i64 0] 45))
  have r1 := (R2.new w (.int .i64 m) (.slice ao len cap) 24).more (Below.new _ (.cells #[.int .i64 0, .slice none 0 0, .int .i64 0] 45))
  have r2 := R3.new (w.alloc (.cells #[.int .i64 m, .slice ao len cap] 24)) (.int .i64 0) (.slice none 0 0) (.int .i64 0) 45
  rw [World.size_alloc] at r2
  obtain ⟨W0, hW0⟩ : ∃ W0, (w.alloc (.cells #[.int .i64 m, .slice ao len cap] 24)).alloc (.cells #[.int .i64 0, .slice none 0 0, .int .i64 0] 45) = W0 := ⟨_, rfl⟩
  rw [hW0] at hB2 r1 r2
  have HL := Lib.hid (hL.more hB2)
  have HS := Lib.hid (hs.more hB2)
  have HB := Lib.hid hB2
  have hgl := World.block_lt_of_cell? _ _ hs.cw
  simp only at hgl
  clear hB1 hB2 hL hs
  by_cases hm : m < 0 ∨ 2000 < m
  · have hR : rightR m zs = false := by
      cases e : rightR m zs
      · rfl
      · have := rightR_iff.1 e; omega
    obtain ⟨c0, c1, _, _⟩ := r1
    have k0 := HS.out.cw
    have r3 := r2.set (.int .i64 0) (.slice none 0 0) (.int .i64 0)
    obtain ⟨y0, y1, y2, _, _, _⟩ := r3
    obtain ⟨d0, d1, d2, f0, f1, f2⟩ := r2
    have z2 : ∀ u x y, (((W0.setCell ⟨w.heap.size + 1, 0, none⟩ u).setCell ⟨w.heap.size + 1, 1, none⟩ x).setCell ⟨w.heap.size + 1, 2, none⟩ y).cell? ⟨0, 0, none⟩ = some (.iface 82 (.pointer (some s.w))) := fun u x y => set3O k0 (by omega)
    have YB := Lib.hid (set3B HB.out (b := w.heap.size + 1) (by omega) (.int .i64 0) (.slice none 0 0) (.int .i64 0))
    have HR := Lib.hid hR
    clear hR hgl
    rcases hm with h1 | h1
    · go_enter Tryd.func27, Tryd.ntmps27
      go_wp2
      go_region_held3 (fun w' => w'.cell? ⟨0, 0, none⟩ = some (.iface 82 (.pointer (some s.w))))
        (first | (simp only [World.cell?_drew, k0, z2]; done)) (fail)
      all_goals go_wp2
      all_goals
        generalize hW : (((W0.setCell ⟨w.heap.size + 1, 0, none⟩ (.int .i64 0)).setCell ⟨w.heap.size + 1, 1, none⟩ (.slice none 0 0)).setCell ⟨w.heap.size + 1, 2, none⟩ (.int .i64 0)) = WF at y0 y1 y2 YB ⊢
        refine bodyPost_ret (v := .tuple #[.agg #[.int .i64 0, .slice none 0 0, .int .i64 0], .iface 82 (.pointer (some s.w))]) (by simp [results, Tryd.results27, go_sem, y0, y1, y2]) rfl ?_
        exact ⟨.inr ⟨HR.out, rfl⟩, YB.out.drew⟩
    · have h0 : ¬ m < 0 := by omega
      go_enter Tryd.func27, Tryd.ntmps27
      go_wp2
      go_region_held3 (fun w' => w'.cell? ⟨0, 0, none⟩ = some (.iface 82 (.pointer (some s.w))))
        (first | (simp only [World.cell?_drew, k0, z2]; done)) (fail)
      all_goals go_wp2
      all_goals
        generalize hW : (((W0.setCell ⟨w.heap.size + 1, 0, none⟩ (.int .i64 0)).setCell ⟨w.heap.size + 1, 1, none⟩ (.slice none 0 0)).setCell ⟨w.heap.size + 1, 2, none⟩ (.int .i64 0)) = WF at y0 y1 y2 YB ⊢
        refine bodyPost_ret (v := .tuple #[.agg #[.int .i64 0, .slice none 0 0, .int .i64 0], .iface 82 (.pointer (some s.w))]) (by simp [results, Tryd.results27, go_sem, y0, y1, y2]) rfl ?_
        exact ⟨.inr ⟨HR.out, rfl⟩, YB.out.drew⟩
  · have h0 : ¬ m < 0 := by omega
    have h1 : ¬ m > 2000 := by omega
    have hR := right_room (m := m) (l := zs) (by omega) (by omega)
    obtain ⟨c0, c1, _, _⟩ := id r1
    have HR1 := Lib.hid (And.intro r1 r2)
    have HR := Lib.hid hR
    clear r1 r2 hR
    go_enter Tryd.func27, Tryd.ntmps27
    go_wp2_with (go_at_call 34; refine (room0 s m ao len cap zs hreach hsum W0 HL.out HS.out).mono ?_)
    rintro e w1 ⟨v, t, hv, ht, rfl, hb1⟩
    have HB1 := Lib.hid (below_more HB.out hb1)
    have HQ := Lib.hid (And.intro (HR1.out.1.more hb1) (HR1.out.2.more hb1))
    have k0 := (HS.out.more hb1).cw
    clear hb1 c0 c1
    obtain ⟨en, hen⟩ : ∃ en, roomE m 0 zs = en := ⟨_, rfl⟩
    rw [hen] at hv HR
    by_cases hz : en = 0
    · subst hz
      have hfull := room_full hen
      cases hv
      have ht' : t = takes zs := by rw [ht, hfull, List.take_of_length_le (Nat.le_refl _), Nat.zero_add]
      have HT := Lib.hid ht'
      obtain ⟨c0, c1, _, _⟩ := HQ.out.1
      obtain ⟨y0, y1, y2, _, _, _⟩ := HQ.out.2.set (.int .i64 m) (.slice ao len cap) (.int .i64 (t : Int))
      obtain ⟨d0, d1, d2, f0, f1, f2⟩ := HQ.out.2
      have YB := Lib.hid (set3B HB1.out (b := w.heap.size + 1) (by omega) (.int .i64 m) (.slice ao len cap) (.int .i64 (t : Int)))
      clear ht ht' hfull hen
      go_wp2
      generalize hW : (((w1.setCell ⟨w.heap.size + 1, 0, none⟩ (.int .i64 m)).setCell ⟨w.heap.size + 1, 1, none⟩ (.slice ao len cap)).setCell ⟨w.heap.size + 1, 2, none⟩ (.int .i64 (t : Int))) = WF at y0 y1 y2 YB ⊢
      refine bodyPost_ret (v := .tuple #[.agg #[.int .i64 m, .slice ao len cap, .int .i64 (t : Int)], .nilIface]) (by simp [results, Tryd.results27, go_sem, y0, y1, y2]) rfl ?_
      exact ⟨.inl ⟨by rw [HR.out]; rfl, t, HT.out, rfl⟩, YB.out⟩
    · have hR2 : rightR m zs = false := by rw [HR.out]; exact decide_eq_false hz
      have hve : ∃ a, v = .iface 82 (.pointer (some a)) := by
        cases hv
        · exact absurd rfl hz
        · exact ⟨_, rfl⟩
        · exact ⟨_, rfl⟩
        · exact ⟨_, rfl⟩
      obtain ⟨a, rfl⟩ := hve
      have HR2 := Lib.hid hR2
      have q1 := neq_err a
      obtain ⟨y0, y1, y2, _, _, _⟩ := HQ.out.2.set (.int .i64 0) (.slice none 0 0) (.int .i64 0)
      obtain ⟨d0, d1, d2, f0, f1, f2⟩ := HQ.out.2
      have z2 : ∀ u x y, (((w1.setCell ⟨w.heap.size + 1, 0, none⟩ u).setCell ⟨w.heap.size + 1, 1, none⟩ x).setCell ⟨w.heap.size + 1, 2, none⟩ y).cell? ⟨0, 0, none⟩ = some (.iface 82 (.pointer (some s.w))) := fun u x y => set3O k0 (by omega)
      have YB := Lib.hid (set3B HB1.out (b := w.heap.size + 1) (by omega) (.int .i64 0) (.slice none 0 0) (.int .i64 0))
      clear hv ht hen hR2 hgl
      go_wp2
      go_region_held3 (fun w' => w'.cell? ⟨0, 0, none⟩ = some (.iface 82 (.pointer (some s.w))))
        (first | (simp only [World.cell?_drew, k0, z2]; done)) (fail)
      all_goals go_wp2
      all_goals
        generalize hW : (((w1.setCell ⟨w.heap.size + 1, 0, none⟩ (.int .i64 0)).setCell ⟨w.heap.size + 1, 1, none⟩ (.slice none 0 0)).setCell ⟨w.heap.size + 1, 2, none⟩ (.int .i64 0)) = WF at y0 y1 y2 YB ⊢
        refine bodyPost_ret (v := .tuple #[.agg #[.int .i64 0, .slice none 0 0, .int .i64 0], .iface 82 (.pointer (some s.w))]) (by simp [results, Tryd.results27, go_sem, y0, y1, y2]) rfl ?_
        exact ⟨.inr ⟨HR2.out, rfl⟩, YB.out.drew⟩

end Go.Proofs.YtbdhagilmdmpdaaDoor
