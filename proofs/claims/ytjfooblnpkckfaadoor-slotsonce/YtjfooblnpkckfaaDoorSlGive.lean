/- Give, Live, Used. -/
import Derived.Test.YtjfooblnpkckfaaDoorSlTake
namespace Go.Proofs.YtjfooblnpkckfaaDoor
open Go.RowKit Go.Proofs.Slt Go.Shelf

/-- What judge tells. -/
def judV (t : Sn) (st : St) (h : IH) : Value := if liveR st h then .nilIface else .iface 113 (.pointer (some t.s))
theorem judge_any (t : Sn) (n0 b : Nat) (p : Pl) (st : St) (h : IH) (w : World) (hc : Ctx t n0 w) (h0 : w.cell? ⟨b, 0, none⟩ = some (.int .i64 h.1)) (h1 : w.cell? ⟨b, 1, none⟩ = some (.int .i64 h.2)) (hs : Sl n0 w p st) :
    Calls Tryd.prog 25 #[.pointer (some ⟨p.S, 0, none⟩), .slice (some ⟨b, 0, none⟩) 1 1] w fun e w' => e = .returned (judV t st h) ∧ Below w.heap.size w w' := by
  obtain ⟨fr, hs⟩ := hs
  exact callsIn_wide.1 (judge_in 3 (Nat.le_refl _) t n0 p.S p.g1 p.c1 b _ _ st h (Nat.le_trans hs.few (by omega)) w hc h0 h1 hs.obj hs.rs)

/-- The slot i given back, in memory, but for the heap. -/
def giveW (w1 : World) (p : Pl) (i u : Nat) : World := (w1.setCell ⟨p.g1, i * 3 + 2, none⟩ (.bool false)).setCell ⟨p.S, 2, none⟩ (.int .i64 ((u : Int) + -1))
theorem slF_give {n0 : Nat} {w1 : World} {p : Pl} {st : St} {fr : List Int} {i g u : Nat} (h : SlF n0 w1 p st fr) (hi : st[i]? = some (g, true)) (hu : (allR st).length = u) :
    Obj3 (w1.setCell ⟨p.g1, i * 3 + 2, none⟩ (.bool false)) p.S (.slice (some ⟨p.g1, 0, none⟩) st.length p.c1) (.slice (some ⟨p.g2, 0, none⟩) fr.length p.c2) (.int .i64 (u : Int)) ∧
    Obj3 (giveW w1 p i u) p.S (.slice (some ⟨p.g1, 0, none⟩) (st.set i (g, false)).length p.c1) (.slice (some ⟨p.g2, 0, none⟩) fr.length p.c2) (.int .i64 ((allR (st.set i (g, false))).length : Int)) ∧
    Rs n0 (giveW w1 p i u) p.g1 p.c1 (st.set i (g, false)) ∧ Row n0 (giveW w1 p i u) p.g2 p.c2 fr ∧ Fr p.S p.g1 p.g2 w1 (giveW w1 p i u) := by
  have hn1 := h.n1
  have hn2 := h.n2
  have hn12 := h.n12
  have hal := allR_give (g' := g) hi
  have o2 := h.obj.of_block (W' := w1.setCell ⟨p.g1, i * 3 + 2, none⟩ (.bool false)) (Below.heap_setCell _ _ _ _ (Ne.symm hn1))
  have r2 := h.rs.setTaken hi false
  have l2 := h.row.of_block (W' := w1.setCell ⟨p.g1, i * 3 + 2, none⟩ (.bool false)) (Below.heap_setCell _ _ _ _ (Ne.symm hn12))
  rw [hu] at o2
  refine ⟨o2, ?_, r2.of_block (Below.heap_setCell _ _ _ _ hn1), l2.of_block (Below.heap_setCell _ _ _ _ hn2), Fr.trans (Fr.set w1 ⟨p.g1, i * 3 + 2, none⟩ _ (.inr (.inl rfl))) (Fr.set _ ⟨p.S, 2, none⟩ _ (.inl rfl))⟩
  have := o2.set2 (.int .i64 ((u : Int) + -1))
  rw [List.length_set, show ((allR (st.set i (g, false))).length : Int) = (u : Int) + -1 by omega]
  exact this
theorem gen_set {st : St} {i g : Nat} {b : Bool} (h : ∀ (i g : Nat) (b : Bool), st[i]? = some (g, b) → g ≤ 1000) (hi : st[i]? = some (g, b)) : ∀ (j k : Nat) (c : Bool), (st.set i (g, false))[j]? = some (k, c) → k ≤ 1000 := fun j k c hj => by
  have hil := (List.getElem?_eq_some_iff.1 hi).1
  by_cases e : i = j
  · subst e
    rw [List.getElem?_set_self hil] at hj
    cases hj
    exact h i g b hi
  · rw [List.getElem?_set_ne e] at hj
    exact h j k c hj
/-- What give leaves. -/
def GivePost (n0 : Nat) (p : Pl) (st : St) (h : IH) (w w' : World) : Prop := Sl n0 w' p (giveS st h) ∧ p.Fr w w'
theorem giveS_eq {st : St} {h : IH} {i g : Nat} (hh : h = ((i : Int), (g : Int))) (hi : st[i]? = some (g, true)) : giveS st h = st.set i (g, false) := by
  unfold giveS
  rw [if_pos ((liveR_iff st h).2 ⟨i, g, hh, hi⟩), hh]
  simp

set_option maxRecDepth 100000 in
set_option maxHeartbeats 1000000 in
theorem give_stale (t : Sn) (n0 : Nat) (p : Pl) (st : St) (h : IH) (w : World) (hc : Ctx t n0 w) (hs : Sl n0 w p st) (hl : liveR st h = false) :
    Calls Tryd.prog 26 #[.pointer (some ⟨p.S, 0, none⟩), .agg #[.int .i64 h.1, .int .i64 h.2]] w fun e w' => e = .returned (.iface 113 (.pointer (some t.s))) ∧ Below w.heap.size w w' := by
  have hb := (Below.new w (.cells #[.int .i64 h.1, .int .i64 h.2] 32)).alloc (by simp) (.cells #[.int .i64 h.1, .int .i64 h.2] 32)
  have HH := Lib.hid (And.intro (hc.more hb) (And.intro (hs.more hb) (And.intro hl hb)))
  clear hc hs hl
  go_enter Tryd.func26, Tryd.ntmps26
  go_wp2_with (go_at_call 25; go_loud (refine (judge_any t n0 (w.heap.size + 1) p st h _ HH.out.1 (by simp) (by simp) HH.out.2.1).mono ?_))
  rintro e w1 ⟨he, hb1⟩
  rw [show judV t st h = .iface 113 (.pointer (some t.s)) by rw [judV, HH.out.2.2.1]; rfl] at he
  subst he
  go_wp2
  go_ret
  exact ⟨rfl, below_more HH.out.2.2.2 hb1⟩

set_option maxRecDepth 100000 in
set_option maxHeartbeats 2000000 in
theorem give_ok (t : Sn) (n0 : Nat) (p : Pl) (st : St) (fr : List Int) (i g : Nat) (w : World) (hc : Ctx t n0 w) (hs : SlF n0 w p st fr) (hi : st[i]? = some (g, true)) :
    Calls Tryd.prog 26 #[.pointer (some ⟨p.S, 0, none⟩), .agg #[.int .i64 i, .int .i64 g]] w fun e w' => e = .returned .nilIface ∧ GivePost n0 p st ((i : Int), (g : Int)) w w' := by
  have hb := (Below.new w (.cells #[.int .i64 i, .int .i64 g] 32)).alloc (by simp) (.cells #[.int .i64 i, .int .i64 g] 32)
  have hl : liveR st ((i : Int), (g : Int)) = true := (liveR_iff _ _).2 ⟨i, g, rfl, hi⟩
  have hs1 := hs.kept (hb.block _ hs.obj.lt) (hb.block _ hs.rs.lt) (hb.block _ hs.row.lt)
  have HH := Lib.hid (And.intro (hc.more hb) (And.intro hs1 (And.intro hl hb)))
  have HI := Lib.hid hi
  have HS := Lib.hid hc.size
  have HGS := Lib.hid (giveS_eq (h := ((i : Int), (g : Int))) rfl hi)
  have hil := (List.getElem?_eq_some_iff.1 hi).1
  have hl64 := hs.few
  have hc1 := hs.rs.at.2.1
  have hgg := hs.gen i g true hi
  have hal := allR_le st
  have hroom := hs.free.room hi
  have hcap := hs.room
  clear hc hs hl hs1 hb hi
  go_enter Tryd.func26, Tryd.ntmps26
  go_wp2_with (go_at_call 25; go_loud (refine (judge_any t n0 (w.heap.size + 1) p st ((i : Int), (g : Int)) _ HH.out.1 (by simp) (by simp) ⟨_, HH.out.2.1⟩).mono ?_))
  rintro e w1 ⟨he, hb1⟩
  rw [show judV t st ((i : Int), (g : Int)) = .nilIface by rw [judV, HH.out.2.2.1]; rfl] at he
  subst he
  have hs1 := HH.out.2.1.kept (hb1.block _ HH.out.2.1.obj.lt) (hb1.block _ HH.out.2.1.rs.lt) (hb1.block _ HH.out.2.1.row.lt)
  have c0 := hs1.obj.c0
  have x0 : w1.cell? ⟨w.heap.size, 0, none⟩ = some (.int .i64 i) := cell_later hb1 (by simp)
  have x1 : w1.cell? ⟨w.heap.size, 1, none⟩ = some (.int .i64 g) := cell_later hb1 (by simp)
  obtain ⟨len, hlen⟩ : ∃ len, st.length = len := ⟨_, rfl⟩
  rw [hlen] at hal c0 hil hc1 hl64 hroom hcap
  have HS1 := Lib.hid hs1
  have HB1 := Lib.hid hb1
  have HLen := Lib.hid hlen
  clear hb1 hs1 hlen
  go_wp2
  go_quiet (fail)
  clear c0 x0 x1
  have hbd := below_drews w1 nq
  obtain ⟨wd, hwd⟩ : ∃ wd, w1.drewN nq = wd := ⟨_, rfl⟩
  rw [hwd] at hbd ⊢
  have hs2 := HS1.out.kept (hbd.block _ HS1.out.obj.lt) (hbd.block _ HS1.out.rs.lt) (hbd.block _ HS1.out.row.lt)
  have HB := Lib.hid (below_more (below_more HH.out.2.2.2 HB1.out) hbd)
  obtain ⟨s0, s1, s2⟩ := hs2.rs.get HI.out
  have f2 := hs2.rs.frozen (i * 3 + 2)
  obtain ⟨u, hu⟩ : ∃ u, (allR st).length = u := ⟨_, rfl⟩
  obtain ⟨o3, o4, r4, l4, f4⟩ := slF_give hs2 HI.out hu
  have c2 := o3.c2
  have z2 := o3.fz 2
  have k0 := (r4.get (List.getElem?_set_self (by rw [HLen.out]; exact hil))).1
  have k1 := (r4.get (List.getElem?_set_self (by rw [HLen.out]; exact hil))).2.1
  have HS2 := Lib.hid hs2
  have H4 := Lib.hid (And.intro o4 (And.intro r4 (And.intro l4 f4)))
  rw [hu] at hal
  clear hs2 o3 o4 r4 l4 f4 hu hwd hbd
  obtain ⟨W4, hW4⟩ : ∃ W4, giveW wd p i u = W4 := ⟨_, rfl⟩
  rw [hW4] at k0 k1 H4
  have HW4 : Hid ((wd.setCell ⟨p.g1, i * 3 + 2, none⟩ (.bool false)).setCell ⟨p.S, 2, none⟩ (.int .i64 ((u : Int) + -1)) = W4) := hW4
  clear hW4
  go_wp2_with (go_at_call 32; refine (atom_any p.S u (-1) _ c2 z2 (by omega) (by omega) (by omega) (by omega)).mono ?_)
  rintro e w5 ⟨⟨v, rfl⟩, h5⟩
  rw [HW4.out] at h5
  subst h5
  clear s0 s1 s2 f2 c2 z2
  by_cases hg : g < 1000
  · have HG := Lib.hid hg
    have c1 := H4.out.1.c1
    go_wp2
    go_region_with (first | (go_at_call 22; go_loud (refine (add_any n0 p.S _ fr i _ _ W4.drew (by omega) (Nat.le_trans (Nat.le_trans HS.out HB.out.size) H4.out.2.2.2.size) HS2.out.base (H4.out.1.of_block rfl) (H4.out.2.2.1.of_block rfl) HS2.out.free.hp).mono ?_; rintro e w6 ⟨⟨v6, rfl⟩, hA⟩; have HA := Lib.hid hA; clear hA)))
    go_wp2
    go_ret
    obtain ⟨g', c', l', p1, p2, p3, p4, p5, p6⟩ := HA.out
    obtain ⟨rfl, rfl, p7⟩ := p6 p.g2 p.c2 rfl (by omega)
    have H6 := Lib.hid (And.intro p1 (And.intro p2 (And.intro p3 (And.intro p5 p7))))
    refine ⟨rfl, ⟨l', ?_⟩, ?_⟩
    · rw [HGS.out]
      obtain ⟨_, _, _, cur, hcur⟩ := H4.out.2.1.at
      exact ⟨H6.out.2.2.1.1, H4.out.2.1.of_block ((H6.out.2.2.2.1 p.g1 cur _ _ HS2.out.n1 (by decide) hcur).trans hcur.symm), H6.out.2.2.1.2, HS2.out.free.give HI.out HG.out H6.out.1 H6.out.2.1, by rw [List.length_set]; exact HS2.out.room, by rw [List.length_set]; exact HS2.out.few, gen_set HS2.out.gen HI.out, HS2.out.base⟩
    · have f6 := H6.out.2.2.2.2
      exact Fr.trans (Fr.trans (Fr.of_below HB.out) H4.out.2.2.2) (⟨f6.os, f6.tape, f6.output, f6.size, fun k hk a b c => f6.block k hk a c c⟩ : Fr p.S p.g1 p.g2 W4 w6)
  · have HG := Lib.hid hg
    go_wp2
    go_ret
    refine ⟨rfl, ⟨fr, ?_⟩, ?_⟩
    · rw [HGS.out]
      exact ⟨H4.out.1, H4.out.2.1, H4.out.2.2.1, HS2.out.free.worn HI.out HG.out, by rw [List.length_set]; exact HS2.out.room, by rw [List.length_set]; exact HS2.out.few, gen_set HS2.out.gen HI.out, HS2.out.base⟩
    · exact Fr.trans (Fr.of_below HB.out) H4.out.2.2.2

end Go.Proofs.YtjfooblnpkckfaaDoor
