/- Take. -/
import Derived.Test.YtjfooblnpkckfaaDoorSlSt
namespace Go.Proofs.YtjfooblnpkckfaaDoor
open Go.RowKit Go.Proofs.Slt Go.Shelf

/-- What take leaves. -/
def TakePost (n0 : Nat) (p : Pl) (st : St) (w w' : World) : Prop := Sl n0 w' p (takeS st) ∧ p.Fr w w'

theorem new_cells2 (w : World) (v0 v1 : Value) (t : TypeId) : (w.alloc (.cells #[v0, v1] t)).cell? ⟨w.heap.size, 0, none⟩ = some v0 ∧ (w.alloc (.cells #[v0, v1] t)).cell? ⟨w.heap.size, 1, none⟩ = some v1 ∧
    (w.alloc (.cells #[v0, v1] t)).frozen? ⟨w.heap.size, 0, none⟩ = false ∧ (w.alloc (.cells #[v0, v1] t)).frozen? ⟨w.heap.size, 1, none⟩ = false := by
  refine ⟨?_, ?_, ?_, ?_⟩
  · rw [World.cell?_alloc_at _ _ _ _ rfl]; rfl
  · rw [World.cell?_alloc_at _ _ _ _ rfl]; rfl
  · simp
  · simp

/-- A handle stored. -/
def set2 (w : World) (b : Nat) (u0 u1 : Value) : World := (w.setCell ⟨b, 0, none⟩ u0).setCell ⟨b, 1, none⟩ u1
theorem set2_cells {w : World} {b : Nat} {x y : Value} (u0 u1 : Value) (h0 : w.cell? ⟨b, 0, none⟩ = some x) (h1 : w.cell? ⟨b, 1, none⟩ = some y) : (set2 w b u0 u1).cell? ⟨b, 0, none⟩ = some u0 ∧ (set2 w b u0 u1).cell? ⟨b, 1, none⟩ = some u1 := by
  unfold set2
  constructor
  · rw [World.cell?_setCell_other _ _ _ _ (by simp), World.cell?_setCell_same' _ _ _ (by rw [h0]; rfl)]
  · rw [World.cell?_setCell_same' _ _ _ (by rw [World.cell?_setCell_other _ _ _ _ (by simp), h1]; rfl)]
theorem set2_fr (a c : Nat) (w : World) (b : Nat) (u0 u1 : Value) : Fr a b c w (set2 w b u0 u1) := (Fr.set w ⟨b, 0, none⟩ u0 (.inr (.inl rfl))).trans (Fr.set _ ⟨b, 1, none⟩ u1 (.inr (.inl rfl)))
theorem set2_below {n : Nat} {w w1 : World} {b : Nat} (h : Below n w w1) (hb : n ≤ b) (u0 u1 : Value) : Below n w (set2 w1 b u0 u1) := (h.setCell (p := ⟨b, 0, none⟩) hb u0).setCell (p := ⟨b, 1, none⟩) hb u1

set_option maxRecDepth 100000 in
set_option maxHeartbeats 1000000 in
theorem take_none (t : Sn) (n0 : Nat) (p : Pl) (st : St) (w : World) (hc : Ctx t n0 w) (h : SlF n0 w p st []) :
    Calls Tryd.prog 23 #[.pointer (some ⟨p.S, 0, none⟩)] w fun e w' => e = .returned (.tuple #[ihv (0, 0), .iface 113 (.pointer (some t.n))]) ∧ Below w.heap.size w w' := by
  have hb := Below.new w (.cells #[.int .i64 0, .int .i64 0] 32)
  have h2 := h.kept (hb.block _ h.obj.lt) (hb.block _ h.rs.lt) (hb.block _ h.row.lt)
  have HH := Lib.hid (And.intro h2.hv (hc.more hb))
  clear h h2 hc
  go_enter Tryd.func23, Tryd.ntmps23
  go_wp2_with (go_at_call 31; refine (least_none n0 p.S p.g2 p.c2 _ _ t _ HH.out.1 HH.out.2).mono ?_)
  rintro e w1 ⟨rfl, hb1⟩
  obtain ⟨r0, r1, r2, r3⟩ := new_cells2 w (.int .i64 0) (.int .i64 0) 32
  have q0 := cell_later hb1 r0
  have q1 := cell_later hb1 r1
  have f0 := (hb1.frozen (p := ⟨w.heap.size, 0, none⟩) (by simp)).trans r2
  have f1 := (hb1.frozen (p := ⟨w.heap.size, 1, none⟩) (by simp)).trans r3
  have hB := Lib.hid (set2_below (below_more hb hb1) (Nat.le_refl _) (.int .i64 0) (.int .i64 0))
  have hC := Lib.hid (set2_cells (.int .i64 0) (.int .i64 0) q0 q1)
  clear r0 r1 r2 r3 hb hb1
  go_wp2
  obtain ⟨W, hW⟩ : ∃ W, set2 w1 w.heap.size (.int .i64 0) (.int .i64 0) = W := ⟨_, rfl⟩
  rw [show (w1.setCell ⟨w.heap.size, 0, none⟩ (.int .i64 0)).setCell ⟨w.heap.size, 1, none⟩ (.int .i64 0) = W from hW]
  rw [hW] at hB hC
  obtain ⟨k0, k1⟩ := hC.out
  exact bodyPost_ret (v := .tuple #[ihv (0, 0), .iface 113 (.pointer (some t.n))]) (by simp [results, Tryd.results23, go_sem, ihv, k0, k1]) rfl ⟨rfl, hB.out⟩

theorem Rs.lengthS {n0 : Nat} {W : World} {g1 c1 : Nat} {st : St} {x : Nat × Bool} {i : Nat} (h : Rs n0 W g1 c1 (st.set i x)) : W.ownsRow n0 59 3 (.slice (some ⟨g1, 0, none⟩) st.length c1) st.length (sc 0 (st.set i x)) := by
  have := h
  unfold Rs at this
  rw [List.length_set] at this
  exact this

/-- The slot i taken, in memory: its generation, its mark, the number of those in use. -/
theorem slF_take {n0 : Nat} {w w1 : World} {p : Pl} {st : St} {fr r : List Int} {i g : Nat} (h : SlF n0 w p st fr) (hx : at_ fr 0 = (i : Int)) (hi : st[i]? = some (g, false)) (hg : g < 1000) (hfi : st.findIdx? freeB = some i) (hp : (r ++ [at_ fr 0]).Perm fr) (hr : Hp r r.length)
    (hv : Hv n0 w1 p.S p.g2 p.c2 (.slice (some ⟨p.g1, 0, none⟩) st.length p.c1) (.int .i64 ((allR st).length : Int)) r) (hf : Fr p.S p.g2 p.g2 w w1) :
    Obj3 ((w1.setCell ⟨p.g1, i * 3 + 1, none⟩ (.int .i64 ((g + 1 : Nat) : Int))).setCell ⟨p.g1, i * 3 + 2, none⟩ (.bool true)) p.S (.slice (some ⟨p.g1, 0, none⟩) st.length p.c1) (.slice (some ⟨p.g2, 0, none⟩) r.length p.c2) (.int .i64 ((allR st).length : Int)) ∧
    TakePost n0 p st w (((w1.setCell ⟨p.g1, i * 3 + 1, none⟩ (.int .i64 ((g + 1 : Nat) : Int))).setCell ⟨p.g1, i * 3 + 2, none⟩ (.bool true)).setCell ⟨p.S, 2, none⟩ (.int .i64 ((allR st).length + 1))) ∧
    (((w1.setCell ⟨p.g1, i * 3 + 1, none⟩ (.int .i64 ((g + 1 : Nat) : Int))).setCell ⟨p.g1, i * 3 + 2, none⟩ (.bool true)).setCell ⟨p.S, 2, none⟩ (.int .i64 ((allR st).length + 1))).cell? ⟨p.g1, i * 3, none⟩ = some (.int .i64 i) ∧
    (((w1.setCell ⟨p.g1, i * 3 + 1, none⟩ (.int .i64 ((g + 1 : Nat) : Int))).setCell ⟨p.g1, i * 3 + 2, none⟩ (.bool true)).setCell ⟨p.S, 2, none⟩ (.int .i64 ((allR st).length + 1))).cell? ⟨p.g1, i * 3 + 1, none⟩ = some (.int .i64 ((g + 1 : Nat) : Int)) := by
  have hn1 := h.n1
  have hn2 := h.n2
  have hn12 := h.n12
  have hil := (List.getElem?_eq_some_iff.1 hi).1
  have r1 : Rs n0 w1 p.g1 p.c1 st := h.rs.of_block (hf.block _ h.rs.lt hn1 hn12 hn12)
  have r2 := r1.setGen hi (g + 1)
  have hi2 : (st.set i (g + 1, false))[i]? = some (g + 1, false) := List.getElem?_set_self hil
  have r3 := r2.setTaken hi2 true
  rw [List.set_set] at r3
  have o3 : Obj3 ((w1.setCell ⟨p.g1, i * 3 + 1, none⟩ (.int .i64 ((g + 1 : Nat) : Int))).setCell ⟨p.g1, i * 3 + 2, none⟩ (.bool true)) p.S (.slice (some ⟨p.g1, 0, none⟩) st.length p.c1) (.slice (some ⟨p.g2, 0, none⟩) r.length p.c2) (.int .i64 ((allR st).length : Int)) :=
    (hv.1.of_block (Below.heap_setCell _ _ _ _ (Ne.symm hn1))).of_block (Below.heap_setCell _ _ _ _ (Ne.symm hn1))
  have o4 := o3.set2 (.int .i64 ((allR st).length + 1))
  have r4 := r3.of_block (Below.heap_setCell _ ⟨p.S, 2, none⟩ (.int .i64 ((allR st).length + 1)) _ hn1)
  have l4 : Row n0 (((w1.setCell ⟨p.g1, i * 3 + 1, none⟩ (.int .i64 ((g + 1 : Nat) : Int))).setCell ⟨p.g1, i * 3 + 2, none⟩ (.bool true)).setCell ⟨p.S, 2, none⟩ (.int .i64 ((allR st).length + 1))) p.g2 p.c2 r :=
    ((hv.2.of_block (Below.heap_setCell _ _ _ _ (Ne.symm hn12))).of_block (Below.heap_setCell _ _ _ _ (Ne.symm hn12))).of_block (Below.heap_setCell _ _ _ _ hn2)
  have hts : takeS st = st.set i (g + 1, true) := by simp [takeS, hfi, genOf_eq hi]
  have hi4 : (st.set i (g + 1, true))[i]? = some (g + 1, true) := List.getElem?_set_self hil
  have hal := allR_take (g' := g + 1) hi
  refine ⟨o3, ⟨⟨r, ?_⟩, ?_⟩, (r4.get hi4).1, (r4.get hi4).2.1⟩
  · rw [hts]
    refine ⟨?_, r4, l4, h.free.take hx hi hp hr, by rw [List.length_set]; exact h.room, by rw [List.length_set]; exact h.few, fun j gj b hj => ?_, h.base⟩
    · rw [List.length_set, hal]
      exact o4
    · by_cases e : i = j
      · subst e
        rw [hi4] at hj
        cases hj
        omega
      · rw [List.getElem?_set_ne e] at hj
        exact h.gen j gj b hj
  · show Fr p.S p.g1 p.g2 _ _
    refine (((⟨hf.os, hf.tape, hf.output, hf.size, fun k hk a b c => hf.block k hk a c c⟩ : Fr p.S p.g1 p.g2 w w1).trans (Fr.set _ _ _ (.inr (.inl rfl)))).trans (Fr.set _ _ _ (.inr (.inl rfl)))).trans (Fr.set _ _ _ (.inl rfl))

theorem takePost_more {n0 : Nat} {p : Pl} {st : St} {w W W' : World} (h : TakePost n0 p st w W) (hb : Below W.heap.size W W') : TakePost n0 p st w W' := ⟨h.1.more hb, Fr.trans h.2 (Fr.of_below hb)⟩
theorem takePost_end {n0 : Nat} {p : Pl} {st : St} {w W4 : World} {o : Obj} (h : TakePost n0 p st (w.alloc o) W4) (hl : p.S < w.heap.size ∧ p.g1 < w.heap.size ∧ p.g2 < w.heap.size) (u0 u1 : Value) : TakePost n0 p st w (set2 W4 w.heap.size u0 u1) := by
  refine ⟨h.1.fr (set2_fr w.heap.size w.heap.size W4 w.heap.size u0 u1) ?_ ?_ ?_, ?_⟩
  · have := hl.1; refine ⟨?_, ?_, ?_⟩ <;> omega
  · have := hl.2.1; refine ⟨?_, ?_, ?_⟩ <;> omega
  · have := hl.2.2; refine ⟨?_, ?_, ?_⟩ <;> omega
  · have h1 : Fr p.S p.g1 p.g2 w W4 := Fr.trans (Fr.of_below (Below.new w o)) h.2
    have h2 := set2_fr w.heap.size w.heap.size W4 w.heap.size u0 u1
    exact ⟨h2.os.trans h1.os, h2.tape.trans h1.tape, h2.output.trans h1.output, Nat.le_trans h1.size h2.size, fun k hk a b c => (h2.block k (Nat.lt_of_lt_of_le hk h1.size) (by omega) (by omega) (by omega)).trans (h1.block k hk a b c)⟩

set_option maxRecDepth 100000 in
set_option maxHeartbeats 2000000 in
theorem take_some (n0 : Nat) (p : Pl) (st : St) (fr : List Int) (w : World) (h : SlF n0 w p st fr) (hfr : 0 < fr.length) :
    Calls Tryd.prog 23 #[.pointer (some ⟨p.S, 0, none⟩)] w fun e w' => e = .returned (.tuple #[ihv (toI (takeH st)), .nilIface]) ∧ takeE st = 0 ∧ TakePost n0 p st w w' := by
  have hb := Below.new w (.cells #[.int .i64 0, .int .i64 0] 32)
  have h2 := h.kept (hb.block _ h.obj.lt) (hb.block _ h.rs.lt) (hb.block _ h.row.lt)
  obtain ⟨i, g, hx, hi, hg, hfi⟩ := h.free.least hfr
  obtain ⟨n, hn⟩ : ∃ n, fr.length = n + 1 := ⟨fr.length - 1, by omega⟩
  have hfew : n ≤ 900 := by have := h.free.few; have := h.few; omega
  have hil := (List.getElem?_eq_some_iff.1 hi).1
  have hl64 := h.few
  have hal := allR_le st
  have hc1 := h.rs.at.2.1
  obtain ⟨s0, s1, s2⟩ := h2.rs.get hi
  have hlt : p.S < w.heap.size ∧ p.g1 < w.heap.size ∧ p.g2 < w.heap.size := ⟨h.obj.lt, h.rs.lt, h.row.lt⟩
  obtain ⟨r0, r1, r2, r3⟩ := new_cells2 w (.int .i64 0) (.int .i64 0) 32
  have hts : takeH st = (i, g + 1) := by simp [takeH, hfi, genOf_eq hi]
  have hte : takeE st = 0 := by simp [takeE, hfi]
  have HT := Lib.hid (And.intro hts hte)
  have HH := Lib.hid (And.intro h2 (And.intro hx (And.intro hi (And.intro hg (And.intro hfi hn)))))
  have HB := Lib.hid hb
  have HR := Lib.hid (And.intro r0 (And.intro r1 (And.intro r2 r3)))
  have HL := Lib.hid hlt
  clear h h2 hb hx hfi hn hfr hts hte s0 s1 s2 r0 r1 r2 r3 hlt
  go_enter Tryd.func23, Tryd.ntmps23
  go_wp2_with (go_at_call 31; refine (least_some n0 p.S p.g2 p.c2 n _ _ fr _ HH.out.2.2.2.2.2 hfew HH.out.1.hv HH.out.1.free.hp).mono ?_)
  rintro e w1 ⟨he, r, hp, hhr, hv, hf⟩
  rw [HH.out.2.1] at he
  subst he
  obtain ⟨o3, tp, k0, k1⟩ := slF_take HH.out.1 HH.out.2.1 HH.out.2.2.1 HH.out.2.2.2.1 HH.out.2.2.2.2.1 hp hhr hv hf
  have hn1 := HH.out.1.n1
  have hn12 := HH.out.1.n12
  have rs1 : Rs n0 w1 p.g1 p.c1 st := HH.out.1.rs.of_block (hf.block _ HH.out.1.rs.lt hn1 hn12 hn12)
  obtain ⟨s0, s1, s2⟩ := rs1.get HH.out.2.2.1
  have fz1 := rs1.frozen (i * 3 + 1)
  have fz2 : (w1.setCell ⟨p.g1, i * 3 + 1, none⟩ (.int .i64 ((g + 1 : Nat) : Int))).frozen? ⟨p.g1, i * 3 + 2, none⟩ = false := (rs1.setGen HH.out.2.2.1 (g + 1)).frozen _
  have s3 : (w1.setCell ⟨p.g1, i * 3 + 1, none⟩ (.int .i64 ((g + 1 : Nat) : Int))).cell? ⟨p.g1, i * 3 + 2, none⟩ = some (.bool false) := by
    rw [World.cell?_setCell_other _ _ _ _ (by simp)]; exact s2
  have c0 := hv.1.c0
  obtain ⟨g', hg'⟩ : ∃ g', g + 1 = g' := ⟨_, rfl⟩
  have e1 : (g : Int) + 1 = (g' : Int) := by omega
  have hgl : g < 1000 := HH.out.2.2.2.1
  rw [hg'] at o3 tp k0 k1 s3 fz2
  have HG := Lib.hid hg'
  have HO := Lib.hid o3
  have c2 := o3.c2
  have z2 := o3.fz 2
  have HF := Lib.hid hf
  obtain ⟨u, hu⟩ : ∃ u, (allR st).length = u := ⟨_, rfl⟩
  rw [hu] at tp k0 k1 c2 hal
  obtain ⟨len, hlen⟩ : ∃ len, st.length = len := ⟨_, rfl⟩
  rw [hlen] at c0 hil hc1 hal hl64
  clear hp hhr hv o3 hn1 hn12 rs1 s2 hg' hi hu hlen
  obtain ⟨W4, hW4⟩ : ∃ W4, ((w1.setCell ⟨p.g1, i * 3 + 1, none⟩ (.int .i64 (g' : Int))).setCell ⟨p.g1, i * 3 + 2, none⟩ (.bool true)).setCell ⟨p.S, 2, none⟩ (.int .i64 ((u : Int) + 1)) = W4 := ⟨_, rfl⟩
  rw [hW4] at tp k0 k1
  have q0 : W4.cell? ⟨w.heap.size, 0, none⟩ = some (.int .i64 0) := by
    have := HL.out
    rw [← hW4, World.cell?_setCell_other _ _ _ _ (by simp <;> omega), World.cell?_setCell_other _ _ _ _ (by simp <;> omega), World.cell?_setCell_other _ _ _ _ (by simp <;> omega)]
    exact hf.cell HR.out.1 (by simp; omega) (by simp; omega) (by simp; omega)
  have q1 : W4.cell? ⟨w.heap.size, 1, none⟩ = some (.int .i64 0) := by
    have := HL.out
    rw [← hW4, World.cell?_setCell_other _ _ _ _ (by simp <;> omega), World.cell?_setCell_other _ _ _ _ (by simp <;> omega), World.cell?_setCell_other _ _ _ _ (by simp <;> omega)]
    exact hf.cell HR.out.2.1 (by simp; omega) (by simp; omega) (by simp; omega)
  have z0 : ∀ j, W4.frozen? ⟨w.heap.size, j, none⟩ = false := fun j => by
    have := HL.out
    rw [← hW4, World.frozen?_setCell, World.frozen?_setCell, World.frozen?_setCell]
    exact (World.frozen?_of_block (hf.block w.heap.size (by simp) (by omega) (by omega) (by omega))).trans (by simp)
  have z0' := z0 0
  have z1' := z0 1
  have HQ := Lib.hid (And.intro q0 q1)
  have HTP := Lib.hid tp
  have HW4 := Lib.hid hW4
  clear hf tp hW4 z0
  go_wp2_with (go_at_call 32; refine (atom_any p.S u 1 _ c2 z2 (by omega) (by omega) (by omega) (by omega)).mono ?_)
  rintro e w5 ⟨⟨v, rfl⟩, h5⟩
  rw [HW4.out] at h5
  subst h5
  clear c0 s0 s1 fz1 fz2 s3 c2 z2
  go_wp2
  have HC := Lib.hid (set2_cells (.int .i64 (i : Int)) (.int .i64 (g' : Int)) q0 q1)
  have HE := Lib.hid (takePost_end HTP.out HL.out (.int .i64 (i : Int)) (.int .i64 (g' : Int)))
  obtain ⟨W5, hW5⟩ : ∃ W5, set2 W4 w.heap.size (.int .i64 (i : Int)) (.int .i64 (g' : Int)) = W5 := ⟨_, rfl⟩
  rw [show (W4.setCell ⟨w.heap.size, 0, none⟩ (.int .i64 (i : Int))).setCell ⟨w.heap.size, 1, none⟩ (.int .i64 (g' : Int)) = W5 from hW5]
  rw [hW5] at HC HE
  obtain ⟨y0, y1⟩ := HC.out
  refine bodyPost_ret (v := .tuple #[ihv (toI (takeH st)), .nilIface]) ?_ rfl ⟨rfl, HT.out.2, HE.out⟩
  rw [HT.out.1, HG.out]
  simp [results, Tryd.results23, go_sem, ihv, toI, y0, y1]

theorem ctx_drew {t : Sn} {n0 : Nat} {w : World} (h : Ctx t n0 w) : Ctx t n0 w.drew := h.below ((Below.refl _ _).drew)

/-- take, whatever there is. -/
theorem take_any (t : Sn) (n0 : Nat) (p : Pl) (st : St) (w : World) (hc : Ctx t n0 w) (h : Sl n0 w p st) :
    Calls Tryd.prog 23 #[.pointer (some ⟨p.S, 0, none⟩)] w fun e w' => ∃ v, ErrIs t v (takeE st) ∧ e = .returned (.tuple #[ihv (toI (takeH st)), v]) ∧ TakePost n0 p st w w' := by
  obtain ⟨fr, h⟩ := h
  by_cases hfr : 0 < fr.length
  · refine (take_some n0 p st fr w h hfr).mono ?_
    rintro e w' ⟨he, h0, hp⟩
    exact ⟨_, by rw [h0]; exact .ok, he, hp⟩
  · obtain rfl : fr = [] := List.eq_nil_of_length_eq_zero (by omega)
    refine (take_none t n0 p st w hc h).mono ?_
    rintro e w' ⟨he, hb⟩
    have hf := h.free.none
    have e0 : takeE st = 60 := by simp [takeE, hf]
    have e1 : takeH st = (0, 0) := by simp [takeH, hf]
    have e2 : takeS st = st := by simp [takeS, hf]
    refine ⟨_, by rw [e0]; exact .none, by rw [e1]; exact he, ?_, Fr.of_below hb⟩
    rw [e2]
    exact Sl.more ⟨[], h⟩ hb

theorem Sl.lts {n0 : Nat} {W : World} {p : Pl} {st : St} (h : Sl n0 W p st) : p.S < W.heap.size ∧ p.g1 < W.heap.size ∧ p.g2 < W.heap.size := by
  obtain ⟨fr, h⟩ := h
  exact ⟨h.obj.lt, h.rs.lt, h.row.lt⟩

set_option maxRecDepth 100000 in
set_option maxHeartbeats 2000000 in
theorem Take_any (t : Sn) (n0 : Nat) (p : Pl) (st : St) (w : World) (hc : Ctx t n0 w) (h : Sl n0 w p st) :
    Calls Tryd.prog 12 #[.pointer (some ⟨p.S, 0, none⟩)] w fun e w' => e = .returned (.tuple #[ihv (toI (takeH st)), .int .i64 (takeE st)]) ∧ TakePost n0 p st w w' := by
  have hb := Below.new w (.cells #[.int .i64 0, .int .i64 0] 32)
  have HH := Lib.hid (And.intro (hc.more hb) (h.more hb))
  obtain ⟨r0, r1, r2, r3⟩ := new_cells2 w (.int .i64 0) (.int .i64 0) 32
  have HR := Lib.hid (And.intro r0 (And.intro r1 (And.intro r2 r3)))
  have HL := Lib.hid h.lts
  have HS := Lib.hid hc.size
  clear hc h hb r0 r1 r2 r3
  obtain ⟨⟨th1, th2⟩, hth⟩ : ∃ x, toI (takeH st) = x := ⟨_, rfl⟩
  have HT := Lib.hid hth
  go_enter Tryd.func12, Tryd.ntmps12
  go_wp2_with (go_at_call 23; refine (take_any t n0 p st _ HH.out.1 HH.out.2).mono ?_)
  rintro e w1 ⟨v, hE, he, hP⟩
  rw [hth] at he
  subst he
  simp only [ihv]
  have hl := HL.out
  have q0 := hP.2.cell HR.out.1 (by simp; omega) (by simp; omega) (by simp; omega)
  have q1 := hP.2.cell HR.out.2.1 (by simp; omega) (by simp; omega) (by simp; omega)
  have z0 : w1.frozen? ⟨w.heap.size, 0, none⟩ = false := (World.frozen?_of_block (hP.2.block w.heap.size (by simp) (by omega) (by omega) (by omega))).trans (by simp)
  have z1 : w1.frozen? ⟨w.heap.size, 1, none⟩ = false := (World.frozen?_of_block (hP.2.block w.heap.size (by simp) (by omega) (by omega) (by omega))).trans (by simp)
  have C1 := Lib.hid (HH.out.1.below (HH.out.2.below hP.2 HH.out.1.size))
  have HP := Lib.hid (And.intro hE hP)
  have hl1 : w.heap.size < w1.heap.size := World.block_lt_of_cell? w1 _ q0
  clear hth hl hE hP
  go_wp2_with fail
  obtain ⟨W2, hW2⟩ : ∃ W2, w1.alloc (.cells #[.int .i64 th1, .int .i64 th2] 32) = W2 := ⟨_, rfl⟩
  obtain ⟨y0, y1, _, _⟩ := new_cells2 w1 (.int .i64 th1) (.int .i64 th2) 32
  have hb2 := Below.new w1 (.cells #[.int .i64 th1, .int .i64 th2] 32)
  rw [hW2] at y0 y1 hb2 ⊢
  have x0 := cell_later hb2 q0
  have x1 := cell_later hb2 q1
  have f0 := (hb2.frozen (p := ⟨w.heap.size, 0, none⟩) hl1).trans z0
  have f1 := (hb2.frozen (p := ⟨w.heap.size, 1, none⟩) hl1).trans z1
  have C2 := Lib.hid (C1.out.more hb2)
  have HB2 := Lib.hid hb2
  have HC := Lib.hid (set2_cells (.int .i64 th1) (.int .i64 th2) x0 x1)
  obtain ⟨x2, x3⟩ := HC.out
  unfold set2 at x2 x3
  clear q0 q1 z0 z1 hW2 hb2
  go_region_with (first | (go_at_call 24; refine (told_any t HP.out.1 _ (by first | exact C2.out | exact ctx_drew C2.out)).mono ?_; rintro e w' ⟨rfl, rfl⟩))
  all_goals go_wp2
  all_goals
    simp only [List.getElem_toArray, List.getElem_cons_succ, List.getElem_cons_zero, Act.put, List.setIfInBounds_toArray, List.set_cons_succ, List.set_cons_zero]
    have HE := Lib.hid (takePost_more (takePost_end (takePost_more HP.out.2 HB2.out) HL.out (.int .i64 th1) (.int .i64 th2)) ((Below.refl _ _).drew))
    obtain ⟨W3, hW3⟩ : ∃ W3, (set2 W2 w.heap.size (.int .i64 th1) (.int .i64 th2)).drew = W3 := ⟨_, rfl⟩
    rw [show ((W2.setCell ⟨w.heap.size, 0, none⟩ (.int .i64 th1)).setCell ⟨w.heap.size, 1, none⟩ (.int .i64 th2)).drew = W3 from hW3]
    have HC3 : Hid (W3.cell? ⟨w.heap.size, 0, none⟩ = some (.int .i64 th1) ∧ W3.cell? ⟨w.heap.size, 1, none⟩ = some (.int .i64 th2)) := by rw [← hW3]; exact HC.out
    rw [hW3] at HE
    obtain ⟨k0, k1⟩ := HC3.out
    refine bodyPost_ret (v := .tuple #[ihv (toI (takeH st)), .int .i64 (takeE st)]) ?_ rfl ⟨rfl, HE.out⟩
    rw [HT.out]
    simp [results, Tryd.results12, go_sem, ihv, k0, k1]

end Go.Proofs.YtjfooblnpkckfaaDoor
