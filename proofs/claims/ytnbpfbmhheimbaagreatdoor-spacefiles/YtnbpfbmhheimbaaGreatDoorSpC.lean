/- Merged texts: SpClo, SpCloR, SpCloP, SpCloT -/
import Derived.Test.YtnbpfbmhheimbaaGreatDoorSpDrop
/- What is done with an object: the five closures. -/
namespace Go.Proofs.YtnbpfbmhheimbaaGreatDoor
open Go.RowKit Go.Proofs.Fld Go.Proofs.Rng Go.Proofs.Spc Go.Shelf Go.Sort

/-- What a closure tells: F is the block that it may write. -/
def DoP (f : Ob → Int × Ob) (G : Ob → World → Prop) (x : Ov) (F : Nat) (w : World) (e : Ending) (w' : World) : Prop :=
  ∃ x' : Ov, ∃ c : Int, e = .returned (.tuple #[.agg #[.string (bs x'.o.n), .int .i64 x'.o.k, .string (bs x'.o.d), .int .i64 x'.o.m, .slice x'.a x'.o.l.length x'.c], .int .i64 c]) ∧ c = (f x.o).1 ∧ (c = 0 → x'.o = (f x.o).2) ∧ Lv w' x' ∧ KA F w w' ∧ G x.o w' ∧ ((x'.a = x.a ∧ x'.o.l = x.o.l) ∨ ∀ a, x'.a = some a → x'.o.l ≠ [] → w.heap.size ≤ a.block)
/-- An object's cells, stored one by one. -/
theorem obat_set {W : World} {b : Nat} {x y : Ov} (h : ObAt W b 0 y) : ObAt (((((W.setCell ⟨b, 0, none⟩ (.string (bs x.o.n))).setCell ⟨b, 1, none⟩ (.int .i64 x.o.k)).setCell ⟨b, 2, none⟩ (.string (bs x.o.d))).setCell ⟨b, 3, none⟩ (.int .i64 x.o.m)).setCell ⟨b, 4, none⟩ (.slice x.a x.o.l.length x.c)) b 0 x := by
  obtain ⟨h0, h1, h2, h3, h4⟩ := h.var
  refine ⟨?_, ?_, ?_, ?_, ?_⟩
  · exact setO (setO (setO (setO (setS _ h0) (ne_off (by omega))) (ne_off (by omega))) (ne_off (by omega))) (ne_off (by omega))
  · exact setO (setO (setO (setS _ (setO h1 (ne_off (by omega)))) (ne_off (by omega))) (ne_off (by omega))) (ne_off (by omega))
  · exact setO (setO (setS _ (setO (setO h2 (ne_off (by omega))) (ne_off (by omega)))) (ne_off (by omega))) (ne_off (by omega))
  · exact setO (setS _ (setO (setO (setO h3 (ne_off (by omega))) (ne_off (by omega))) (ne_off (by omega)))) (ne_off (by omega))
  · exact setS _ (setO (setO (setO (setO h4 (ne_off (by omega))) (ne_off (by omega))) (ne_off (by omega))) (ne_off (by omega)))
theorem fil_code (r : Option It) (o : Ob) : (filF r o).1 = Fil.errR r := by cases r <;> rfl
theorem fil_ob {r : Option It} {o : Ob} : (filF r o).2 = ⟨o.n, o.k, Fil.txt r, o.m, o.l⟩ := by cases r <;> rfl
theorem txt_le {r : Option It} (h : ∀ s, r = some s → s.length ≤ 1000) : (Fil.txt r).length ≤ 9223372036854775807 := by
  cases r with
  | none => show ([] : It).length ≤ _; simp
  | some s => have := h s rfl; show s.length ≤ _; omega
-- GEN
theorem write_le {d t s : It} {a : Int} (h : Fil.writeR d a t = some s) : s.length ≤ 1000 := by
  obtain ⟨k, rfl, hk, hs, hl, rfl⟩ := Fil.writeR_some h
  simp only [List.length_append, List.length_take, List.length_drop]
  omega
theorem cut_le {d s : It} {n : Int} (h : Fil.cutR d n = some s) : s.length ≤ 1000 := by
  unfold Fil.cutR at h
  split at h
  · rename_i hc
    obtain rfl := Option.some.inj h
    simp only [List.length_append, List.length_take, Fil.zerosR, List.length_replicate]
    omega
  · cases h

set_option maxRecDepth 100000 in
set_option maxHeartbeats 4000000 in
theorem write1_any {s : Sn} {x : Ov} {F : Nat} {Ba Bt : Nat} {a : Int} {t : It} {w : World} (hs : Ev s w) (hx : Lv w x) (ha : w.cell? ⟨Ba, 0, none⟩ = some (.int .i64 a)) (ht : w.cell? ⟨Bt, 0, none⟩ = some (.string (bs t))) (htl : t.length ≤ 1000000) :
    Calls Tryz.prog 59 #[.agg #[.string (bs x.o.n), .int .i64 x.o.k, .string (bs x.o.d), .int .i64 x.o.m, .slice x.a x.o.l.length x.c], .pointer (some ⟨Ba, 0, none⟩), .pointer (some ⟨Bt, 0, none⟩)] w (DoP (wrF a t) (fun _ _ => True) x F w) := by
  have hB : Below w.heap.size w ((w.alloc (.cells #[.string (bs x.o.n), .int .i64 x.o.k, .string (bs x.o.d), .int .i64 x.o.m, .slice x.a x.o.l.length x.c] 55)).alloc (.cells #[.string { data := #[] }, .int .i64 0, .string { data := #[] }, .int .i64 0, .slice none 0 0] 55)) := (Below.new w _).alloc (by simp) _
  have hO : ObAt ((w.alloc (.cells #[.string (bs x.o.n), .int .i64 x.o.k, .string (bs x.o.d), .int .i64 x.o.m, .slice x.a x.o.l.length x.c] 55)).alloc (.cells #[.string { data := #[] }, .int .i64 0, .string { data := #[] }, .int .i64 0, .slice none 0 0] 55)) w.heap.size 0 x := (ObAt.new w x _).more (Below.new _ _)
  have hZ : ObAt ((w.alloc (.cells #[.string (bs x.o.n), .int .i64 x.o.k, .string (bs x.o.d), .int .i64 x.o.m, .slice x.a x.o.l.length x.c] 55)).alloc (.cells #[.string { data := #[] }, .int .i64 0, .string { data := #[] }, .int .i64 0, .slice none 0 0] 55)) (w.heap.size + 1) 0 ⟨⟨[], 0, [], 0, []⟩, none, 0⟩ := by
    have := ObAt.new (w.alloc (.cells #[.string (bs x.o.n), .int .i64 x.o.k, .string (bs x.o.d), .int .i64 x.o.m, .slice x.a x.o.l.length x.c] 55)) ⟨⟨[], 0, [], 0, []⟩, none, 0⟩ 55
    rw [World.size_alloc] at this
    exact this
  have hfr : ∀ i, ((w.alloc (.cells #[.string (bs x.o.n), .int .i64 x.o.k, .string (bs x.o.d), .int .i64 x.o.m, .slice x.a x.o.l.length x.c] 55)).alloc (.cells #[.string { data := #[] }, .int .i64 0, .string { data := #[] }, .int .i64 0, .slice none 0 0] 55)).frozen? ⟨w.heap.size, i, none⟩ = false ∧ ((w.alloc (.cells #[.string (bs x.o.n), .int .i64 x.o.k, .string (bs x.o.d), .int .i64 x.o.m, .slice x.a x.o.l.length x.c] 55)).alloc (.cells #[.string { data := #[] }, .int .i64 0, .string { data := #[] }, .int .i64 0, .slice none 0 0] 55)).frozen? ⟨w.heap.size + 1, i, none⟩ = false := fun i => by
    refine ⟨?_, ?_⟩
    · have h1 : (w.alloc (.cells #[.string (bs x.o.n), .int .i64 x.o.k, .string (bs x.o.d), .int .i64 x.o.m, .slice x.a x.o.l.length x.c] 55)).frozen? ⟨w.heap.size, i, none⟩ = false := by simp
      exact ((Below.new _ _).frozen (p := ⟨w.heap.size, i, none⟩) (by simp)).trans h1
    · rw [← World.size_alloc w (.cells #[.string (bs x.o.n), .int .i64 x.o.k, .string (bs x.o.d), .int .i64 x.o.m, .slice x.a x.o.l.length x.c] 55)]
      simp
  have hz0 : ((w.alloc (.cells #[.string (bs x.o.n), .int .i64 x.o.k, .string (bs x.o.d), .int .i64 x.o.m, .slice x.a x.o.l.length x.c] 55)).alloc (.cells #[.string { data := #[] }, .int .i64 0, .string { data := #[] }, .int .i64 0, .slice none 0 0] 55)).heap.size = w.heap.size + 2 := by simp
  obtain ⟨W0, hW0⟩ : ∃ W0, ((w.alloc (.cells #[.string (bs x.o.n), .int .i64 x.o.k, .string (bs x.o.d), .int .i64 x.o.m, .slice x.a x.o.l.length x.c] 55)).alloc (.cells #[.string { data := #[] }, .int .i64 0, .string { data := #[] }, .int .i64 0, .slice none 0 0] 55)) = W0 := ⟨_, rfl⟩
  rw [hW0] at hB hO hZ hfr hz0
  have ha0 := cell_later hB ha
  have ht0 := cell_later hB ht
  have hx00 := hx
  have HC := Lib.hid (Fi.Write_p (s := x.o.d) (t := t) (o := a) (by omega) rfl rfl rfl (hs.more hB).et)
  have HX := Lib.hid (And.intro hB (And.intro hO (And.intro hZ (And.intro hfr (And.intro hz0 (hx.more hB))))))
  have HL := Lib.hid (And.intro hx00 (show ∀ s, Fil.writeR x.o.d a t = some s → s.length ≤ 1000 from fun s h => write_le h))
  obtain ⟨x0, x1, x2, x3, x4⟩ := hO.var
  clear hB hO hZ hfr hz0 hs hx
  go_enter Tryz.func59, Tryz.ntmps59
  go_wp2_with (go_at_call 60; refine HC.out.mono ?_)
  rintro e w1 ⟨rfl, hb1⟩
  clear hW0
  obtain ⟨d, hd⟩ : ∃ d, Fil.txt (Fil.writeR x.o.d a t) = d := ⟨_, rfl⟩
  obtain ⟨c, hc⟩ : ∃ c, Fil.errR (Fil.writeR x.o.d a t) = c := ⟨_, rfl⟩
  rw [hd, hc]
  have o1 := HX.out.2.1.more hb1
  have z1 := HX.out.2.2.1.more hb1
  have f1 : ∀ i, w1.frozen? ⟨w.heap.size, i, none⟩ = false ∧ w1.frozen? ⟨w.heap.size + 1, i, none⟩ = false := fun i => ⟨(hb1.frozen (p := ⟨w.heap.size, i, none⟩) (by have := HX.out.2.2.2.2.1; simp only; omega)).trans (HX.out.2.2.2.1 i).1, (hb1.frozen (p := ⟨w.heap.size + 1, i, none⟩) (by have := HX.out.2.2.2.2.1; simp only; omega)).trans (HX.out.2.2.2.1 i).2⟩
  obtain ⟨x', hx'⟩ : ∃ x' : Ov, x' = ⟨⟨x.o.n, x.o.k, d, x.o.m, x.o.l⟩, x.a, x.c⟩ := ⟨_, rfl⟩
  have o2 : ObAt (w1.setCell ⟨w.heap.size, 2, none⟩ (.string (bs d))) w.heap.size 0 x' := by
    subst hx'
    obtain ⟨y0, y1, y2, y3, y4⟩ := o1.var
    exact ⟨setO y0 (ne_off (by omega)), setO y1 (ne_off (by omega)), setS _ y2, setO y3 (ne_off (by omega)), setO y4 (ne_off (by omega))⟩
  have z2 : ObAt (w1.setCell ⟨w.heap.size, 2, none⟩ (.string (bs d))) (w.heap.size + 1) 0 ⟨⟨[], 0, [], 0, []⟩, none, 0⟩ := z1.of_block (Below.heap_setCell _ _ _ _ (fun e => by have : w.heap.size + 1 = w.heap.size := e; omega))
  have f2 : ∀ i, (w1.setCell ⟨w.heap.size, 2, none⟩ (.string (bs d))).frozen? ⟨w.heap.size + 1, i, none⟩ = false := fun i => setF (f1 i).2
  have b2 : Below w.heap.size w (w1.setCell ⟨w.heap.size, 2, none⟩ (.string (bs d))) := (below_more HX.out.1 hb1).setCell (p := ⟨w.heap.size, 2, none⟩) (Nat.le_refl _) _
  have hlv1 := HX.out.2.2.2.2.2.more hb1
  have g2 := (f1 2).1
  obtain ⟨y0, y1, y2, y3, y4⟩ := o1.var
  obtain ⟨W2, hW2⟩ : ∃ W2, w1.setCell ⟨w.heap.size, 2, none⟩ (.string (bs d)) = W2 := ⟨_, rfl⟩
  rw [hW2] at o2 z2 f2 b2
  have o3 := obat_set (x := x') z2
  have b3 : Below w.heap.size w (((((W2.setCell ⟨w.heap.size + 1, 0, none⟩ (.string (bs x'.o.n))).setCell ⟨w.heap.size + 1, 1, none⟩ (.int .i64 x'.o.k)).setCell ⟨w.heap.size + 1, 2, none⟩ (.string (bs x'.o.d))).setCell ⟨w.heap.size + 1, 3, none⟩ (.int .i64 x'.o.m)).setCell ⟨w.heap.size + 1, 4, none⟩ (.slice x'.a x'.o.l.length x'.c)) := ((((b2.setCell (p := ⟨w.heap.size + 1, 0, none⟩) (by simp) _).setCell (p := ⟨w.heap.size + 1, 1, none⟩) (by simp) _).setCell (p := ⟨w.heap.size + 1, 2, none⟩) (by simp) _).setCell (p := ⟨w.heap.size + 1, 3, none⟩) (by simp) _).setCell (p := ⟨w.heap.size + 1, 4, none⟩) (by simp) _
  have HF := Lib.hid (And.intro o3 (And.intro b3 (And.intro hx' (And.intro hd hc))))
  obtain ⟨v0, v1, v2, v3, v4⟩ := o2.var
  obtain ⟨u0, u1, u2, u3, u4⟩ := z2.var
  have k0 := f2 0
  have k1 := f2 1
  have k2 := f2 2
  have k3 := f2 3
  have k4 := f2 4
  clear o1 z1 f1 o2 z2 f2 b2 hlv1 o3 b3 hx' hd hc hb1 x0 x1 x2 x3 x4
  go_wp2
  generalize hWF : (((((W2.setCell ⟨w.heap.size + 1, 0, none⟩ (.string (bs x'.o.n))).setCell ⟨w.heap.size + 1, 1, none⟩ (.int .i64 x'.o.k)).setCell ⟨w.heap.size + 1, 2, none⟩ (.string (bs x'.o.d))).setCell ⟨w.heap.size + 1, 3, none⟩ (.int .i64 x'.o.m)).setCell ⟨w.heap.size + 1, 4, none⟩ (.slice x'.a x'.o.l.length x'.c)) = WF at HF ⊢
  obtain ⟨p0, p1, p2, p3, p4⟩ := HF.out.1.var
  refine bodyPost_ret (v := .tuple #[.agg #[.string (bs x'.o.n), .int .i64 x'.o.k, .string (bs x'.o.d), .int .i64 x'.o.m, .slice x'.a x'.o.l.length x'.c], .int .i64 c]) (by simp [results, Tryz.results59, go_sem, p0, p1, p2, p3, p4]) rfl ?_
  obtain ⟨_, hb, hx', hd, hc⟩ := HF.out
  refine ⟨x', c, rfl, ?_, ?_, ?_, KA.of_below hb, trivial, .inl ⟨by rw [hx'], by rw [hx']⟩⟩
  · rw [← hc]; exact (fil_code _ _).symm
  · intro _
    rw [hx', ← hd]
    exact fil_ob.symm
  · rw [hx']
    have hl := HL.out.1.more hb
    exact ⟨hl.t, hl.hn, by show d.length ≤ _; rw [← hd]; exact txt_le HL.out.2⟩

set_option maxRecDepth 100000 in
set_option maxHeartbeats 4000000 in
theorem cut1_any {s : Sn} {x : Ov} {F : Nat} {Bn : Nat} {n : Int} {w : World} (hs : Ev s w) (hx : Lv w x) (hn : w.cell? ⟨Bn, 0, none⟩ = some (.int .i64 n)) :
    Calls Tryz.prog 68 #[.agg #[.string (bs x.o.n), .int .i64 x.o.k, .string (bs x.o.d), .int .i64 x.o.m, .slice x.a x.o.l.length x.c], .pointer (some ⟨Bn, 0, none⟩)] w (DoP (cutF n) (fun _ _ => True) x F w) := by
  have hB : Below w.heap.size w ((w.alloc (.cells #[.string (bs x.o.n), .int .i64 x.o.k, .string (bs x.o.d), .int .i64 x.o.m, .slice x.a x.o.l.length x.c] 55)).alloc (.cells #[.string { data := #[] }, .int .i64 0, .string { data := #[] }, .int .i64 0, .slice none 0 0] 55)) := (Below.new w _).alloc (by simp) _
  have hO : ObAt ((w.alloc (.cells #[.string (bs x.o.n), .int .i64 x.o.k, .string (bs x.o.d), .int .i64 x.o.m, .slice x.a x.o.l.length x.c] 55)).alloc (.cells #[.string { data := #[] }, .int .i64 0, .string { data := #[] }, .int .i64 0, .slice none 0 0] 55)) w.heap.size 0 x := (ObAt.new w x _).more (Below.new _ _)
  have hZ : ObAt ((w.alloc (.cells #[.string (bs x.o.n), .int .i64 x.o.k, .string (bs x.o.d), .int .i64 x.o.m, .slice x.a x.o.l.length x.c] 55)).alloc (.cells #[.string { data := #[] }, .int .i64 0, .string { data := #[] }, .int .i64 0, .slice none 0 0] 55)) (w.heap.size + 1) 0 ⟨⟨[], 0, [], 0, []⟩, none, 0⟩ := by
    have := ObAt.new (w.alloc (.cells #[.string (bs x.o.n), .int .i64 x.o.k, .string (bs x.o.d), .int .i64 x.o.m, .slice x.a x.o.l.length x.c] 55)) ⟨⟨[], 0, [], 0, []⟩, none, 0⟩ 55
    rw [World.size_alloc] at this
    exact this
  have hfr : ∀ i, ((w.alloc (.cells #[.string (bs x.o.n), .int .i64 x.o.k, .string (bs x.o.d), .int .i64 x.o.m, .slice x.a x.o.l.length x.c] 55)).alloc (.cells #[.string { data := #[] }, .int .i64 0, .string { data := #[] }, .int .i64 0, .slice none 0 0] 55)).frozen? ⟨w.heap.size, i, none⟩ = false ∧ ((w.alloc (.cells #[.string (bs x.o.n), .int .i64 x.o.k, .string (bs x.o.d), .int .i64 x.o.m, .slice x.a x.o.l.length x.c] 55)).alloc (.cells #[.string { data := #[] }, .int .i64 0, .string { data := #[] }, .int .i64 0, .slice none 0 0] 55)).frozen? ⟨w.heap.size + 1, i, none⟩ = false := fun i => by
    refine ⟨?_, ?_⟩
    · have h1 : (w.alloc (.cells #[.string (bs x.o.n), .int .i64 x.o.k, .string (bs x.o.d), .int .i64 x.o.m, .slice x.a x.o.l.length x.c] 55)).frozen? ⟨w.heap.size, i, none⟩ = false := by simp
      exact ((Below.new _ _).frozen (p := ⟨w.heap.size, i, none⟩) (by simp)).trans h1
    · rw [← World.size_alloc w (.cells #[.string (bs x.o.n), .int .i64 x.o.k, .string (bs x.o.d), .int .i64 x.o.m, .slice x.a x.o.l.length x.c] 55)]
      simp
  have hz0 : ((w.alloc (.cells #[.string (bs x.o.n), .int .i64 x.o.k, .string (bs x.o.d), .int .i64 x.o.m, .slice x.a x.o.l.length x.c] 55)).alloc (.cells #[.string { data := #[] }, .int .i64 0, .string { data := #[] }, .int .i64 0, .slice none 0 0] 55)).heap.size = w.heap.size + 2 := by simp
  obtain ⟨W0, hW0⟩ : ∃ W0, ((w.alloc (.cells #[.string (bs x.o.n), .int .i64 x.o.k, .string (bs x.o.d), .int .i64 x.o.m, .slice x.a x.o.l.length x.c] 55)).alloc (.cells #[.string { data := #[] }, .int .i64 0, .string { data := #[] }, .int .i64 0, .slice none 0 0] 55)) = W0 := ⟨_, rfl⟩
  rw [hW0] at hB hO hZ hfr hz0
  have hn0 := cell_later hB hn
  have hx00 := hx
  have HC := Lib.hid (Fi.Cut_p (s := x.o.d) (n := n) rfl rfl rfl (hs.more hB).et)
  have HX := Lib.hid (And.intro hB (And.intro hO (And.intro hZ (And.intro hfr (And.intro hz0 (hx.more hB))))))
  have HL := Lib.hid (And.intro hx00 (show ∀ s, Fil.cutR x.o.d n = some s → s.length ≤ 1000 from fun s h => cut_le h))
  obtain ⟨x0, x1, x2, x3, x4⟩ := hO.var
  clear hB hO hZ hfr hz0 hs hx
  go_enter Tryz.func68, Tryz.ntmps68
  go_wp2_with (go_at_call 69; refine HC.out.mono ?_)
  rintro e w1 ⟨rfl, hb1⟩
  clear hW0
  obtain ⟨d, hd⟩ : ∃ d, Fil.txt (Fil.cutR x.o.d n) = d := ⟨_, rfl⟩
  obtain ⟨c, hc⟩ : ∃ c, Fil.errR (Fil.cutR x.o.d n) = c := ⟨_, rfl⟩
  rw [hd, hc]
  have o1 := HX.out.2.1.more hb1
  have z1 := HX.out.2.2.1.more hb1
  have f1 : ∀ i, w1.frozen? ⟨w.heap.size, i, none⟩ = false ∧ w1.frozen? ⟨w.heap.size + 1, i, none⟩ = false := fun i => ⟨(hb1.frozen (p := ⟨w.heap.size, i, none⟩) (by have := HX.out.2.2.2.2.1; simp only; omega)).trans (HX.out.2.2.2.1 i).1, (hb1.frozen (p := ⟨w.heap.size + 1, i, none⟩) (by have := HX.out.2.2.2.2.1; simp only; omega)).trans (HX.out.2.2.2.1 i).2⟩
  obtain ⟨x', hx'⟩ : ∃ x' : Ov, x' = ⟨⟨x.o.n, x.o.k, d, x.o.m, x.o.l⟩, x.a, x.c⟩ := ⟨_, rfl⟩
  have o2 : ObAt (w1.setCell ⟨w.heap.size, 2, none⟩ (.string (bs d))) w.heap.size 0 x' := by
    subst hx'
    obtain ⟨y0, y1, y2, y3, y4⟩ := o1.var
    exact ⟨setO y0 (ne_off (by omega)), setO y1 (ne_off (by omega)), setS _ y2, setO y3 (ne_off (by omega)), setO y4 (ne_off (by omega))⟩
  have z2 : ObAt (w1.setCell ⟨w.heap.size, 2, none⟩ (.string (bs d))) (w.heap.size + 1) 0 ⟨⟨[], 0, [], 0, []⟩, none, 0⟩ := z1.of_block (Below.heap_setCell _ _ _ _ (fun e => by have : w.heap.size + 1 = w.heap.size := e; omega))
  have f2 : ∀ i, (w1.setCell ⟨w.heap.size, 2, none⟩ (.string (bs d))).frozen? ⟨w.heap.size + 1, i, none⟩ = false := fun i => setF (f1 i).2
  have b2 : Below w.heap.size w (w1.setCell ⟨w.heap.size, 2, none⟩ (.string (bs d))) := (below_more HX.out.1 hb1).setCell (p := ⟨w.heap.size, 2, none⟩) (Nat.le_refl _) _
  have hlv1 := HX.out.2.2.2.2.2.more hb1
  have g2 := (f1 2).1
  obtain ⟨y0, y1, y2, y3, y4⟩ := o1.var
  obtain ⟨W2, hW2⟩ : ∃ W2, w1.setCell ⟨w.heap.size, 2, none⟩ (.string (bs d)) = W2 := ⟨_, rfl⟩
  rw [hW2] at o2 z2 f2 b2
  have o3 := obat_set (x := x') z2
  have b3 : Below w.heap.size w (((((W2.setCell ⟨w.heap.size + 1, 0, none⟩ (.string (bs x'.o.n))).setCell ⟨w.heap.size + 1, 1, none⟩ (.int .i64 x'.o.k)).setCell ⟨w.heap.size + 1, 2, none⟩ (.string (bs x'.o.d))).setCell ⟨w.heap.size + 1, 3, none⟩ (.int .i64 x'.o.m)).setCell ⟨w.heap.size + 1, 4, none⟩ (.slice x'.a x'.o.l.length x'.c)) := ((((b2.setCell (p := ⟨w.heap.size + 1, 0, none⟩) (by simp) _).setCell (p := ⟨w.heap.size + 1, 1, none⟩) (by simp) _).setCell (p := ⟨w.heap.size + 1, 2, none⟩) (by simp) _).setCell (p := ⟨w.heap.size + 1, 3, none⟩) (by simp) _).setCell (p := ⟨w.heap.size + 1, 4, none⟩) (by simp) _
  have HF := Lib.hid (And.intro o3 (And.intro b3 (And.intro hx' (And.intro hd hc))))
  obtain ⟨v0, v1, v2, v3, v4⟩ := o2.var
  obtain ⟨u0, u1, u2, u3, u4⟩ := z2.var
  have k0 := f2 0
  have k1 := f2 1
  have k2 := f2 2
  have k3 := f2 3
  have k4 := f2 4
  clear o1 z1 f1 o2 z2 f2 b2 hlv1 o3 b3 hx' hd hc hb1 x0 x1 x2 x3 x4
  go_wp2
  generalize hWF : (((((W2.setCell ⟨w.heap.size + 1, 0, none⟩ (.string (bs x'.o.n))).setCell ⟨w.heap.size + 1, 1, none⟩ (.int .i64 x'.o.k)).setCell ⟨w.heap.size + 1, 2, none⟩ (.string (bs x'.o.d))).setCell ⟨w.heap.size + 1, 3, none⟩ (.int .i64 x'.o.m)).setCell ⟨w.heap.size + 1, 4, none⟩ (.slice x'.a x'.o.l.length x'.c)) = WF at HF ⊢
  obtain ⟨p0, p1, p2, p3, p4⟩ := HF.out.1.var
  refine bodyPost_ret (v := .tuple #[.agg #[.string (bs x'.o.n), .int .i64 x'.o.k, .string (bs x'.o.d), .int .i64 x'.o.m, .slice x'.a x'.o.l.length x'.c], .int .i64 c]) (by simp [results, Tryz.results68, go_sem, p0, p1, p2, p3, p4]) rfl ?_
  obtain ⟨_, hb, hx', hd, hc⟩ := HF.out
  refine ⟨x', c, rfl, ?_, ?_, ?_, KA.of_below hb, trivial, .inl ⟨by rw [hx'], by rw [hx']⟩⟩
  · rw [← hc]; exact (fil_code _ _).symm
  · intro _
    rw [hx', ← hd]
    exact fil_ob.symm
  · rw [hx']
    have hl := HL.out.1.more hb
    exact ⟨hl.t, hl.hn, by show d.length ≤ _; rw [← hd]; exact txt_le HL.out.2⟩

/-- The closure's world ahead of its last store. -/
structure CW (w W2 : World) (F : Nat) (x' : Ov) : Prop where
  o : ObAt W2 w.heap.size 0 x'
  z : ObAt W2 (w.heap.size + 1) 0 ⟨⟨[], 0, [], 0, []⟩, none, 0⟩
  f : ∀ i, W2.frozen? ⟨w.heap.size + 1, i, none⟩ = false
  k : KA F w W2
  l : Lv W2 x'
  ne : ∀ a, x'.a = some a → x'.o.l ≠ [] → a.block ≠ w.heap.size + 1
def fin5 (W2 : World) (b : Nat) (x' : Ov) : World := ((((W2.setCell ⟨b, 0, none⟩ (.string (bs x'.o.n))).setCell ⟨b, 1, none⟩ (.int .i64 x'.o.k)).setCell ⟨b, 2, none⟩ (.string (bs x'.o.d))).setCell ⟨b, 3, none⟩ (.int .i64 x'.o.m)).setCell ⟨b, 4, none⟩ (.slice x'.a x'.o.l.length x'.c)
theorem fin5_block (W2 : World) (b : Nat) (x' : Ov) {k : Nat} (h : k ≠ b) : (fin5 W2 b x').heap[k]? = W2.heap[k]? := by
  unfold fin5
  rw [Below.heap_setCell _ _ _ _ (fun e => h e), Below.heap_setCell _ _ _ _ (fun e => h e), Below.heap_setCell _ _ _ _ (fun e => h e), Below.heap_setCell _ _ _ _ (fun e => h e), Below.heap_setCell _ _ _ _ (fun e => h e)]
theorem CW.fin {w W2 : World} {F : Nat} {x' : Ov} (h : CW w W2 F x') : ObAt (fin5 W2 (w.heap.size + 1) x') (w.heap.size + 1) 0 x' ∧ KA F w (fin5 W2 (w.heap.size + 1) x') ∧ Lv (fin5 W2 (w.heap.size + 1) x') x' :=
  ⟨obat_set h.z, ((((h.k.set (by omega)).set (by omega)).set (by omega)).set (by omega)).set (by omega), h.l.keep fun a ea hz _ => fin5_block _ _ _ (h.ne a ea hz)⟩
theorem CW.facts {w W2 : World} {F : Nat} {x' : Ov} (h : CW w W2 F x') : (W2.cell? ⟨w.heap.size, 0, none⟩ = some (.string (bs x'.o.n)) ∧ W2.cell? ⟨w.heap.size, 1, none⟩ = some (.int .i64 x'.o.k) ∧ W2.cell? ⟨w.heap.size, 2, none⟩ = some (.string (bs x'.o.d)) ∧ W2.cell? ⟨w.heap.size, 3, none⟩ = some (.int .i64 x'.o.m) ∧ W2.cell? ⟨w.heap.size, 4, none⟩ = some (.slice x'.a x'.o.l.length x'.c)) ∧
    (W2.cell? ⟨w.heap.size + 1, 0, none⟩ = some (.string (bs [])) ∧ W2.cell? ⟨w.heap.size + 1, 1, none⟩ = some (.int .i64 0) ∧ W2.cell? ⟨w.heap.size + 1, 2, none⟩ = some (.string (bs [])) ∧ W2.cell? ⟨w.heap.size + 1, 3, none⟩ = some (.int .i64 0) ∧ W2.cell? ⟨w.heap.size + 1, 4, none⟩ = some (.slice none 0 0)) := ⟨h.o.var, h.z.var⟩
theorem boxed_eq {A B : World} {b : Nat} {t : TypeId} {v : Value} (h : Boxed A b t v) (e : B.heap[b]? = A.heap[b]?) : Boxed B b t v := e.trans h
theorem CW.drew {w V : World} {F : Nat} {x' : Ov} (h : CW w V F x') : CW w V.drew F x' := ⟨h.o, h.z, h.f, h.k.trans (KA.of_below (Below.refl _ V).drew), h.l.more (Below.refl _ V).drew, h.ne⟩
theorem rd_code (a n : Int) (o : Ob) : (rdF a n o).1 = Fil.errR (Fil.readR o.d a n) := by
  unfold rdF
  cases Fil.readR o.d a n <;> rfl

end Go.Proofs.YtnbpfbmhheimbaaGreatDoor

/- Read with an object. -/
namespace Go.Proofs.YtnbpfbmhheimbaaGreatDoor
open Go.RowKit Go.Proofs.Fld Go.Proofs.Rng Go.Proofs.Spc Go.Shelf Go.Sort

set_option maxRecDepth 100000 in
set_option maxHeartbeats 4000000 in
theorem read1_any {s : Sn} {x : Ov} {F Ba Bn : Nat} {a n : Int} {v00 : Value} {w : World} (hs : Ev s w) (hx : Lv w x) (ha : w.cell? ⟨Ba, 0, none⟩ = some (.int .i64 a)) (hn : w.cell? ⟨Bn, 0, none⟩ = some (.int .i64 n)) (hF : Boxed w F 9 v00) (hxF : ∀ b, x.a = some b → x.o.l ≠ [] → b.block ≠ F) :
    Calls Tryz.prog 65 #[.agg #[.string (bs x.o.n), .int .i64 x.o.k, .string (bs x.o.d), .int .i64 x.o.m, .slice x.a x.o.l.length x.c], .pointer (some ⟨Ba, 0, none⟩), .pointer (some ⟨Bn, 0, none⟩), .pointer (some ⟨F, 0, none⟩)] w (DoP (rdF a n) (fun o W => Boxed W F 9 (.string (bs (Fil.txt (Fil.readR o.d a n))))) x F w) := by
  have hB : Below w.heap.size w ((w.alloc (.cells #[.string (bs x.o.n), .int .i64 x.o.k, .string (bs x.o.d), .int .i64 x.o.m, .slice x.a x.o.l.length x.c] 55)).alloc (.cells #[.string { data := #[] }, .int .i64 0, .string { data := #[] }, .int .i64 0, .slice none 0 0] 55)) := (Below.new w _).alloc (by simp) _
  have hO : ObAt ((w.alloc (.cells #[.string (bs x.o.n), .int .i64 x.o.k, .string (bs x.o.d), .int .i64 x.o.m, .slice x.a x.o.l.length x.c] 55)).alloc (.cells #[.string { data := #[] }, .int .i64 0, .string { data := #[] }, .int .i64 0, .slice none 0 0] 55)) w.heap.size 0 x := (ObAt.new w x _).more (Below.new _ _)
  have hZ : ObAt ((w.alloc (.cells #[.string (bs x.o.n), .int .i64 x.o.k, .string (bs x.o.d), .int .i64 x.o.m, .slice x.a x.o.l.length x.c] 55)).alloc (.cells #[.string { data := #[] }, .int .i64 0, .string { data := #[] }, .int .i64 0, .slice none 0 0] 55)) (w.heap.size + 1) 0 ⟨⟨[], 0, [], 0, []⟩, none, 0⟩ := by
    have := ObAt.new (w.alloc (.cells #[.string (bs x.o.n), .int .i64 x.o.k, .string (bs x.o.d), .int .i64 x.o.m, .slice x.a x.o.l.length x.c] 55)) ⟨⟨[], 0, [], 0, []⟩, none, 0⟩ 55
    rw [World.size_alloc] at this
    exact this
  have hfr : ∀ i, ((w.alloc (.cells #[.string (bs x.o.n), .int .i64 x.o.k, .string (bs x.o.d), .int .i64 x.o.m, .slice x.a x.o.l.length x.c] 55)).alloc (.cells #[.string { data := #[] }, .int .i64 0, .string { data := #[] }, .int .i64 0, .slice none 0 0] 55)).frozen? ⟨w.heap.size, i, none⟩ = false ∧ ((w.alloc (.cells #[.string (bs x.o.n), .int .i64 x.o.k, .string (bs x.o.d), .int .i64 x.o.m, .slice x.a x.o.l.length x.c] 55)).alloc (.cells #[.string { data := #[] }, .int .i64 0, .string { data := #[] }, .int .i64 0, .slice none 0 0] 55)).frozen? ⟨w.heap.size + 1, i, none⟩ = false := fun i => by
    refine ⟨?_, ?_⟩
    · have h1 : (w.alloc (.cells #[.string (bs x.o.n), .int .i64 x.o.k, .string (bs x.o.d), .int .i64 x.o.m, .slice x.a x.o.l.length x.c] 55)).frozen? ⟨w.heap.size, i, none⟩ = false := by simp
      exact ((Below.new _ _).frozen (p := ⟨w.heap.size, i, none⟩) (by simp)).trans h1
    · rw [← World.size_alloc w (.cells #[.string (bs x.o.n), .int .i64 x.o.k, .string (bs x.o.d), .int .i64 x.o.m, .slice x.a x.o.l.length x.c] 55)]
      simp
  have hz0 : ((w.alloc (.cells #[.string (bs x.o.n), .int .i64 x.o.k, .string (bs x.o.d), .int .i64 x.o.m, .slice x.a x.o.l.length x.c] 55)).alloc (.cells #[.string { data := #[] }, .int .i64 0, .string { data := #[] }, .int .i64 0, .slice none 0 0] 55)).heap.size = w.heap.size + 2 := by simp
  obtain ⟨W0, hW0⟩ : ∃ W0, ((w.alloc (.cells #[.string (bs x.o.n), .int .i64 x.o.k, .string (bs x.o.d), .int .i64 x.o.m, .slice x.a x.o.l.length x.c] 55)).alloc (.cells #[.string { data := #[] }, .int .i64 0, .string { data := #[] }, .int .i64 0, .slice none 0 0] 55)) = W0 := ⟨_, rfl⟩
  rw [hW0] at hB hO hZ hfr hz0
  have ha0 := cell_later hB ha
  have hn0 := cell_later hB hn
  have hF0 := boxed_more hF hB
  have HC := Lib.hid (Fi.Read_p (s := x.o.d) (o := a) (n := n) rfl rfl rfl (hs.more hB).et)
  have HX := Lib.hid (And.intro hB (And.intro hO (And.intro hZ (And.intro hfr (And.intro hz0 (And.intro (hx.more hB) (And.intro hF0 hF.lt)))))))
  have HL := Lib.hid (And.intro hx hxF)
  obtain ⟨x0, x1, x2, x3, x4⟩ := hO.var
  clear hB hO hZ hfr hz0 hs hx hF hF0 hxF
  go_enter Tryz.func65, Tryz.ntmps65
  go_wp2_with (go_at_call 66; refine HC.out.mono ?_)
  rintro e w1 ⟨rfl, hb1⟩
  clear hW0
  obtain ⟨d, hd⟩ : ∃ d, Fil.txt (Fil.readR x.o.d a n) = d := ⟨_, rfl⟩
  obtain ⟨c, hc⟩ : ∃ c, Fil.errR (Fil.readR x.o.d a n) = c := ⟨_, rfl⟩
  rw [hd, hc]
  have o1 := HX.out.2.1.more hb1
  have z1 := HX.out.2.2.1.more hb1
  have f1 : ∀ i, w1.frozen? ⟨w.heap.size + 1, i, none⟩ = false := fun i => (hb1.frozen (p := ⟨w.heap.size + 1, i, none⟩) (by have := HX.out.2.2.2.2.1; simp only; omega)).trans (HX.out.2.2.2.1 i).2
  have b1 := boxed_more HX.out.2.2.2.2.2.2.1 hb1
  have bk := below_more HX.out.1 hb1
  have hlF := HX.out.2.2.2.2.2.2.2
  have cF := b1.cell
  have fF := b1.frozen
  obtain ⟨x', hx'⟩ : ∃ x' : Ov, x' = x := ⟨_, rfl⟩
  have hcw : CW w (w1.setCell ⟨F, 0, none⟩ (.string (bs d))) F x' := by
    subst hx'
    refine ⟨o1.set (by omega), z1.set (by omega), fun i => setF (f1 i), ⟨bk.os, bk.tape, bk.output, Nat.le_trans bk.size (by simp [World.setCell]), fun k hk hX => (Below.heap_setCell _ _ _ _ (fun e => hX (by have : k = F := e; rw [this]))).trans (bk.block k hk)⟩, ?_, fun a ea hz => by have := HL.out.1.lt a ea hz; omega⟩
    exact (HL.out.1.more bk).keep fun b eb hz hlt => Below.heap_setCell _ _ _ _ (fun e => HL.out.2 b eb hz e)
  have b2 := b1.set (.string (bs d))
  obtain ⟨W2, hW2⟩ : ∃ W2, w1.setCell ⟨F, 0, none⟩ (.string (bs d)) = W2 := ⟨_, rfl⟩
  rw [hW2] at hcw b2
  have HCW := Lib.hid hcw
  have HB2 := Lib.hid (And.intro b2 (And.intro hx' (And.intro hd (And.intro hc hlF))))
  clear o1 z1 f1 b1 bk hcw b2 hd hc hb1 x0 x1 x2 x3 x4 hlF
  subst hx'
  obtain ⟨⟨v0, v1, v2, v3, v4⟩, u0, u1, u2, u3, u4⟩ := HCW.out.facts
  have k0 := HCW.out.f 0
  have k1 := HCW.out.f 1
  have k2 := HCW.out.f 2
  have k3 := HCW.out.f 3
  have k4 := HCW.out.f 4
  go_wp2
  have HF := HCW.out.fin
  have hG := fin5_block W2 (w.heap.size + 1) x' (k := F)
  unfold fin5 at HF hG
  generalize hWF : (((((W2.setCell ⟨w.heap.size + 1, 0, none⟩ (.string (bs x'.o.n))).setCell ⟨w.heap.size + 1, 1, none⟩ (.int .i64 x'.o.k)).setCell ⟨w.heap.size + 1, 2, none⟩ (.string (bs x'.o.d))).setCell ⟨w.heap.size + 1, 3, none⟩ (.int .i64 x'.o.m)).setCell ⟨w.heap.size + 1, 4, none⟩ (.slice x'.a x'.o.l.length x'.c)) = WF at HF hG ⊢
  obtain ⟨p0, p1, p2, p3, p4⟩ := HF.1.var
  refine bodyPost_ret (v := .tuple #[.agg #[.string (bs x'.o.n), .int .i64 x'.o.k, .string (bs x'.o.d), .int .i64 x'.o.m, .slice x'.a x'.o.l.length x'.c], .int .i64 c]) (by simp [results, Tryz.results65, go_sem, p0, p1, p2, p3, p4]) rfl ?_
  clear hWF
  obtain ⟨b2, _, hd, hc, hlF⟩ := HB2.out
  refine ⟨x', c, rfl, by rw [← hc]; exact (rd_code _ _ _).symm, fun _ => rfl, HF.2.2, HF.2.1, ?_, .inl ⟨rfl, rfl⟩⟩
  show Boxed WF F _ (.string (bs (Fil.txt (Fil.readR x'.o.d a n))))
  rw [hd]
  exact (hG (by omega)).trans b2


end Go.Proofs.YtnbpfbmhheimbaaGreatDoor

/- Put with an object. -/
namespace Go.Proofs.YtnbpfbmhheimbaaGreatDoor
open Go.RowKit Go.Proofs.Fld Go.Proofs.Rng Go.Proofs.Spc Go.Shelf Go.Sort

set_option maxRecDepth 100000 in
set_option maxHeartbeats 4000000 in
theorem put1_any {s : Sn} {x : Ov} {F : Nat} {Bi : Nat} {it : It} {w : World} (hi : w.cell? ⟨Bi, 0, none⟩ = some (.string (bs it))) (hil : it.length ≤ 100000) (hFl : F < w.heap.size) (hs : Ev s w) (hx : Lv w x) (hb : Bd x.o) :
    Calls Tryz.prog 71 #[.agg #[.string (bs x.o.n), .int .i64 x.o.k, .string (bs x.o.d), .int .i64 x.o.m, .slice x.a x.o.l.length x.c], .pointer (some ⟨Bi, 0, none⟩)] w (DoP (putF it) (fun _ _ => True) x F w) := by
  have hB : Below w.heap.size w ((w.alloc (.cells #[.string (bs x.o.n), .int .i64 x.o.k, .string (bs x.o.d), .int .i64 x.o.m, .slice x.a x.o.l.length x.c] 55)).alloc (.cells #[.string { data := #[] }, .int .i64 0, .string { data := #[] }, .int .i64 0, .slice none 0 0] 55)) := (Below.new w _).alloc (by simp) _
  have hO : ObAt ((w.alloc (.cells #[.string (bs x.o.n), .int .i64 x.o.k, .string (bs x.o.d), .int .i64 x.o.m, .slice x.a x.o.l.length x.c] 55)).alloc (.cells #[.string { data := #[] }, .int .i64 0, .string { data := #[] }, .int .i64 0, .slice none 0 0] 55)) w.heap.size 0 x := (ObAt.new w x _).more (Below.new _ _)
  have hZ : ObAt ((w.alloc (.cells #[.string (bs x.o.n), .int .i64 x.o.k, .string (bs x.o.d), .int .i64 x.o.m, .slice x.a x.o.l.length x.c] 55)).alloc (.cells #[.string { data := #[] }, .int .i64 0, .string { data := #[] }, .int .i64 0, .slice none 0 0] 55)) (w.heap.size + 1) 0 ⟨⟨[], 0, [], 0, []⟩, none, 0⟩ := by
    have := ObAt.new (w.alloc (.cells #[.string (bs x.o.n), .int .i64 x.o.k, .string (bs x.o.d), .int .i64 x.o.m, .slice x.a x.o.l.length x.c] 55)) ⟨⟨[], 0, [], 0, []⟩, none, 0⟩ 55
    rw [World.size_alloc] at this
    exact this
  have hfr : ∀ i, ((w.alloc (.cells #[.string (bs x.o.n), .int .i64 x.o.k, .string (bs x.o.d), .int .i64 x.o.m, .slice x.a x.o.l.length x.c] 55)).alloc (.cells #[.string { data := #[] }, .int .i64 0, .string { data := #[] }, .int .i64 0, .slice none 0 0] 55)).frozen? ⟨w.heap.size, i, none⟩ = false ∧ ((w.alloc (.cells #[.string (bs x.o.n), .int .i64 x.o.k, .string (bs x.o.d), .int .i64 x.o.m, .slice x.a x.o.l.length x.c] 55)).alloc (.cells #[.string { data := #[] }, .int .i64 0, .string { data := #[] }, .int .i64 0, .slice none 0 0] 55)).frozen? ⟨w.heap.size + 1, i, none⟩ = false := fun i => by
    refine ⟨?_, ?_⟩
    · have h1 : (w.alloc (.cells #[.string (bs x.o.n), .int .i64 x.o.k, .string (bs x.o.d), .int .i64 x.o.m, .slice x.a x.o.l.length x.c] 55)).frozen? ⟨w.heap.size, i, none⟩ = false := by simp
      exact ((Below.new _ _).frozen (p := ⟨w.heap.size, i, none⟩) (by simp)).trans h1
    · rw [← World.size_alloc w (.cells #[.string (bs x.o.n), .int .i64 x.o.k, .string (bs x.o.d), .int .i64 x.o.m, .slice x.a x.o.l.length x.c] 55)]
      simp
  have hz0 : ((w.alloc (.cells #[.string (bs x.o.n), .int .i64 x.o.k, .string (bs x.o.d), .int .i64 x.o.m, .slice x.a x.o.l.length x.c] 55)).alloc (.cells #[.string { data := #[] }, .int .i64 0, .string { data := #[] }, .int .i64 0, .slice none 0 0] 55)).heap.size = w.heap.size + 2 := by simp
  obtain ⟨W0, hW0⟩ : ∃ W0, ((w.alloc (.cells #[.string (bs x.o.n), .int .i64 x.o.k, .string (bs x.o.d), .int .i64 x.o.m, .slice x.a x.o.l.length x.c] 55)).alloc (.cells #[.string { data := #[] }, .int .i64 0, .string { data := #[] }, .int .i64 0, .slice none 0 0] 55)) = W0 := ⟨_, rfl⟩
  rw [hW0] at hB hO hZ hfr hz0
  have hi0 := cell_later hB hi
  have HC := Lib.hid (Put_q (s := s) (m := x.o.m) (zs := x.o.l) (x := it) (by omega) hb.len (by have := hb.t; omega) rfl rfl rfl rfl (hx.more hB).t (hs.more hB).sent)
  have HX := Lib.hid (And.intro hB (And.intro hO (And.intro hZ (And.intro hfr (And.intro hz0 hx)))))
  obtain ⟨x0, x1, x2, x3, x4⟩ := hO.var
  clear hB hO hZ hfr hz0 hs hx hb
  go_enter Tryz.func71, Tryz.ntmps71
  go_wp2_with (go_at_call 72; refine HC.out.mono ?_)
  rintro e w1 ⟨va, vc, rfl, ⟨hT, hO⟩, hb1⟩
  clear hW0
  obtain ⟨pm, hpm⟩ : ∃ pm, putM x.o.m x.o.l it = pm := ⟨_, rfl⟩
  obtain ⟨pl, hpl⟩ : ∃ pl, putL x.o.m x.o.l it = pl := ⟨_, rfl⟩
  obtain ⟨c, hc⟩ : ∃ c, errN (putE x.o.m x.o.l it) = c := ⟨_, rfl⟩
  rw [hpl] at hT hO
  rw [hpm, hpl, hc]
  have hN := Below.new w1 (.cells #[.int .i64 pm, .slice va pl.length vc] 53)
  have hR := R2.new w1 (.int .i64 pm) (.slice va pl.length vc) 53
  have hbN := below_more hb1 hN
  have hsz1 := hb1.size
  obtain ⟨W1, hW1⟩ : ∃ W1, w1.alloc (.cells #[.int .i64 pm, .slice va pl.length vc] 53) = W1 := ⟨_, rfl⟩
  rw [hW1] at hN hR hbN
  have hB := below_more HX.out.1 hbN
  have o1 := HX.out.2.1.more hbN
  have z1 := HX.out.2.2.1.more hbN
  have hz0 := HX.out.2.2.2.2.1
  have f1 : ∀ i, W1.frozen? ⟨w.heap.size, i, none⟩ = false ∧ W1.frozen? ⟨w.heap.size + 1, i, none⟩ = false := fun i => ⟨(hbN.frozen (p := ⟨w.heap.size, i, none⟩) (by simp only; omega)).trans (HX.out.2.2.2.1 i).1, (hbN.frozen (p := ⟨w.heap.size + 1, i, none⟩) (by simp only; omega)).trans (HX.out.2.2.2.1 i).2⟩
  have hT1 := hT.more hN
  have hge : ∀ b, va = some b → pl ≠ [] → W0.heap.size ≤ b.block := fun b eb hz => by
    rcases hO.2 with ⟨e', h0⟩ | ⟨g', cap, cur, e', hg, _⟩
    · exact absurd (List.eq_nil_of_length_eq_zero h0) hz
    · injection e' with e1
      rw [e1] at eb
      obtain rfl := Option.some.inj eb
      exact hg
  have HG := Lib.hid hge
  obtain ⟨x', hx'⟩ : ∃ x' : Ov, x' = ⟨⟨x.o.n, x.o.k, x.o.d, pm, pl⟩, va, vc⟩ := ⟨_, rfl⟩
  have key : ∀ V : World, (∀ k, k ≠ w.heap.size → k ≠ F → V.heap[k]? = W1.heap[k]?) → W1.heap.size ≤ V.heap.size → V.os = W1.os → V.tape = W1.tape → V.output = W1.output → F < w.heap.size → ObAt V w.heap.size 0 x' → CW w V F x' := by
    intro V hV hs ho ht hou hFl ho2
    subst hx'
    refine ⟨ho2, z1.of_block (hV _ (by omega) (by omega)), fun i => (World.frozen?_of_block (hV _ (by simp only; omega) (by simp only; omega))).trans (f1 i).2, ⟨ho.trans hB.os, ht.trans hB.tape, hou.trans hB.output, Nat.le_trans hB.size hs, fun k hk hX => (hV k (by omega) (fun e => hX (by rw [e]))).trans (hB.block k hk)⟩, ?_, fun b eb hz => by have := hge b eb hz; omega⟩
    refine Lv.keep (A := W1) ⟨hT1, HX.out.2.2.2.2.2.hn, HX.out.2.2.2.2.2.hd⟩ fun b eb hz hlt => hV _ ?_ ?_
    · have := hge b eb hz; omega
    · have := hge b eb hz; omega
  have g3 := (f1 3).1
  have g4 := (f1 4).1
  obtain ⟨y0, y1, y2, y3, y4⟩ := o1.var
  obtain ⟨r0, r1, _, _⟩ := hR

  have o2 : ObAt ((W1.setCell ⟨w.heap.size, 3, none⟩ (.int .i64 pm)).setCell ⟨w.heap.size, 4, none⟩ (.slice va pl.length vc)) w.heap.size 0 x' := by
    subst hx'
    exact ⟨setO (setO y0 (ne_off (by omega))) (ne_off (by omega)), setO (setO y1 (ne_off (by omega))) (ne_off (by omega)), setO (setO y2 (ne_off (by omega))) (ne_off (by omega)), setO (setS _ y3) (ne_off (by omega)), setS _ (setO y4 (ne_off (by omega)))⟩
  have hcw := key ((W1.setCell ⟨w.heap.size, 3, none⟩ (.int .i64 pm)).setCell ⟨w.heap.size, 4, none⟩ (.slice va pl.length vc)) (fun k h1 _ => (Below.heap_setCell _ _ _ _ (fun e => h1 e)).trans (Below.heap_setCell _ _ _ _ (fun e => h1 e))) (by simp [World.setCell]) rfl rfl rfl hFl o2
  obtain ⟨W2, hW2⟩ : ∃ W2, (W1.setCell ⟨w.heap.size, 3, none⟩ (.int .i64 pm)).setCell ⟨w.heap.size, 4, none⟩ (.slice va pl.length vc) = W2 := ⟨_, rfl⟩
  rw [hW2] at hcw
  have HCW := Lib.hid hcw
  have HE := Lib.hid (And.intro hx' (And.intro hpm (And.intro hpl hc)))
  have q3 : (.int .i64 pm : Value) = .int .i64 x'.o.m := by rw [hx']
  have q4 : (.slice va pl.length vc : Value) = .slice x'.a x'.o.l.length x'.c := by rw [hx']
  clear hT hO hN hbN hB o1 z1 hT1 hge key o2 hcw hx' hpm hpl hc hb1 hsz1 hz0 f1 x0 x1 x2 x3 x4 q3 q4
  obtain ⟨⟨v0, v1, v2, v3, v4⟩, u0, u1, u2, u3, u4⟩ := HCW.out.facts
  have k0 := HCW.out.f 0
  have k1 := HCW.out.f 1
  have k2 := HCW.out.f 2
  have k3 := HCW.out.f 3
  have k4 := HCW.out.f 4
  go_wp2
  have HF := HCW.out.fin
  have hG := fin5_block W2 (w.heap.size + 1) x' (k := F)
  unfold fin5 at HF hG
  generalize hWF : (((((W2.setCell ⟨w.heap.size + 1, 0, none⟩ (.string (bs x'.o.n))).setCell ⟨w.heap.size + 1, 1, none⟩ (.int .i64 x'.o.k)).setCell ⟨w.heap.size + 1, 2, none⟩ (.string (bs x'.o.d))).setCell ⟨w.heap.size + 1, 3, none⟩ (.int .i64 x'.o.m)).setCell ⟨w.heap.size + 1, 4, none⟩ (.slice x'.a x'.o.l.length x'.c)) = WF at HF hG ⊢
  obtain ⟨p0, p1, p2, p3, p4⟩ := HF.1.var
  refine bodyPost_ret (v := .tuple #[.agg #[.string (bs x'.o.n), .int .i64 x'.o.k, .string (bs x'.o.d), .int .i64 x'.o.m, .slice x'.a x'.o.l.length x'.c], .int .i64 c]) (by simp [results, Tryz.results71, go_sem, p0, p1, p2, p3, p4]) rfl ?_
  clear hWF
  obtain ⟨hx', hpm, hpl, hc⟩ := HE.out
  exact ⟨x', c, rfl, hc.symm, fun _ => by rw [hx', ← hpm, ← hpl]; rfl, HF.2.2, HF.2.1, trivial, .inr (fun a ea hz => by rw [hx'] at ea hz; have := HG.out a ea hz; have := HX.out.2.2.2.2.1; omega)⟩


end Go.Proofs.YtnbpfbmhheimbaaGreatDoor

/- Take with an object. -/
namespace Go.Proofs.YtnbpfbmhheimbaaGreatDoor
open Go.RowKit Go.Proofs.Fld Go.Proofs.Rng Go.Proofs.Spc Go.Shelf Go.Sort

set_option maxRecDepth 100000 in
set_option maxHeartbeats 4000000 in
theorem take1_any {s : Sn} {x : Ov} {F : Nat} {v00 : Value} {w : World} (hF : Boxed w F 9 v00) (hFl : F < w.heap.size) (hs : Ev s w) (hx : Lv w x) (hb : Bd x.o) :
    Calls Tryz.prog 75 #[.agg #[.string (bs x.o.n), .int .i64 x.o.k, .string (bs x.o.d), .int .i64 x.o.m, .slice x.a x.o.l.length x.c], .pointer (some ⟨F, 0, none⟩)] w (DoP tkF (fun o W => Boxed W F 9 (.string (bs (takeX o.m o.l)))) x F w) := by
  have hB : Below w.heap.size w ((w.alloc (.cells #[.string (bs x.o.n), .int .i64 x.o.k, .string (bs x.o.d), .int .i64 x.o.m, .slice x.a x.o.l.length x.c] 55)).alloc (.cells #[.string { data := #[] }, .int .i64 0, .string { data := #[] }, .int .i64 0, .slice none 0 0] 55)) := (Below.new w _).alloc (by simp) _
  have hO : ObAt ((w.alloc (.cells #[.string (bs x.o.n), .int .i64 x.o.k, .string (bs x.o.d), .int .i64 x.o.m, .slice x.a x.o.l.length x.c] 55)).alloc (.cells #[.string { data := #[] }, .int .i64 0, .string { data := #[] }, .int .i64 0, .slice none 0 0] 55)) w.heap.size 0 x := (ObAt.new w x _).more (Below.new _ _)
  have hZ : ObAt ((w.alloc (.cells #[.string (bs x.o.n), .int .i64 x.o.k, .string (bs x.o.d), .int .i64 x.o.m, .slice x.a x.o.l.length x.c] 55)).alloc (.cells #[.string { data := #[] }, .int .i64 0, .string { data := #[] }, .int .i64 0, .slice none 0 0] 55)) (w.heap.size + 1) 0 ⟨⟨[], 0, [], 0, []⟩, none, 0⟩ := by
    have := ObAt.new (w.alloc (.cells #[.string (bs x.o.n), .int .i64 x.o.k, .string (bs x.o.d), .int .i64 x.o.m, .slice x.a x.o.l.length x.c] 55)) ⟨⟨[], 0, [], 0, []⟩, none, 0⟩ 55
    rw [World.size_alloc] at this
    exact this
  have hfr : ∀ i, ((w.alloc (.cells #[.string (bs x.o.n), .int .i64 x.o.k, .string (bs x.o.d), .int .i64 x.o.m, .slice x.a x.o.l.length x.c] 55)).alloc (.cells #[.string { data := #[] }, .int .i64 0, .string { data := #[] }, .int .i64 0, .slice none 0 0] 55)).frozen? ⟨w.heap.size, i, none⟩ = false ∧ ((w.alloc (.cells #[.string (bs x.o.n), .int .i64 x.o.k, .string (bs x.o.d), .int .i64 x.o.m, .slice x.a x.o.l.length x.c] 55)).alloc (.cells #[.string { data := #[] }, .int .i64 0, .string { data := #[] }, .int .i64 0, .slice none 0 0] 55)).frozen? ⟨w.heap.size + 1, i, none⟩ = false := fun i => by
    refine ⟨?_, ?_⟩
    · have h1 : (w.alloc (.cells #[.string (bs x.o.n), .int .i64 x.o.k, .string (bs x.o.d), .int .i64 x.o.m, .slice x.a x.o.l.length x.c] 55)).frozen? ⟨w.heap.size, i, none⟩ = false := by simp
      exact ((Below.new _ _).frozen (p := ⟨w.heap.size, i, none⟩) (by simp)).trans h1
    · rw [← World.size_alloc w (.cells #[.string (bs x.o.n), .int .i64 x.o.k, .string (bs x.o.d), .int .i64 x.o.m, .slice x.a x.o.l.length x.c] 55)]
      simp
  have hz0 : ((w.alloc (.cells #[.string (bs x.o.n), .int .i64 x.o.k, .string (bs x.o.d), .int .i64 x.o.m, .slice x.a x.o.l.length x.c] 55)).alloc (.cells #[.string { data := #[] }, .int .i64 0, .string { data := #[] }, .int .i64 0, .slice none 0 0] 55)).heap.size = w.heap.size + 2 := by simp
  obtain ⟨W0, hW0⟩ : ∃ W0, ((w.alloc (.cells #[.string (bs x.o.n), .int .i64 x.o.k, .string (bs x.o.d), .int .i64 x.o.m, .slice x.a x.o.l.length x.c] 55)).alloc (.cells #[.string { data := #[] }, .int .i64 0, .string { data := #[] }, .int .i64 0, .slice none 0 0] 55)) = W0 := ⟨_, rfl⟩
  rw [hW0] at hB hO hZ hfr hz0
  have HC := Lib.hid (Take_q (s := s) (m := x.o.m) (zs := x.o.l) hb.len (by have := hb.t; omega) rfl rfl rfl rfl rfl (hx.more hB).t (hs.more hB).sent)
  have HX := Lib.hid (And.intro hB (And.intro hO (And.intro hZ (And.intro hfr (And.intro hz0 hx)))))
  obtain ⟨x0, x1, x2, x3, x4⟩ := hO.var
  clear hB hO hZ hfr hz0 hs hx hb
  go_enter Tryz.func75, Tryz.ntmps75
  go_wp2_with (go_at_call 76; refine HC.out.mono ?_)
  rintro e w1 ⟨va, vc, rfl, ⟨hT, hO⟩, hb1⟩
  clear hW0
  obtain ⟨pm, hpm⟩ : ∃ pm, takeM x.o.m x.o.l = pm := ⟨_, rfl⟩
  obtain ⟨pl, hpl⟩ : ∃ pl, takeL x.o.m x.o.l = pl := ⟨_, rfl⟩
  obtain ⟨c, hc⟩ : ∃ c, errN (takeE x.o.m x.o.l) = c := ⟨_, rfl⟩
  rw [hpl] at hT hO
  rw [hpm, hpl, hc]
  have hN := Below.new w1 (.cells #[.int .i64 pm, .slice va pl.length vc] 53)
  have hR := R2.new w1 (.int .i64 pm) (.slice va pl.length vc) 53
  have hbN := below_more hb1 hN
  have hsz1 := hb1.size
  obtain ⟨W1, hW1⟩ : ∃ W1, w1.alloc (.cells #[.int .i64 pm, .slice va pl.length vc] 53) = W1 := ⟨_, rfl⟩
  rw [hW1] at hN hR hbN
  have hB := below_more HX.out.1 hbN
  have o1 := HX.out.2.1.more hbN
  have z1 := HX.out.2.2.1.more hbN
  have hz0 := HX.out.2.2.2.2.1
  have f1 : ∀ i, W1.frozen? ⟨w.heap.size, i, none⟩ = false ∧ W1.frozen? ⟨w.heap.size + 1, i, none⟩ = false := fun i => ⟨(hbN.frozen (p := ⟨w.heap.size, i, none⟩) (by simp only; omega)).trans (HX.out.2.2.2.1 i).1, (hbN.frozen (p := ⟨w.heap.size + 1, i, none⟩) (by simp only; omega)).trans (HX.out.2.2.2.1 i).2⟩
  have hT1 := hT.more hN
  have hge : ∀ b, va = some b → pl ≠ [] → W0.heap.size ≤ b.block := fun b eb hz => by
    rcases hO.2 with ⟨e', h0⟩ | ⟨g', cap, cur, e', hg, _⟩
    · exact absurd (List.eq_nil_of_length_eq_zero h0) hz
    · injection e' with e1
      rw [e1] at eb
      obtain rfl := Option.some.inj eb
      exact hg
  have HG := Lib.hid hge
  obtain ⟨x', hx'⟩ : ∃ x' : Ov, x' = ⟨⟨x.o.n, x.o.k, x.o.d, pm, pl⟩, va, vc⟩ := ⟨_, rfl⟩
  have key : ∀ V : World, (∀ k, k ≠ w.heap.size → k ≠ F → V.heap[k]? = W1.heap[k]?) → W1.heap.size ≤ V.heap.size → V.os = W1.os → V.tape = W1.tape → V.output = W1.output → F < w.heap.size → ObAt V w.heap.size 0 x' → CW w V F x' := by
    intro V hV hs ho ht hou hFl ho2
    subst hx'
    refine ⟨ho2, z1.of_block (hV _ (by omega) (by omega)), fun i => (World.frozen?_of_block (hV _ (by simp only; omega) (by simp only; omega))).trans (f1 i).2, ⟨ho.trans hB.os, ht.trans hB.tape, hou.trans hB.output, Nat.le_trans hB.size hs, fun k hk hX => (hV k (by omega) (fun e => hX (by rw [e]))).trans (hB.block k hk)⟩, ?_, fun b eb hz => by have := hge b eb hz; omega⟩
    refine Lv.keep (A := W1) ⟨hT1, HX.out.2.2.2.2.2.hn, HX.out.2.2.2.2.2.hd⟩ fun b eb hz hlt => hV _ ?_ ?_
    · have := hge b eb hz; omega
    · have := hge b eb hz; omega
  have g3 := (f1 3).1
  have g4 := (f1 4).1
  obtain ⟨y0, y1, y2, y3, y4⟩ := o1.var
  obtain ⟨r0, r1, _, _⟩ := hR

  obtain ⟨it, hit⟩ : ∃ it, takeX x.o.m x.o.l = it := ⟨_, rfl⟩
  rw [hit]
  have bF := boxed_low hF hB hFl
  have cF := bF.cell
  have fF := bF.frozen
  have mk : ∀ (V : World), (V = ((W1.setCell ⟨F, 0, none⟩ (.string (bs it))).setCell ⟨w.heap.size, 3, none⟩ (.int .i64 pm)).setCell ⟨w.heap.size, 4, none⟩ (.slice va pl.length vc) ∨ V = ((W1.setCell ⟨w.heap.size, 3, none⟩ (.int .i64 pm)).setCell ⟨w.heap.size, 4, none⟩ (.slice va pl.length vc)).setCell ⟨F, 0, none⟩ (.string (bs it))) → CW w V F x' ∧ Boxed V F 9 (.string (bs it)) := by
    rintro V (rfl | rfl)
    · refine ⟨key _ (fun k h1 h2 => ((Below.heap_setCell _ _ _ _ (fun e => h1 e)).trans (Below.heap_setCell _ _ _ _ (fun e => h1 e))).trans (Below.heap_setCell _ _ _ _ (fun e => h2 e))) (by simp [World.setCell]) rfl rfl rfl hFl ?_, boxed_eq (bF.set (.string (bs it))) ((Below.heap_setCell _ _ _ _ (fun e => by have : F = w.heap.size := e; omega)).trans (Below.heap_setCell _ _ _ _ (fun e => by have : F = w.heap.size := e; omega)))⟩
      obtain ⟨y0, y1, y2, y3, y4⟩ := (ObAt.set (X := F) (v := .string (bs it)) o1 (by omega)).var
      subst hx'
      exact ⟨setO (setO y0 (ne_off (by omega))) (ne_off (by omega)), setO (setO y1 (ne_off (by omega))) (ne_off (by omega)), setO (setO y2 (ne_off (by omega))) (ne_off (by omega)), setO (setS _ y3) (ne_off (by omega)), setS _ (setO y4 (ne_off (by omega)))⟩
    · refine ⟨key _ (fun k h1 h2 => ((Below.heap_setCell _ _ _ _ (fun e => h2 e)).trans (Below.heap_setCell _ _ _ _ (fun e => h1 e))).trans (Below.heap_setCell _ _ _ _ (fun e => h1 e))) (by simp [World.setCell]) rfl rfl rfl hFl (ObAt.set ?_ (by omega)), (boxed_eq bF ((Below.heap_setCell _ _ _ _ (fun e => by have : F = w.heap.size := e; omega)).trans (Below.heap_setCell _ _ _ _ (fun e => by have : F = w.heap.size := e; omega)))).set (.string (bs it))⟩
      subst hx'
      exact ⟨setO (setO y0 (ne_off (by omega))) (ne_off (by omega)), setO (setO y1 (ne_off (by omega))) (ne_off (by omega)), setO (setO y2 (ne_off (by omega))) (ne_off (by omega)), setO (setS _ y3) (ne_off (by omega)), setS _ (setO y4 (ne_off (by omega)))⟩
  have HD := Lib.hid (And.intro mk hFl)
  have HE := Lib.hid (And.intro hx' (And.intro hpm (And.intro hpl (And.intro hc hit))))
  have hneF : w.heap.size ≠ F := by omega
  have hneF1 : w1.heap.size ≠ F := by omega
  have hneW : w1.heap.size ≠ w.heap.size := by omega
  obtain ⟨rr0, rr1⟩ : W1.cell? ⟨w1.heap.size, 0, none⟩ = some (.int .i64 pm) ∧ W1.cell? ⟨w1.heap.size, 1, none⟩ = some (.slice va pl.length vc) := ⟨r0, r1⟩
  have t0 := setO (v := .int .i64 pm) (b := ⟨F, 0, none⟩) (x := .string (bs it)) rr0 (ne_blk (Ne.symm hneF1))
  have t1 := setO (v := .slice va pl.length vc) (b := ⟨F, 0, none⟩) (x := .string (bs it)) rr1 (ne_blk (Ne.symm hneF1))
  clear hT hO hN hbN hB o1 z1 hT1 hge key hx' hpm hpl hc hb1 hsz1 hz0 f1 x0 x1 x2 x3 x4 mk hit bF hF y0 y1 y2
  go_wp2
  go_region
  obtain ⟨hcw, hbx⟩ := HD.out.1 _ (.inl rfl)
  have hcw := hcw.drew
  have hbx := boxed_more hbx (Below.refl _ _).drew
  obtain ⟨W2, hW2⟩ : ∃ W2, (((W1.setCell ⟨F, 0, none⟩ (.string (bs it))).setCell ⟨w.heap.size, 3, none⟩ (.int .i64 pm)).setCell ⟨w.heap.size, 4, none⟩ (.slice va pl.length vc)).drew = W2 := ⟨_, rfl⟩
  rw [hW2] at hcw hbx ⊢
  have HCW := Lib.hid hcw
  have HBX := Lib.hid hbx
  clear hcw hbx hW2 cF fF g3 g4 y3 y4 r0 r1 rr0 rr1 t0 t1 hW1
  obtain ⟨⟨v0, v1, v2, v3, v4⟩, u0, u1, u2, u3, u4⟩ := HCW.out.facts
  have k0 := HCW.out.f 0
  have k1 := HCW.out.f 1
  have k2 := HCW.out.f 2
  have k3 := HCW.out.f 3
  have k4 := HCW.out.f 4
  go_wp2
  have HF := HCW.out.fin
  have hG := fin5_block W2 (w.heap.size + 1) x' (k := F)
  unfold fin5 at HF hG
  generalize hWF : (((((W2.setCell ⟨w.heap.size + 1, 0, none⟩ (.string (bs x'.o.n))).setCell ⟨w.heap.size + 1, 1, none⟩ (.int .i64 x'.o.k)).setCell ⟨w.heap.size + 1, 2, none⟩ (.string (bs x'.o.d))).setCell ⟨w.heap.size + 1, 3, none⟩ (.int .i64 x'.o.m)).setCell ⟨w.heap.size + 1, 4, none⟩ (.slice x'.a x'.o.l.length x'.c)) = WF at HF hG ⊢
  obtain ⟨p0, p1, p2, p3, p4⟩ := HF.1.var
  refine bodyPost_ret (v := .tuple #[.agg #[.string (bs x'.o.n), .int .i64 x'.o.k, .string (bs x'.o.d), .int .i64 x'.o.m, .slice x'.a x'.o.l.length x'.c], .int .i64 c]) (by simp [results, Tryz.results75, go_sem, p0, p1, p2, p3, p4]) rfl ?_
  clear hWF
  obtain ⟨hx', hpm, hpl, hc, hit⟩ := HE.out
  refine ⟨x', c, rfl, hc.symm, fun _ => by rw [hx', ← hpm, ← hpl]; rfl, HF.2.2, HF.2.1, ?_, .inr (fun a ea hz => by rw [hx'] at ea hz; have := HG.out a ea hz; have := HX.out.2.2.2.2.1; omega)⟩
  show Boxed WF F _ (.string (bs (takeX x.o.m x.o.l)))
  rw [hit]
  exact (hG (by have := HD.out.2; omega)).trans HBX.out


end Go.Proofs.YtnbpfbmhheimbaaGreatDoor
