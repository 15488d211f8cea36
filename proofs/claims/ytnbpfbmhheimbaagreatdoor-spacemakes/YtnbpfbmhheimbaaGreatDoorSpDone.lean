/- done: what is done with the object of a name. -/
import Derived.Test.YtnbpfbmhheimbaaGreatDoorSpC
namespace Go.Proofs.Spc
open Go.Proofs.Rng
/-- The object that is reached. -/
def reach (l : List Ob) (n : It) (k : Int) : Option Ob := if rightB l = false then none else match l[findN l n]? with
  | none => none
  | some o => if o.k ≠ k then none else some o
theorem seen_reach {α : Type} (l : List Ob) (n : It) (k : Int) (z : α) (f : Ob → α) : seenR l n k z f = match reach l n k with
    | none => z
    | some o => f o := by
  unfold seenR reach
  by_cases h : rightB l = false
  · rw [if_pos h, if_pos h]
  · rw [if_neg h, if_neg h]
    cases l[findN l n]? with
    | none => rfl
    | some o =>
      simp only
      by_cases hk : o.k ≠ k
      · rw [if_pos hk, if_pos hk]
      · rw [if_neg hk, if_neg hk]
theorem done_bad {l : List Ob} {n : It} {k : Int} {f : Ob → Int × Ob} (h : rightB l = false) : (doneR l n k f).1 = 110 ∧ reach l n k = none := by
  unfold doneR reach
  rw [if_pos h, if_pos h]
  exact ⟨rfl, rfl⟩
theorem done_none {l : List Ob} {n : It} {k : Int} {f : Ob → Int × Ob} (h : rightB l = true) (h2 : findN l n = l.length) : (doneR l n k f).1 = 102 ∧ reach l n k = none := by
  have e : l[findN l n]? = none := by rw [h2]; simp
  unfold doneR reach
  rw [if_neg (by simp [h]), if_neg (by simp [h]), e]
  exact ⟨rfl, rfl⟩
theorem done_kind {l : List Ob} {n : It} {k : Int} {f : Ob → Int × Ob} {o : Ob} (h : rightB l = true) (h2 : l[findN l n]? = some o) (h3 : o.k ≠ k) : (doneR l n k f).1 = 103 ∧ reach l n k = none := by
  unfold doneR reach
  rw [if_neg (by simp [h]), if_neg (by simp [h]), h2]
  simp only
  rw [if_pos h3, if_pos h3]
  exact ⟨rfl, rfl⟩
theorem done_err {l : List Ob} {n : It} {k : Int} {f : Ob → Int × Ob} {o : Ob} (h : rightB l = true) (h2 : l[findN l n]? = some o) (h3 : o.k = k) (h4 : (f o).1 ≠ 0) : (doneR l n k f).1 = (f o).1 ∧ reach l n k = some o := by
  unfold doneR reach
  rw [if_neg (by simp [h]), if_neg (by simp [h]), h2]
  simp only
  rw [if_neg (fun q : o.k ≠ k => q h3), if_neg (fun q : o.k ≠ k => q h3), if_pos h4]
  exact ⟨rfl, rfl⟩
theorem done_good {l : List Ob} {n : It} {k : Int} {f : Ob → Int × Ob} {o : Ob} (h : rightB l = true) (h2 : l[findN l n]? = some o) (h3 : o.k = k) (h4 : (f o).1 = 0) : doneR l n k f = (0, findN l n, (f o).2) ∧ reach l n k = some o := by
  unfold doneR reach
  rw [if_neg (by simp [h]), if_neg (by simp [h]), h2]
  simp only
  rw [if_neg (fun q : o.k ≠ k => q h3), if_neg (fun q : o.k ≠ k => q h3), if_neg (fun q : (f o).1 ≠ 0 => q h4)]
  exact ⟨rfl, rfl⟩
end Go.Proofs.Spc
namespace Go.Proofs.YtnbpfbmhheimbaaGreatDoor
open Go.RowKit Go.Proofs.Fld Go.Proofs.Rng Go.Proofs.Spc Go.Shelf Go.Sort

/-- What done tells. -/
def DnP (f : Ob → Int × Ob) (G : Ob → World → Prop) (F : Nat) (l : List Ob) (n : It) (k : Int) (w : World) (e : Ending) (w' : World) : Prop :=
  ∃ x' : Ov, ∃ c : Int, ∃ p : Nat, ∃ v : Value, e = .returned (.tuple #[.int .i64 (p : Int), .agg #[.string (bs x'.o.n), .int .i64 x'.o.k, .string (bs x'.o.d), .int .i64 x'.o.m, .slice x'.a x'.o.l.length x'.c], v]) ∧ ((c = 0 ∧ v = .nilIface) ∨ (c ≠ 0 ∧ ∃ t u, v = .iface t u ∧ Sp.ErrIs (.iface t u) c)) ∧ c = (doneR l n k f).1 ∧ (c = 0 → p = (doneR l n k f).2.1 ∧ x'.o = (doneR l n k f).2.2 ∧ Lv w' x') ∧ (∀ o, reach l n k = some o → G o w') ∧ (reach l n k = none → Below w.heap.size w w') ∧ KA F w w'
def finZ (W2 : World) (b : Nat) : World := ((((W2.setCell ⟨b, 0, none⟩ (.string { data := #[] })).setCell ⟨b, 1, none⟩ (.int .i64 0)).setCell ⟨b, 2, none⟩ (.string { data := #[] })).setCell ⟨b, 3, none⟩ (.int .i64 0)).setCell ⟨b, 4, none⟩ (.slice none 0 0)
def noX : Ov := ⟨⟨[], 0, [], 0, []⟩, none, 0⟩
theorem KA.heap {X b : Nat} {A B : World} (h : KA X A B) (hb : b < A.heap.size) (hne : b ≠ X) : B.heap[b]? = A.heap[b]? := h.block b hb (fun e => hne (by cases e; rfl))
theorem Ed.ka {A B : World} {b X : Nat} {ao : Option Addr} {len cap : Nat} {nm : It} {q : Int} (h : Ed A b ao len cap nm q) (k : KA X A B) (hne : b ≠ X) : Ed B b ao len cap nm q := by
  have e := k.heap (World.block_lt_of_cell? A _ h.1) hne
  exact ⟨(World.cell?_of_block (a := ⟨b, 0, none⟩) e).trans h.1, (World.cell?_of_block (a := ⟨b, 1, none⟩) e).trans h.2.1, (World.cell?_of_block (a := ⟨b, 2, none⟩) e).trans h.2.2⟩
theorem finZ_block (W2 : World) (b : Nat) {k : Nat} (h : k ≠ b) : (finZ W2 b).heap[k]? = W2.heap[k]? := fin5_block W2 b noX h
theorem zero_facts {w W2 : World} (h : ObAt W2 (w.heap.size + 1) 0 noX) (hb : Below w.heap.size w W2) : (W2.cell? ⟨w.heap.size + 1, 0, none⟩ = some (.string { data := #[] }) ∧ W2.cell? ⟨w.heap.size + 1, 1, none⟩ = some (.int .i64 0) ∧ W2.cell? ⟨w.heap.size + 1, 2, none⟩ = some (.string { data := #[] }) ∧ W2.cell? ⟨w.heap.size + 1, 3, none⟩ = some (.int .i64 0) ∧ W2.cell? ⟨w.heap.size + 1, 4, none⟩ = some (.slice none 0 0)) ∧
    ((finZ W2 (w.heap.size + 1)).cell? ⟨w.heap.size + 1, 0, none⟩ = some (.string { data := #[] }) ∧ (finZ W2 (w.heap.size + 1)).cell? ⟨w.heap.size + 1, 1, none⟩ = some (.int .i64 0) ∧ (finZ W2 (w.heap.size + 1)).cell? ⟨w.heap.size + 1, 2, none⟩ = some (.string { data := #[] }) ∧ (finZ W2 (w.heap.size + 1)).cell? ⟨w.heap.size + 1, 3, none⟩ = some (.int .i64 0) ∧ (finZ W2 (w.heap.size + 1)).cell? ⟨w.heap.size + 1, 4, none⟩ = some (.slice none 0 0)) ∧ Below w.heap.size w (finZ W2 (w.heap.size + 1)) :=
  ⟨h.var, (obat_set (x := noX) h).var, ((((hb.setCell (p := ⟨w.heap.size + 1, 0, none⟩) (by simp) _).setCell (p := ⟨w.heap.size + 1, 1, none⟩) (by simp) _).setCell (p := ⟨w.heap.size + 1, 2, none⟩) (by simp) _).setCell (p := ⟨w.heap.size + 1, 3, none⟩) (by simp) _).setCell (p := ⟨w.heap.size + 1, 4, none⟩) (by simp) _⟩
theorem dn_err {f : Ob → Int × Ob} {G : Ob → World → Prop} {F : Nat} {l : List Ob} {n : It} {k : Int} {w w' : World} {c : Int} {t : TypeId} {u : Value} (hc : c ≠ 0) (hv : Sp.ErrIs (.iface t u) c) (hd : (doneR l n k f).1 = c) (hr : reach l n k = none) (hb : Below w.heap.size w w') : DnP f G F l n k w (.returned (.tuple #[.int .i64 0, .agg #[.string { data := #[] }, .int .i64 0, .string { data := #[] }, .int .i64 0, .slice none 0 0], .iface t u])) w' :=
  ⟨noX, c, 0, .iface t u, rfl, .inr ⟨hc, t, u, rfl, hv⟩, hd.symm, fun h => absurd h hc, fun o h => (by rw [hr] at h; cases h), fun _ => hb, KA.of_below hb⟩

set_option maxRecDepth 100000 in
set_option maxHeartbeats 4000000 in
theorem done_any {s : Sn} {f : Ob → Int × Ob} {G : Ob → World → Prop} {FN F : Nat} {cs : Array Value} {ao : Option Addr} {len cap : Nat} {nm : It} {q k : Int} {zs : List Ov} {w : World} (eg : ∀ args W, (callFunc FN args).run Tryz.prog W = .ok (.enter FN args) W) (hG : ∀ o A B, G o A → B.heap[F]? = A.heap[F]? → G o B) (hFl : F < w.heap.size)
    (hdo : ∀ x ∈ zs, ∀ W, Below w.heap.size w W → Ev s W → Lv W x → Calls Tryz.prog FN (#[.agg #[.string (bs x.o.n), .int .i64 x.o.k, .string (bs x.o.d), .int .i64 x.o.m, .slice x.a x.o.l.length x.c]] ++ cs) W (DoP f G x F W))
    (hreach : len ≤ 100000) (hbd : ∀ x ∈ zs, Bd x.o) (hs : Ev s w) (hL : Objs w ao len cap zs) :
    Calls Tryz.prog 64 #[.agg #[.slice ao len cap, .string (bs nm), .int .i64 q], .int .i64 k, .func (.func FN) #[] cs] w (DnP f G F (obs zs) nm k w) := by
  have hB1 := Below.new w (.cells #[.slice ao len cap, .string (bs nm), .int .i64 q] 73)
  have hN := Below.new (w.alloc (.cells #[.slice ao len cap, .string (bs nm), .int .i64 q] 73)) (.cells #[.string { data := #[] }, .int .i64 0, .string { data := #[] }, .int .i64 0, .slice none 0 0] 55)
  have hB := below_more hB1 hN
  have hE := (Ed.new w ao len cap nm q).more hN
  have hZ := ObAt.new (w.alloc (.cells #[.slice ao len cap, .string (bs nm), .int .i64 q] 73)) noX 55
  rw [World.size_alloc] at hZ
  have hfr : ∀ i, ((w.alloc (.cells #[.slice ao len cap, .string (bs nm), .int .i64 q] 73)).alloc (.cells #[.string { data := #[] }, .int .i64 0, .string { data := #[] }, .int .i64 0, .slice none 0 0] 55)).frozen? ⟨w.heap.size + 1, i, none⟩ = false := fun i => by
    rw [← World.size_alloc w (.cells #[.slice ao len cap, .string (bs nm), .int .i64 q] 73)]
    simp
  have hz0 : ((w.alloc (.cells #[.slice ao len cap, .string (bs nm), .int .i64 q] 73)).alloc (.cells #[.string { data := #[] }, .int .i64 0, .string { data := #[] }, .int .i64 0, .slice none 0 0] 55)).heap.size = w.heap.size + 2 := by simp
  obtain ⟨W0, hW0⟩ : ∃ W0, (w.alloc (.cells #[.slice ao len cap, .string (bs nm), .int .i64 q] 73)).alloc (.cells #[.string { data := #[] }, .int .i64 0, .string { data := #[] }, .int .i64 0, .slice none 0 0] 55) = W0 := ⟨_, rfl⟩
  change ObAt ((w.alloc (.cells #[.slice ao len cap, .string (bs nm), .int .i64 q] 73)).alloc (.cells #[.string { data := #[] }, .int .i64 0, .string { data := #[] }, .int .i64 0, .slice none 0 0] 55)) (w.heap.size + 1) 0 noX at hZ
  rw [hW0] at hB hE hZ hfr hz0
  have HE := Lib.hid (And.intro hB (And.intro hE (And.intro hZ (And.intro hfr (And.intro hz0 (And.intro (hL.more hB) (And.intro (hs.more hB) hbd)))))))
  have HLN := Lib.hid hL.hlen
  have HRW := Lib.hid hL.hrows
  have HDO := Lib.hid (And.intro hdo hG)
  have HP := Lib.hid (place_any (nm := nm) (q := q) hreach hbd (hs.more hB) (hL.more hB))
  obtain ⟨pc, hpc⟩ : ∃ c, stC (obs zs) nm = c := ⟨_, rfl⟩
  obtain ⟨p, hp⟩ : ∃ p, findN (obs zs) nm = p := ⟨_, rfl⟩
  have HCP := Lib.hid (And.intro hpc hp)
  rw [hpc, hp] at HP
  obtain ⟨e0, e1, e2⟩ := hE
  clear hL hB hB1 hN hZ hfr hz0 hs hbd hdo hG hpc hp
  go_enter Tryz.func64, Tryz.ntmps64
  go_wp2_with (go_at_call 92; refine HP.out.mono ?_)
  rintro e w1 ⟨⟨rfl, rfl⟩ | ⟨hc, t, u, rfl, hv⟩, hb1⟩
  · obtain ⟨z1, z2, _⟩ := stC_zero HCP.out.1
    rw [HCP.out.2, obs_length, HLN.out] at z2
    obtain ⟨x, hx⟩ : ∃ x, zs[p]? = some x := ⟨_, List.getElem?_eq_getElem (by rw [HLN.out]; exact z2)⟩
    have HX := Lib.hid (And.intro z1 (show (obs zs)[findN (obs zs) nm]? = some x.o by rw [HCP.out.2]; exact obs_get hx))
    have L1 := HE.out.2.2.2.2.2.1.more hb1
    obtain ⟨b, off, rfl, hbl, hcs⟩ := L1.at (by omega)
    obtain ⟨q0, q1, q2, q3, q4⟩ := hcs p x hx
    have hlv := L1.row hx
    obtain ⟨f0, f1, f2⟩ := HE.out.2.1.more hb1
    have hN2 := Below.new w1 (.cells #[.string (bs x.o.n), .int .i64 x.o.k, .string (bs x.o.d), .int .i64 x.o.m, .slice x.a x.o.l.length x.c] 55)
    have hO2 := ObAt.new w1 x 55
    have hbN := below_more hb1 hN2
    obtain ⟨W2, hW2⟩ : ∃ W2, w1.alloc (.cells #[.string (bs x.o.n), .int .i64 x.o.k, .string (bs x.o.d), .int .i64 x.o.m, .slice x.a x.o.l.length x.c] 55) = W2 := ⟨_, rfl⟩
    rw [hW2] at hN2 hO2 hbN
    have B2 := Lib.hid (And.intro (below_more HE.out.1 hbN) (And.intro (HE.out.2.1.more hbN) (And.intro (HE.out.2.2.1.more hbN) (And.intro (show ∀ i, W2.frozen? ⟨w.heap.size + 1, i, none⟩ = false from fun i => (hbN.frozen (p := ⟨w.heap.size + 1, i, none⟩) (by have := HE.out.2.2.2.2.1; simp only; omega)).trans (HE.out.2.2.2.1 i)) (And.intro (hlv.more hN2) (HE.out.2.2.2.2.2.2.1.more hbN))))))
    have HM := Lib.hid (List.mem_of_getElem? hx)
    have hszW := hbN.size
    have hzW := HE.out.2.2.2.2.1
    have hlt : p < len := z2
    obtain ⟨o0, o1, o2, o3, o4⟩ := hO2.var
    clear z1 hx L1 hcs hlv hN2 hbN hb1 e0 e1 e2
    by_cases hk : x.o.k = k
    · have HK := Lib.hid hk
      have hk2 : (x.o.k != k) = false := by rw [bne, beq_iff_eq.2 hk]; rfl
      have HDC := Lib.hid (HDO.out.1 x HM.out W2 B2.out.1 B2.out.2.2.2.2.2 B2.out.2.2.2.2.1)
      clear hk
      go_wp2
      refine HDC.out.mono ?_
      rintro e w3 ⟨x', c, rfl, hc, hxo, hlv, hka, hg, hrow⟩
      have hN4 := Below.new w3 (.cells #[.string (bs x'.o.n), .int .i64 x'.o.k, .string (bs x'.o.d), .int .i64 x'.o.m, .slice x'.a x'.o.l.length x'.c] 55)
      have hO4 := ObAt.new w3 x' 55
      have hk3 : KA F w w3 := (KA.of_below B2.out.1).trans hka
      have hE4 := (B2.out.2.1.ka hka (by omega)).more hN4
      have hz3 := hka.heap (b := w.heap.size + 1) (by omega) (by omega)
      have hZ4 := (B2.out.2.2.1.of_block hz3).more hN4
      have hs3 := hka.size
      have hf4 : ∀ i, (w3.alloc (.cells #[.string (bs x'.o.n), .int .i64 x'.o.k, .string (bs x'.o.d), .int .i64 x'.o.m, .slice x'.a x'.o.l.length x'.c] 55)).frozen? ⟨w.heap.size + 1, i, none⟩ = false := fun i => (hN4.frozen (p := ⟨w.heap.size + 1, i, none⟩) (by simp only; omega)).trans ((World.frozen?_of_block hz3).trans (B2.out.2.2.2.1 i))
      have hgF : (w3.alloc (.cells #[.string (bs x'.o.n), .int .i64 x'.o.k, .string (bs x'.o.d), .int .i64 x'.o.m, .slice x'.a x'.o.l.length x'.c] 55)).heap[F]? = w3.heap[F]? := hN4.block F (by omega)
      have hl4 := hlv.more hN4
      have hk4 := hk3.trans (KA.of_below hN4)
      have hz4 : (w3.alloc (.cells #[.string (bs x'.o.n), .int .i64 x'.o.k, .string (bs x'.o.d), .int .i64 x'.o.m, .slice x'.a x'.o.l.length x'.c] 55)).heap.size = w3.heap.size + 1 := by simp
      obtain ⟨W4, hW4⟩ : ∃ W4, w3.alloc (.cells #[.string (bs x'.o.n), .int .i64 x'.o.k, .string (bs x'.o.d), .int .i64 x'.o.m, .slice x'.a x'.o.l.length x'.c] 55) = W4 := ⟨_, rfl⟩
      rw [hW4] at hO4 hE4 hZ4 hf4 hgF hl4 hk4 hz4
      have H4 := Lib.hid (And.intro hE4 (And.intro hZ4 (And.intro hf4 (And.intro hl4 (And.intro hk4 (HDO.out.2 _ _ _ hg hgF))))))
      have HCX := Lib.hid (And.intro hc hxo)
      have HRX := Lib.hid (show ∀ a, x'.a = some a → x'.o.l ≠ [] → a.block ≠ w.heap.size + 1 from fun a ea hz => by
        rcases hrow with ⟨r1, r2⟩ | hr
        · have := (HRW.out x HM.out).lt a (r1 ▸ ea) (r2 ▸ hz); omega
        · have := hr a ea hz; omega)
      clear hrow
      obtain ⟨g0, g1, g2⟩ := hE4
      by_cases hc0 : c = 0
      · subst hc0
        obtain ⟨hdn, hrn⟩ := done_good (f := f) HX.out.1 HX.out.2 HK.out HCX.out.1.symm
        have HDN := Lib.hid (And.intro hdn hrn)
        obtain ⟨v0, v1, v2, v3, v4⟩ := hO4.var
        obtain ⟨y0, y1, y2, y3, y4⟩ := H4.out.2.1.var
        have k0 := H4.out.2.2.1 0
        have k1 := H4.out.2.2.1 1
        have k2 := H4.out.2.2.1 2
        have k3 := H4.out.2.2.1 3
        have k4 := H4.out.2.2.1 4
        have HF := Lib.hid (And.intro (obat_set (x := x') H4.out.2.1) (And.intro (fun k h => fin5_block W4 (w.heap.size + 1) x' (k := k) h) (show KA F w (fin5 W4 (w.heap.size + 1) x') from ((((H4.out.2.2.2.2.1.set (by omega)).set (by omega)).set (by omega)).set (by omega)).set (by omega))))
        unfold fin5 at HF
        clear hc hxo hlv hka hg hN4 hk3 hz3 hZ4 hf4 hgF hl4 hk4 hdn hrn hO4 hs3
        go_wp2
        go_region
        all_goals go_wp2
        generalize hWF : ((((W4.setCell ⟨w.heap.size + 1, 0, none⟩ (.string (bs x'.o.n))).setCell ⟨w.heap.size + 1, 1, none⟩ (.int .i64 x'.o.k)).setCell ⟨w.heap.size + 1, 2, none⟩ (.string (bs x'.o.d))).setCell ⟨w.heap.size + 1, 3, none⟩ (.int .i64 x'.o.m)).setCell ⟨w.heap.size + 1, 4, none⟩ (.slice x'.a x'.o.l.length x'.c) = WF at HF ⊢
        obtain ⟨hoF, hbk, hkf⟩ := HF.out
        obtain ⟨p0, p1, p2, p3, p4⟩ := hoF.var
        have hD := (Below.refl WF.heap.size WF).drew
        refine bodyPost_ret (v := .tuple #[.int .i64 (p : Int), .agg #[.string (bs x'.o.n), .int .i64 x'.o.k, .string (bs x'.o.d), .int .i64 x'.o.m, .slice x'.a x'.o.l.length x'.c], .nilIface]) (by simp [results, Tryz.results64, go_sem, p0, p1, p2, p3, p4]) rfl ?_
        refine ⟨x', 0, p, .nilIface, rfl, .inl ⟨rfl, rfl⟩, by rw [HDN.out.1], fun _ => ⟨by rw [HDN.out.1]; exact HCP.out.2.symm, by rw [HDN.out.1]; exact HCX.out.2 trivial, ?_⟩, fun o ho => (by rw [HDN.out.2] at ho; obtain rfl := Option.some.inj ho; exact HDO.out.2 _ _ _ H4.out.2.2.2.2.2 ((hD.block F (by have := hkf.size; omega)).trans (hbk F (by omega)))), fun h => (by rw [HDN.out.2] at h; cases h), hkf.trans (KA.of_below hD)⟩
        exact (Lv.keep H4.out.2.2.2.1 fun a ea hz _ => hbk _ (HRX.out a ea hz)).more hD
      · have HC0 := Lib.hid hc0
        have hne : (c != 0) = true := by rw [bne, beq_eq_false_iff_ne.2 hc0]; rfl
        have hne2 : ¬ c = 0 := hc0
        have HDN := Lib.hid (done_err (f := f) HX.out.1 HX.out.2 HK.out (by rw [← HCX.out.1]; exact hc0))
        clear hc hxo hlv hka hg hN4 hk3 hz3 hZ4 hf4 hgF hl4 hk4 hO4 hc0
        go_wp2_with (go_at_call 87; refine (refuse_any (some ⟨b, off, none⟩) len cap nm q c _ W4).mono ?_)
        rintro e W5 ⟨rfl, hb5⟩
        obtain ⟨y0, y1, y2, y3, y4⟩ := (H4.out.2.1.more hb5).var
        have hf5 : ∀ i, W5.frozen? ⟨w.heap.size + 1, i, none⟩ = false := fun i => (hb5.frozen (p := ⟨w.heap.size + 1, i, none⟩) (by simp only; omega)).trans (H4.out.2.2.1 i)
        have k0 := hf5 0
        have k1 := hf5 1
        have k2 := hf5 2
        have k3 := hf5 3
        have k4 := hf5 4
        have hka5 : KA F w W5 := H4.out.2.2.2.2.1.trans (KA.of_below hb5)
        have HF := Lib.hid (And.intro (obat_set (x := noX) (H4.out.2.1.more hb5)) (And.intro (show KA F w (finZ W5 (w.heap.size + 1)) from ((((hka5.set (by omega)).set (by omega)).set (by omega)).set (by omega)).set (by omega)) ((finZ_block W5 (w.heap.size + 1) (k := F) (by omega)).trans (hb5.block F (by omega)))))
        unfold finZ at HF
        clear hb5 hf5 hka5 g0 g1 g2 hs3
        go_wp2
        change Hid (ObAt (((((W5.setCell ⟨w.heap.size + 1, 0, none⟩ (.string { data := #[] })).setCell ⟨w.heap.size + 1, 1, none⟩ (.int .i64 0)).setCell ⟨w.heap.size + 1, 2, none⟩ (.string { data := #[] })).setCell ⟨w.heap.size + 1, 3, none⟩ (.int .i64 0)).setCell ⟨w.heap.size + 1, 4, none⟩ (.slice none 0 0)) _ _ _ ∧ _) at HF
        generalize hWF : (((((W5.setCell ⟨w.heap.size + 1, 0, none⟩ (.string { data := #[] })).setCell ⟨w.heap.size + 1, 1, none⟩ (.int .i64 0)).setCell ⟨w.heap.size + 1, 2, none⟩ (.string { data := #[] })).setCell ⟨w.heap.size + 1, 3, none⟩ (.int .i64 0)).setCell ⟨w.heap.size + 1, 4, none⟩ (.slice none 0 0)) = WF at HF ⊢
        obtain ⟨⟨p0, p1, p2, p3, p4⟩, hkf, hgf⟩ := HF.out
        refine bodyPost_ret (v := .tuple #[.int .i64 0, .agg #[.string { data := #[] }, .int .i64 0, .string { data := #[] }, .int .i64 0, .slice none 0 0], .iface _ _]) (by simp [results, Tryz.results64, go_sem, show WF.cell? ⟨w.heap.size + 1, 0, none⟩ = some (.string { data := #[] }) from p0, show WF.cell? ⟨w.heap.size + 1, 1, none⟩ = some (.int .i64 0) from p1, show WF.cell? ⟨w.heap.size + 1, 2, none⟩ = some (.string { data := #[] }) from p2, show WF.cell? ⟨w.heap.size + 1, 3, none⟩ = some (.int .i64 0) from p3, show WF.cell? ⟨w.heap.size + 1, 4, none⟩ = some (.slice none 0 0) from p4]; exact ⟨rfl, rfl⟩) rfl ?_
        exact ⟨noX, c, 0, _, rfl, .inr ⟨HC0.out, _, _, rfl, abt_is _ _ _⟩, by rw [HDN.out.1]; exact HCX.out.1, fun h => absurd h HC0.out, fun o ho => (by rw [HDN.out.2] at ho; obtain rfl := Option.some.inj ho; exact HDO.out.2 _ _ _ H4.out.2.2.2.2.2 hgf), fun h => (by rw [HDN.out.2] at h; cases h), hkf⟩
    · have HK := Lib.hid hk
      have hk2 : (x.o.k != k) = true := by rw [bne, beq_eq_false_iff_ne.2 hk]; rfl
      obtain ⟨g0, g1, g2⟩ := B2.out.2.1
      clear hk
      go_wp2_with (go_at_call 87; refine (refuse_any (some ⟨b, off, none⟩) len cap nm q 103 _ W2).mono ?_)
      rintro e w3 ⟨rfl, hb3⟩
      clear hW2
      obtain ⟨⟨y0, y1, y2, y3, y4⟩, hq, hbf⟩ := zero_facts (B2.out.2.2.1.more hb3) (below_more B2.out.1 hb3)
      have hf3 : ∀ i, w3.frozen? ⟨w.heap.size + 1, i, none⟩ = false := fun i => (hb3.frozen (p := ⟨w.heap.size + 1, i, none⟩) (by simp only; omega)).trans (B2.out.2.2.2.1 i)
      have k0 := hf3 0
      have k1 := hf3 1
      have k2 := hf3 2
      have k3 := hf3 3
      have k4 := hf3 4
      have HF := Lib.hid (And.intro hq hbf)
      unfold finZ at HF
      clear hb3 hf3 hq hbf f0 f1 f2
      go_wp2
      generalize hWF : (((((w3.setCell ⟨w.heap.size + 1, 0, none⟩ (.string { data := #[] })).setCell ⟨w.heap.size + 1, 1, none⟩ (.int .i64 0)).setCell ⟨w.heap.size + 1, 2, none⟩ (.string { data := #[] })).setCell ⟨w.heap.size + 1, 3, none⟩ (.int .i64 0)).setCell ⟨w.heap.size + 1, 4, none⟩ (.slice none 0 0)) = WF at HF ⊢
      obtain ⟨⟨p0, p1, p2, p3, p4⟩, hbf⟩ := HF.out
      refine bodyPost_ret (v := .tuple #[.int .i64 0, .agg #[.string { data := #[] }, .int .i64 0, .string { data := #[] }, .int .i64 0, .slice none 0 0], .iface _ _]) (by simp [results, Tryz.results64, go_sem, p0, p1, p2, p3, p4]; exact ⟨rfl, rfl⟩) rfl ?_
      exact dn_err (show (103 : Int) ≠ 0 by decide) (abt_is _ _ _) (done_kind (f := f) HX.out.1 HX.out.2 HK.out).1 (done_kind (f := f) HX.out.1 HX.out.2 HK.out).2 hbf
  · have H1 := Lib.hid (And.intro hv (show (doneR (obs zs) nm k f).1 = pc ∧ reach (obs zs) nm k = none from by
      have h := HCP.out.1
      unfold stC at h
      by_cases hr : rightB (obs zs) = false
      · rw [if_pos hr] at h
        rw [← h]
        exact done_bad hr
      · rw [if_neg hr] at h
        by_cases h2 : findN (obs zs) nm = (obs zs).length
        · rw [if_pos h2] at h
          rw [← h]
          exact done_none (by simpa using hr) h2
        · rw [if_neg h2] at h
          exact absurd h.symm hc))
    have HC := Lib.hid hc
    obtain ⟨⟨y0, y1, y2, y3, y4⟩, hq, hbf⟩ := zero_facts (HE.out.2.2.1.more hb1) (below_more HE.out.1 hb1)
    have hf3 : ∀ i, w1.frozen? ⟨w.heap.size + 1, i, none⟩ = false := fun i => (hb1.frozen (p := ⟨w.heap.size + 1, i, none⟩) (by have := HE.out.2.2.2.2.1; simp only; omega)).trans (HE.out.2.2.2.1 i)
    have k0 := hf3 0
    have k1 := hf3 1
    have k2 := hf3 2
    have k3 := hf3 3
    have k4 := hf3 4
    have HF := Lib.hid (And.intro hq hbf)
    unfold finZ at HF
    clear hv hb1 e0 e1 e2 hf3 hq hbf hc hW0
    go_wp2
    generalize hWF : (((((w1.setCell ⟨w.heap.size + 1, 0, none⟩ (.string { data := #[] })).setCell ⟨w.heap.size + 1, 1, none⟩ (.int .i64 0)).setCell ⟨w.heap.size + 1, 2, none⟩ (.string { data := #[] })).setCell ⟨w.heap.size + 1, 3, none⟩ (.int .i64 0)).setCell ⟨w.heap.size + 1, 4, none⟩ (.slice none 0 0)) = WF at HF ⊢
    obtain ⟨⟨p0, p1, p2, p3, p4⟩, hbf⟩ := HF.out
    refine bodyPost_ret (v := .tuple #[.int .i64 0, .agg #[.string { data := #[] }, .int .i64 0, .string { data := #[] }, .int .i64 0, .slice none 0 0], .iface _ _]) (by simp [results, Tryz.results64, go_sem, p0, p1, p2, p3, p4]; exact ⟨rfl, rfl⟩) rfl ?_
    exact dn_err HC.out H1.out.1 H1.out.2.1 H1.out.2.2 hbf

end Go.Proofs.YtnbpfbmhheimbaaGreatDoor
