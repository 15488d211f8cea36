/- The document's set, data. -/
import Derived.Test.YtnbpfbmhheimbaaGreatDoorSpRefC
import Derived.Test.YtnbpfbmhheimbaaGreatDoorRgB
namespace Go.Proofs.YtnbpfbmhheimbaaGreatDoor
open Go.RowKit Go.Proofs.Fld Go.Proofs.Rng Go.Proofs.Spc Go.Shelf Go.Sort

/-- The cells of an object in a row of the call's own. -/
theorem OwnO.at5 {n0 : Nat} {W : World} {va : Option Addr} {k c : Nat} {vs : List Ov} (h : OwnO n0 W (.slice va k c) vs) (hk : vs.length = k) {i : Nat} (hi : i < k) :
    ∃ g, va = some ⟨g, 0, none⟩ ∧ n0 ≤ g ∧ g < W.heap.size ∧ ∀ j, j < 5 → (∃ u, W.cell? ⟨g, i * 5 + j, none⟩ = some u) ∧ W.frozen? ⟨g, i * 5 + j, none⟩ = false := by
  unfold OwnO at h
  rw [hk] at h
  have hn0 : ∀ g, va = some ⟨g, 0, none⟩ → n0 ≤ g ∧ g < W.heap.size := fun g e => World.ownsRow.lt h g (by rw [e]; rfl)
  have hh := h
  obtain ⟨h1, h2⟩ := h
  rcases h2 with ⟨e, h0⟩ | ⟨g, cap, cur, e, hb', hg, rest⟩
  · omega
  · injection e with e1 e2 e3
    subst e1 e3
    refine ⟨g, rfl, (hn0 g rfl).1, (hn0 g rfl).2, fun j hj => ⟨?_, World.ownsRow.frozenAt hh _⟩⟩
    have hl : (ocl vs).length = k * 5 := by rw [ocl_length, hk]
    exact ⟨(ocl vs)[i * 5 + j]'(by omega), (World.ownsRow.cellAt hh (i * 5 + j) (by omega)).trans (List.getElem?_eq_getElem (by omega))⟩
/-- An object stored at block g from o on. -/
def st5 (W : World) (g o : Nat) (y : Ov) : World := ((((W.setCell ⟨g, o, none⟩ (.string (bs y.o.n))).setCell ⟨g, o + 1, none⟩ (.int .i64 y.o.k)).setCell ⟨g, o + 2, none⟩ (.string (bs y.o.d))).setCell ⟨g, o + 3, none⟩ (.int .i64 y.o.m)).setCell ⟨g, o + 4, none⟩ (.slice y.a y.o.l.length y.c)
theorem st5_below {n : Nat} {w W : World} (h : Below n w W) {g : Nat} (hg : n ≤ g) (o : Nat) (y : Ov) : Below n w (st5 W g o y) :=
  ((((h.setCell (p := ⟨g, o, none⟩) hg _).setCell (p := ⟨g, o + 1, none⟩) hg _).setCell (p := ⟨g, o + 2, none⟩) hg _).setCell (p := ⟨g, o + 3, none⟩) hg _).setCell (p := ⟨g, o + 4, none⟩) hg _
theorem st5_other {W : World} {g o b p : Nat} {y : Ov} {u : Value} (h : W.cell? ⟨b, p, none⟩ = some u) (hne : p < o ∨ o + 5 ≤ p) : (st5 W g o y).cell? ⟨b, p, none⟩ = some u :=
  setO (setO (setO (setO (setO h (ne_off (by omega))) (ne_off (by omega))) (ne_off (by omega))) (ne_off (by omega))) (ne_off (by omega))
theorem st5_ob {W : World} {g o b p : Nat} {y x : Ov} (h : ObAt W b p x) (hne : p + 5 ≤ o ∨ o + 5 ≤ p) : ObAt (st5 W g o y) b p x :=
  ⟨st5_other h.1 (by omega), st5_other h.2.1 (by omega), st5_other h.2.2.1 (by omega), st5_other h.2.2.2.1 (by omega), st5_other h.2.2.2.2 (by omega)⟩
theorem st5_same {W : World} {g o : Nat} {y : Ov} (h : ∀ j, j < 5 → ∃ u, W.cell? ⟨g, o + j, none⟩ = some u) : ObAt (st5 W g o y) g o y := by
  obtain ⟨u0, h0⟩ := h 0 (by omega)
  obtain ⟨u1, h1⟩ := h 1 (by omega)
  obtain ⟨u2, h2⟩ := h 2 (by omega)
  obtain ⟨u3, h3⟩ := h 3 (by omega)
  obtain ⟨u4, h4⟩ := h 4 (by omega)
  refine ⟨?_, ?_, ?_, ?_, ?_⟩
  · exact setO (setO (setO (setO (setS _ h0) (ne_off (by omega))) (ne_off (by omega))) (ne_off (by omega))) (ne_off (by omega))
  · exact setO (setO (setO (setS _ (setO h1 (ne_off (by omega)))) (ne_off (by omega))) (ne_off (by omega))) (ne_off (by omega))
  · exact setO (setO (setS _ (setO (setO h2 (ne_off (by omega))) (ne_off (by omega)))) (ne_off (by omega))) (ne_off (by omega))
  · exact setO (setS _ (setO (setO (setO h3 (ne_off (by omega))) (ne_off (by omega))) (ne_off (by omega)))) (ne_off (by omega))
  · exact setS _ (setO (setO (setO (setO h4 (ne_off (by omega))) (ne_off (by omega))) (ne_off (by omega))) (ne_off (by omega)))
theorem obs_set (vs : List Ov) (i : Nat) (y : Ov) : obs (vs.set i y) = (obs vs).set i y.o := List.map_set
/-- The row behind the store. -/
theorem objs_set {n0 : Nat} {w W : World} {va : Option Addr} {k c g i : Nat} {vs : List Ov} {y : Ov} (_hW : Below n0 w W) (_hn : n0 ≤ w.heap.size) (hO : Objs W va k c vs) (hva : va = some ⟨g, 0, none⟩) (_hg : n0 ≤ g) (hi : i < k)
    (hc : ∀ j, j < 5 → ∃ u, W.cell? ⟨g, i * 5 + j, none⟩ = some u) (hr : ∀ x ∈ vs, Lv (st5 W g (i * 5) y) x) (hy : Lv (st5 W g (i * 5) y) y) : Objs (st5 W g (i * 5) y) va k c (vs.set i y) := by
  refine ⟨by rw [List.length_set]; exact hO.hlen, hO.hle, hO.hmax, hO.hnone, fun x hx => ?_, fun _ => ⟨g, 0, hva, fun j x hj => ?_⟩⟩
  · rcases List.mem_or_eq_of_mem_set hx with h | rfl
    · exact hr x h
    · exact hy
  · rw [Nat.zero_add]
    by_cases e : i = j
    · subst e
      rw [List.getElem?_set_self (by rw [hO.hlen]; exact hi)] at hj
      obtain rfl := Option.some.inj hj
      exact st5_same hc
    · rw [List.getElem?_set_ne e] at hj
      have hne : vs ≠ [] := fun q => by rw [q] at hj; simp at hj
      obtain ⟨b, off, e2, hcs⟩ := hO.hcells hne
      rw [hva] at e2
      injection e2 with e3
      injection e3 with e4 e5 _
      subst e4 e5
      have := hcs j x hj
      rw [Nat.zero_add] at this
      exact st5_ob this (by omega)

/-- Objects are told. -/
def SeqS (l : List Ob) (kr : Nat) (w : World) (e : Ending) (w' : World) : Prop := ∃ vs va vc, e = .returned (.slice va kr vc) ∧ SO w' va kr vc vs l ∧ Below w.heap.size w w'
section
variable {w : World} {ao : Option Addr} {k0 cap : Nat} {zs : List Ov} {l : List Ob} {c : Int}
theorem Small.set {l : List Ob} (h : Small l) {y : Ob} (hy : Bd y) (i : Nat) : Small (l.set i y) := ⟨by rw [List.length_set]; exact h.n, fun o ho => by
  rcases List.mem_or_eq_of_mem_set ho with h' | rfl
  · exact h.b o h'
  · exact hy⟩

theorem set_mid {w W1 w2 : World} {y : Ov} {ao va : Option Addr} {k0 cap vc i : Nat} {zs : List Ov} (hB : Below w.heap.size w W1) (hO : ObAt W1 w.heap.size 0 y) (hL : Objs W1 ao k0 cap zs) (hy : Lv W1 y) (hi : i < k0)
    (hq : AppQ W1.heap.size 55 5 (.slice none 0 0) W1 (.slice va (0 + k0) vc) (0 + k0) ([] ++ ocl zs) w2) :
    ∃ g, va = some ⟨g, 0, none⟩ ∧ (w2.cell? ⟨w.heap.size, 0, none⟩ = some (.string (bs y.o.n)) ∧ w2.cell? ⟨w.heap.size, 1, none⟩ = some (.int .i64 y.o.k) ∧ w2.cell? ⟨w.heap.size, 2, none⟩ = some (.string (bs y.o.d)) ∧ w2.cell? ⟨w.heap.size, 3, none⟩ = some (.int .i64 y.o.m) ∧ w2.cell? ⟨w.heap.size, 4, none⟩ = some (.slice y.a y.o.l.length y.c)) ∧
      ((∃ u, w2.cell? ⟨g, i * 5, none⟩ = some u) ∧ (∃ u, w2.cell? ⟨g, i * 5 + 1, none⟩ = some u) ∧ (∃ u, w2.cell? ⟨g, i * 5 + 2, none⟩ = some u) ∧ (∃ u, w2.cell? ⟨g, i * 5 + 3, none⟩ = some u) ∧ (∃ u, w2.cell? ⟨g, i * 5 + 4, none⟩ = some u)) ∧
      (w2.frozen? ⟨g, i * 5, none⟩ = false ∧ w2.frozen? ⟨g, i * 5 + 1, none⟩ = false ∧ w2.frozen? ⟨g, i * 5 + 2, none⟩ = false ∧ w2.frozen? ⟨g, i * 5 + 3, none⟩ = false ∧ w2.frozen? ⟨g, i * 5 + 4, none⟩ = false) ∧
      Hid (Objs (st5 w2 g (i * 5) y) (some ⟨g, 0, none⟩) k0 vc (zs.set i y) ∧ Below w.heap.size w (st5 w2 g (i * 5) y)) := by
  obtain ⟨hown2, hgrow2⟩ := hq
  have b2 : Below W1.heap.size W1 w2 := (Below.refl _ W1).grown hgrow2 (Nat.le_refl _) (fun k e => by cases e)
  have hO2 : OwnO W1.heap.size w2 (.slice va k0 vc) zs := by
    have hh := hown2
    rw [Nat.zero_add, List.nil_append] at hh
    unfold OwnO
    rw [hL.hlen]
    exact hh
  obtain ⟨g, rfl, hg1, hg2, hc5⟩ := hO2.at5 hL.hlen hi
  have hOb := hO2.objs hL.hlen (fun x hx => (hL.hrows x hx).more b2)
  have bS : Below w.heap.size w (st5 w2 g (i * 5) y) := st5_below (hB.trans (b2.mono hB.size)) (Nat.le_trans hB.size hg1) _ _
  have bT : Below W1.heap.size W1 (st5 w2 g (i * 5) y) := st5_below b2 hg1 _ _
  refine ⟨g, rfl, (hO.more b2).var, ⟨(hc5 0 (by omega)).1, (hc5 1 (by omega)).1, (hc5 2 (by omega)).1, (hc5 3 (by omega)).1, (hc5 4 (by omega)).1⟩, ⟨(hc5 0 (by omega)).2, (hc5 1 (by omega)).2, (hc5 2 (by omega)).2, (hc5 3 (by omega)).2, (hc5 4 (by omega)).2⟩, Lib.hid ⟨objs_set b2 (Nat.le_refl _) hOb rfl hg1 hi (fun j hj => (hc5 j hj).1) (fun x hx => (hL.hrows x hx).more bT) (hy.more bT), bS⟩⟩

set_option maxRecDepth 100000 in
set_option maxHeartbeats 4000000 in
theorem RSet_w {i : Nat} {y : Ov} {a : List Ob} (hi : i < k0) (ha : l.set i y.o = a) (hy : Lv w y) (hb : Bd y.o) (hL : SO w ao k0 cap zs l) : Calls Tryz.prog 74 #[.slice ao k0 cap, .int .i64 (i : Int), .agg #[.string (bs y.o.n), .int .i64 y.o.k, .string (bs y.o.d), .int .i64 y.o.m, .slice y.a y.o.l.length y.c]] w (SeqS a k0 w) := by
  obtain ⟨i0, hin, hz0, hz1, hz2⟩ := info_parts infoO
  have hBn := Below.new w (.cells #[.string (bs y.o.n), .int .i64 y.o.k, .string (bs y.o.d), .int .i64 y.o.m, .slice y.a y.o.l.length y.c] 55)
  have hOn := ObAt.new w y 55
  obtain ⟨W1, hW1⟩ : ∃ W1, w.alloc (.cells #[.string (bs y.o.n), .int .i64 y.o.k, .string (bs y.o.d), .int .i64 y.o.m, .slice y.a y.o.l.length y.c] 55) = W1 := ⟨_, rfl⟩
  have hL1 := hL.more hBn
  have hy1 := hy.more hBn
  rw [hW1] at hBn hOn hL1 hy1
  have hk := hL.le
  have H := Lib.hid (And.intro hBn (And.intro hOn (And.intro hL1 (And.intro hy1 (And.intro hb (And.intro ha hBn.size))))))
  have hsz : (ocl zs).length = k0 * 5 := by rw [ocl_length, hL.o.hlen]
  have HS := Lib.hid hsz
  have hdi : (i : Int) < (k0 : Int) := by omega
  clear hBn hOn hL1 hy1 hb ha hy hL hsz
  go_enter Tryz.func74, Tryz.ntmps74
  go_wp2_with (at_builtin; refine wpList_append_some _ rfl _ _ 22 rfl W1.heap.size 55 i0 (.agg #[.string { data := #[] }, .int .i64 0, .string { data := #[] }, .int .i64 0, .slice none 0 0]) 5 72 Tryz.underlying22 hin hz0 hz1 hz2 rfl (by decide) (.slice none 0 0) 0 [] rfl (World.ownsRow_nil _ _ _ _) ao k0 cap (ocl zs) rfl HS.out H.out.2.2.1.o.nones H.out.2.2.1.o.news (ocl_cells _) (by unfold maxLen; omega) (by omega) (Nat.le_refl _) ?_; intro v2 w2 hq; obtain ⟨va, vc, rfl⟩ := row_slice hq.1; obtain ⟨g, rfl, ⟨p0, p1, p2, p3, p4⟩, ⟨⟨u0, r0⟩, ⟨u1, r1⟩, ⟨u2, r2⟩, ⟨u3, r3⟩, ⟨u4, r4⟩⟩, ⟨f0, f1, f2, f3, f4⟩, HF⟩ := set_mid H.out.1 H.out.2.1 H.out.2.2.1.o H.out.2.2.2.1 hi hq; clear hq)
  go_wp2
  go_ret
  refine ⟨zs.set i y, some ⟨g, 0, none⟩, vc, rfl, ⟨?_, HF.out.1, ?_⟩, HF.out.2⟩
  · rw [obs_set, H.out.2.2.1.e]; exact H.out.2.2.2.2.2.1
  · rw [← H.out.2.2.2.2.2.1]; exact H.out.2.2.1.s.set H.out.2.2.2.2.1 i

/-- An object of the slice, in a variable, its data another text. -/
theorem ObAt.data {W : World} {b : Nat} {x : Ov} (h : ObAt W b 0 x) (s : It) : ObAt (W.setCell ⟨b, 2, none⟩ (.string (bs s))) b 0 ⟨⟨x.o.n, x.o.k, s, x.o.m, x.o.l⟩, x.a, x.c⟩ := by
  obtain ⟨h0, h1, h2, h3, h4⟩ := h.var
  exact ⟨setO h0 (ne_off (by omega)), setO h1 (ne_off (by omega)), setS _ h2, setO h3 (ne_off (by omega)), setO h4 (ne_off (by omega))⟩
set_option maxRecDepth 100000 in
set_option maxHeartbeats 4000000 in
theorem RData_w {q : Int} {i : Nat} {s : It} {o : Ob} {a : List Ob} {kr : Nat} (ho : l[i]? = some o) (hs : s.length ≤ 100000) (hr : dataR l q i ⟨o.n, o.k, s, o.m, o.l⟩ = (c, a)) (hkr : a.length = kr) (hL : SO w ao k0 cap zs l) : Calls Tryz.prog 63 #[.slice ao k0 cap, .int .i64 q, .int .i64 (i : Int), .string (bs s)] w (ResS c a kr w) := by
  have hi : i < k0 := by rw [← hL.len]; exact (List.getElem?_eq_some_iff.1 ho).1
  have hbo := hL.s.b o (List.mem_of_getElem? ho)
  obtain ⟨b, off, x, rfl, hx, hlv, hc⟩ := hL.cell ho
  obtain rfl := hx
  obtain ⟨q0, q1, q2, q3, q4⟩ := hc
  have hN := Below.new w (.cells #[.string (bs x.o.n), .int .i64 x.o.k, .string (bs x.o.d), .int .i64 x.o.m, .slice x.a x.o.l.length x.c] 55)
  have hO := ObAt.new w x 55
  have hfr : (w.alloc (.cells #[.string (bs x.o.n), .int .i64 x.o.k, .string (bs x.o.d), .int .i64 x.o.m, .slice x.a x.o.l.length x.c] 55)).frozen? ⟨w.heap.size, 2, none⟩ = false := by simp
  obtain ⟨W1, hW1⟩ : ∃ W1, w.alloc (.cells #[.string (bs x.o.n), .int .i64 x.o.k, .string (bs x.o.d), .int .i64 x.o.m, .slice x.a x.o.l.length x.c] 55) = W1 := ⟨_, rfl⟩
  rw [hW1] at hN hO hfr
  have hN2 : Below w.heap.size w (W1.setCell ⟨w.heap.size, 2, none⟩ (.string (bs s))) := hN.setCell (p := ⟨w.heap.size, 2, none⟩) (Nat.le_refl _) _
  have hO2 := hO.data s
  obtain ⟨y, hy⟩ : ∃ y : Ov, y = ⟨⟨x.o.n, x.o.k, s, x.o.m, x.o.l⟩, x.a, x.c⟩ := ⟨_, rfl⟩
  have hyb : Bd y.o := by rw [hy]; exact ⟨hbo.t, hbo.n, hs⟩
  have hyl : Lv (W1.setCell ⟨w.heap.size, 2, none⟩ (.string (bs s))) y := by
    rw [hy]
    have := hlv.more hN2
    exact ⟨this.t, this.hn, by show s.length ≤ _; omega⟩
  rw [← hy] at hO2
  obtain ⟨lb, hlb⟩ : ∃ lb, l.set i y.o = lb := ⟨_, rfl⟩
  have H := Lib.hid (And.intro hi (And.intro hlb (And.intro hyl (And.intro hyb (hL.more hN2)))))
  have B := Lib.hid hN2
  obtain ⟨v0, v1, _, v3, v4⟩ := hO.var
  have hk : lb.length = k0 := by rw [← hlb, List.length_set]; exact hL.len
  obtain ⟨W2, hW2⟩ : ∃ W2, W1.setCell ⟨w.heap.size, 2, none⟩ (.string (bs s)) = W2 := ⟨_, rfl⟩
  rw [hW2] at H B hO2
  obtain ⟨p0, p1, p2, p3, p4⟩ := hO2.var
  have HK := Lib.hid hk
  have HR := Lib.hid (show (if q < costR lb ∧ costR l < costR lb then (104, []) else (0, lb)) = (c, a) by rw [← hlb, hy]; exact hr)
  have HKR := Lib.hid hkr
  obtain ⟨cb, hcb⟩ : ∃ cb, costR lb = cb := ⟨_, rfl⟩
  obtain ⟨cl, hcl⟩ : ∃ cl, costR l = cl := ⟨_, rfl⟩
  rw [hcb, hcl] at HR
  have HC := Lib.hid (And.intro hcb hcl)
  have HY := Lib.hid hy
  clear hN hN2 hO hO2 hyb hyl hlb hk hr hkr hcb hcl hL hlv hs hbo ho hy
  go_enter Tryz.func63, Tryz.ntmps63
  go_wp2_with (go_at_call 74; refine (RSet_w H.out.1 H.out.2.1 H.out.2.2.1 H.out.2.2.2.1 H.out.2.2.2.2).mono ?_)
  rintro e w3 ⟨vs, va, vc, rfl, hA, hb⟩
  replace B := Lib.hid (below_more B.out hb)
  have L := Lib.hid (H.out.2.2.2.2.more hb)
  have A := Lib.hid hA
  clear hA hb p0 p1 p2 p3 p4 q0 q1 q2 q3 q4 v0 v1 v3 v4 hfr hW1 hW2
  by_cases h1 : q < cb
  · have d1 : decide (cb > q) = true := decide_eq_true h1
    by_cases h2 : cl < cb
    · have d2 : decide (cb > cl) = true := decide_eq_true h2
      have HX := Lib.hid (show c = 104 ∧ a = [] by
        have h3 := HR.out
        rw [if_pos ⟨h1, h2⟩] at h3
        exact ⟨(Prod.mk.inj h3).1.symm, (Prod.mk.inj h3).2.symm⟩)
      have HY2 := Lib.hid (show kr = 0 by rw [← HKR.out, HX.out.2]; rfl)
      clear h1 h2
      go_wp2_with (go_at_call 20; refine (RCost_w HC.out.1 A.out).mono ?_)
      rintro e wn ⟨rfl, hb⟩
      replace B := Lib.hid (below_more B.out hb)
      replace A := Lib.hid (A.out.more hb)
      replace L := Lib.hid (L.out.more hb)
      clear hb
      go_wp2_with (go_at_call 20; refine (RCost_w HC.out.1 A.out).mono ?_)
      rintro e wn ⟨rfl, hb⟩
      replace B := Lib.hid (below_more B.out hb)
      replace A := Lib.hid (A.out.more hb)
      replace L := Lib.hid (L.out.more hb)
      clear hb
      go_wp2_with (go_at_call 20; refine (RCost_w HC.out.2 L.out).mono ?_)
      rintro e wn ⟨rfl, hb⟩
      replace B := Lib.hid (below_more B.out hb)
      replace A := Lib.hid (A.out.more hb)
      replace L := Lib.hid (L.out.more hb)
      clear hb
      go_wp2
      refine bodyPost_ret (results_tmp2 rfl _ _ _) rfl ?_
      obtain ⟨rfl, rfl⟩ := HX.out
      obtain rfl := HY2.out
      exact ⟨[], none, 0, rfl, SO.nil _, B.out⟩
    · have d2 : decide (cb > cl) = false := decide_eq_false h2
      have HX := Lib.hid (show c = 0 ∧ a = lb by
        have h3 := HR.out
        rw [if_neg (fun h => h2 h.2)] at h3
        exact ⟨(Prod.mk.inj h3).1.symm, (Prod.mk.inj h3).2.symm⟩)
      have HY2 := Lib.hid (show kr = k0 by rw [← HKR.out, HX.out.2]; exact HK.out)
      clear h1 h2
      go_wp2_with (go_at_call 20; refine (RCost_w HC.out.1 A.out).mono ?_)
      rintro e wn ⟨rfl, hb⟩
      replace B := Lib.hid (below_more B.out hb)
      replace A := Lib.hid (A.out.more hb)
      replace L := Lib.hid (L.out.more hb)
      clear hb
      go_wp2_with (go_at_call 20; refine (RCost_w HC.out.1 A.out).mono ?_)
      rintro e wn ⟨rfl, hb⟩
      replace B := Lib.hid (below_more B.out hb)
      replace A := Lib.hid (A.out.more hb)
      replace L := Lib.hid (L.out.more hb)
      clear hb
      go_wp2_with (go_at_call 20; refine (RCost_w HC.out.2 L.out).mono ?_)
      rintro e wn ⟨rfl, hb⟩
      replace B := Lib.hid (below_more B.out hb)
      replace A := Lib.hid (A.out.more hb)
      replace L := Lib.hid (L.out.more hb)
      clear hb
      go_wp2
      refine bodyPost_ret (results_tmp2 rfl _ _ _) rfl ?_
      obtain ⟨rfl, rfl⟩ := HX.out
      obtain rfl := HY2.out
      exact ⟨vs, va, vc, rfl, A.out, B.out⟩
  · have d1 : decide (cb > q) = false := decide_eq_false h1
    have HX := Lib.hid (show c = 0 ∧ a = lb by
      have h3 := HR.out
      rw [if_neg (fun h => h1 h.1)] at h3
      exact ⟨(Prod.mk.inj h3).1.symm, (Prod.mk.inj h3).2.symm⟩)
    have HY2 := Lib.hid (show kr = k0 by rw [← HKR.out, HX.out.2]; exact HK.out)
    clear h1
    go_wp2_with (go_at_call 20; refine (RCost_w HC.out.1 A.out).mono ?_)
    rintro e wn ⟨rfl, hb⟩
    replace B := Lib.hid (below_more B.out hb)
    replace A := Lib.hid (A.out.more hb)
    replace L := Lib.hid (L.out.more hb)
    clear hb
    go_wp2
    refine bodyPost_ret (results_tmp2 rfl _ _ _) rfl ?_
    obtain ⟨rfl, rfl⟩ := HX.out
    obtain rfl := HY2.out
    exact ⟨vs, va, vc, rfl, A.out, B.out⟩
end

end Go.Proofs.YtnbpfbmhheimbaaGreatDoor
