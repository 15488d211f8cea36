/- Rows of labels that a call has made; an append as a step of a region that draws (from labcode/LcRows, ring/RgRef2). -/
import Derived.Test.YtciohfeifihobaaDoorLabIn
import Derived.Laws.AppendOwnNone
import Derived.Deep.RegionLaw
import Derived.Deep.RegionHeld3
namespace Go.Proofs.YtciohfeifihobaaDoor
open Go.RowKit Go.Proofs.Cats Go.Shelf Go.Sort

theorem infoLab : (Tryd.prog.info? 24).map (fun i => (i.zero, i.size, i.bytes)) = some (some (.agg #[.int .i64 0, .int .u64 0, .int .i64 0]), 3, 24) := by kernel_rfl
theorem rowG_slice {w : World} {base e size : Nat} {n : Nat} {v : Value} {xs : List Value} (h : w.ownsRow base e size v n xs) : ∃ a cap, v = .slice a n cap := by
  rcases h.2 with ⟨rfl, rfl⟩ | ⟨g, cap, cur, rfl, _⟩
  · exact ⟨none, 0, rfl⟩
  · exact ⟨_, cap, rfl⟩

/-- A label's three cells, a list's. -/
def cells3L (a : Lab) : List Value := [.int .i64 a.l, .int .u64 a.c, .int .i64 a.i]
def labCells : List Lab → List Value
  | [] => []
  | a :: r => cells3L a ++ labCells r
theorem labCells_append (l m : List Lab) : labCells (l ++ m) = labCells l ++ labCells m := by
  induction l with
  | nil => rfl
  | cons a r ih => simp [labCells, ih]
theorem labCells_length (l : List Lab) : (labCells l).length = l.length * 3 := by
  induction l with
  | nil => rfl
  | cons a r ih => simp only [labCells, cells3L, List.length_append, List.length_cons, List.length_nil, ih]; omega
theorem labCells_get (l : List Lab) (j : Nat) (x : Lab) (h : l[j]? = some x) : (labCells l)[j * 3]? = some (.int .i64 x.l) ∧ (labCells l)[j * 3 + 1]? = some (.int .u64 x.c) ∧ (labCells l)[j * 3 + 2]? = some (.int .i64 x.i) := by
  induction l generalizing j with
  | nil => simp at h
  | cons a r ih =>
    cases j with
    | zero =>
      simp at h
      subst h
      exact ⟨rfl, rfl, rfl⟩
    | succ j =>
      have hi := ih j (by simpa using h)
      have e : ∀ i, (labCells (a :: r))[(j + 1) * 3 + i]? = (labCells r)[j * 3 + i]? := fun i => by
        show (cells3L a ++ labCells r)[(j + 1) * 3 + i]? = _
        rw [List.getElem?_append_right (by simp [cells3L]; omega)]
        congr 1
        simp [cells3L]
        omega
      exact ⟨(e 0).trans hi.1, (e 1).trans hi.2.1, (e 2).trans hi.2.2⟩
theorem labCells_one (l : List Lab) : ∀ u ∈ labCells l, u.oneCell' = true := by
  induction l with
  | nil => intro u hu; cases hu
  | cons a r ih =>
    intro u hu
    rcases List.mem_append.1 hu with h | h
    · simp [cells3L] at h
      rcases h with rfl | rfl | rfl <;> rfl
    · exact ih u h
theorem add_at (b off j : Nat) : (⟨b, off, none⟩ : Addr).add j = ⟨b, off + j, none⟩ := by
  unfold Addr.add
  by_cases hj0 : j = 0
  · subst hj0; simp
  · simp [hj0]

/-- A row of labels of the call's own, read as a slice of labels. -/
theorem labs_row {W : World} {base : Nat} {v : Value} {zs : List Lab} (h : W.ownsRow base 24 3 v zs.length (labCells zs)) (hf : ∀ x ∈ zs, x.fits) : Labs W.heap.size W v zs := by
  rcases h.2 with ⟨rfl, h0⟩ | ⟨g, cap, cur, rfl, _, hg, _⟩
  · exact ⟨none, 0, by rw [h0], fun hz => absurd (List.eq_nil_of_length_eq_zero h0) hz⟩
  · refine ⟨some ⟨g, 0, none⟩, cap, rfl, fun _ => ⟨g, 0, rfl, (Array.getElem?_eq_some_iff.1 hg).1, fun j x hj => ⟨hf x (List.mem_of_getElem? hj), ?_⟩⟩⟩
    obtain ⟨h0, h1, h2⟩ := labCells_get zs j x hj
    have hc := World.ownsRow.cells h (g := g) rfl
    have k0 := hc _ _ h0
    have k1 := hc _ _ h1
    have k2 := hc _ _ h2
    rw [add_at] at k0 k1 k2
    exact ⟨k0, by rw [Nat.add_assoc]; exact k1, by rw [Nat.add_assoc]; exact k2⟩
/-- The cells of a slice of labels, for an append. -/
theorem labs_cells {W : World} {b off : Nat} {zs : List Lab} (h : ∀ j x, zs[j]? = some x → x.fits ∧ LabAt W b (off + j * 3) x) : ∀ j u, (labCells zs)[j]? = some u → W.cell? ((⟨b, off, none⟩ : Addr).add j) = some u := by
  induction zs generalizing off with
  | nil => intro j u hu; simp [labCells] at hu
  | cons a r ih =>
    intro j u hu
    obtain ⟨_, k0, k1, k2⟩ := h 0 a rfl
    match j, hu with
    | 0, hu => simp [labCells, cells3L] at hu; subst hu; rw [add_at]; simpa using k0
    | 1, hu => simp [labCells, cells3L] at hu; subst hu; rw [add_at]; simpa using k1
    | 2, hu => simp [labCells, cells3L] at hu; subst hu; rw [add_at]; simpa using k2
    | j + 3, hu =>
      have hu' : (labCells r)[j]? = some u := by simpa [labCells, cells3L] using hu
      have := ih (off := off + 3) (fun i x hx => by
        have := h (i + 1) x (by simpa using hx)
        rw [show off + 3 + i * 3 = off + (i + 1) * 3 by omega]
        exact this) j u hu'
      rw [add_at] at this ⊢
      rw [show off + (j + 3) = off + 3 + j by omega]
      exact this
theorem lab_new (W : World) (a : Lab) : ∀ j u, (cells3L a)[j]? = some u → (W.alloc (.cells #[.int .i64 a.l, .int .u64 a.c, .int .i64 a.i] 24)).cell? ((⟨W.heap.size, 0, none⟩ : Addr).add j) = some u := by
  intro j u hu
  rw [add_at, World.cell?_alloc_at _ _ _ _ rfl]
  simpa [cells3L] using hu
theorem labs_news {n₀ : Nat} {W : World} {ao : Option Addr} {len cap : Nat} {zs : List Lab} (h : Labs n₀ W (.slice ao len cap) zs) : ∀ ad, ao = some ad → ∀ j u, (labCells zs)[j]? = some u → W.cell? (ad.add j) = some u := by
  obtain ⟨ao', cp, e, hk⟩ := h
  obtain ⟨rfl, _, _⟩ := Value.slice.inj e
  intro ad had j u hu
  have hz : zs ≠ [] := fun h0 => by rw [h0] at hu; simp [labCells] at hu
  obtain ⟨b, off, hao, _, hc⟩ := hk hz
  rw [had] at hao
  obtain rfl := Option.some.inj hao
  exact labs_cells hc j u hu
/-- What an append leaves. -/
def AppQ (base e size : Nat) (v : Value) (w : World) (v' : Value) (n : Nat) (xs : List Value) (w' : World) : Prop := w'.ownsRow base e size v' n xs ∧ w.grownBy w' v.ownBlock
/-- append(buf, xs...) where buf is the call's own, and xs came in, nil or not: a step of a region that draws. -/
theorem step_append_some {P : Program} {ops : Array Oper} {o : Oper} {a : Act} {w : World} {K : Act → World → Prop} {Q : Exit → Act → World → Prop} {E : Prop} (hgd : o.guard = none) (sl x : Operand) (t : TypeId)
    (ho : o.op = .call { callee := .builtin .append, args := #[sl, x], argTypes := #[t, t] })
    (base : Nat) (e : TypeId) (i : TypeInfo) (z : Value) (size bytes : Nat) (ht : P.underlying t = some (.slice e)) (hi : P.info? e = some i) (hz : i.zero = some z)
    (hsize : i.size = size) (hby : i.bytes = bytes) (hzs : z.cells.size = size) (hsz : 0 < size)
    (v : Value) (n : Nat) (xs : List Value) (hs : a.eval sl = v) (hown : w.ownsRow base e size v n xs)
    (ao : Option Addr) (m c : Nat) (news : List Value) (hx : a.eval x = .slice ao m c) (hl : news.length = m * size) (hnone : ao = none → m = 0 ∧ c = 0) (hnews : ∀ ad, ao = some ad → ∀ j u, news[j]? = some u → w.cell? (ad.add j) = some u) (h1 : ∀ u ∈ news, u.oneCell' = true)
    (h63 : n + m ≤ maxLen) (hbytes : (n + m) * bytes ≤ 140737488355328) (hbase : base ≤ w.heap.size)
    (h : ∀ v' w', AppQ base e size v w v' (n + m) (xs ++ news) w' → K (a.put o.dst v') w') : if Region.wanted o (yielded ops a.tmps) = true then Oper.wp P o a w K Q else E := by
  have hw : Region.wanted o (yielded ops a.tmps) = true := by simp [Region.wanted, hgd]
  rw [if_pos hw]
  cases ao with
  | none =>
    obtain ⟨rfl, rfl⟩ := hnone rfl
    have hn : news = [] := List.eq_nil_of_length_eq_zero (by rw [hl]; omega)
    subst hn
    have hrun := run_append_owned_none (P := P) (w := w) base t o.type e i size ht hi v n xs hown
    unfold Oper.wp
    simp [execOp, ho, resolve, invoke, builtin, hs, hx, hrun, Result.andThen]
    exact h v w ⟨by rw [List.append_nil]; exact hown, World.grownBy.refl w _⟩
  | some ad => exact wp_append_own w sl x t ho base e i z size bytes ht hi hz hsize hby hzs hsz v n xs hs hown ad m c news hx hl (hnews ad rfl) h1 h63 hbytes hbase (fun v' w' h2 h3 _ => h v' w' ⟨h2, h3⟩)
theorem row_more {w w' : World} {base e size : Nat} {n : Nat} {v : Value} {xs : List Value} (h : w.ownsRow base e size v n xs) (hb : Below w.heap.size w w') : w'.ownsRow base e size v n xs := by
  refine ⟨h.1, ?_⟩
  rcases h.2 with ⟨e, h0⟩ | ⟨g, cap, cur, e, hb', hg, rest⟩
  · exact .inl ⟨e, h0⟩
  · exact .inr ⟨g, cap, cur, e, hb', (hb.block g (Array.getElem?_eq_some_iff.1 hg).1).trans hg, rest⟩
theorem app_below {V w w' : World} {v v' : Value} {n n' : Nat} {xs xs' : List Value} {e size : Nat} (hV : Below V.heap.size V w) (h0 : w.ownsRow V.heap.size e size v n' xs') (h : AppQ V.heap.size e size v w v' n xs w') : Below V.heap.size V w' :=
  hV.grown h.2 hV.size (fun k hk => (World.ownsRow.lt h0 k hk).1)

end Go.Proofs.YtciohfeifihobaaDoor
