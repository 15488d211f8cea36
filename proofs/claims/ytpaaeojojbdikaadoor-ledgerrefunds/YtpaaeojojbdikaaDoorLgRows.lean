/- Lines in memory; lines that are compared. -/
import Derived.Test.YtpaaeojojbdikaaDoorLgKit
import Derived.Test.YtpaaeojojbdikaaDoorLgFacts
import Derived.ArgAppend
import Derived.Deep.Onto
import Derived.Lib.AppendZerosOnto
namespace Go.Proofs.YtpaaeojojbdikaaDoor
open Go.RowKit Go.Proofs.Cats Go.Proofs.Lgr Go.Shelf

theorem infoLn : (Tryd.prog.info? 43).map (fun i => (i.zero, i.size, i.bytes)) = some (some (.agg #[.int .i64 0, .int .u64 0, .int .i64 0, .int .i64 0]), 4, 32) := by kernel_rfl
/-- A line as a value. -/
def lnv (x : Ln) : Value := .agg #[.int .i64 x.a.l, .int .u64 x.a.c, .int .i64 x.a.i, .int .i64 x.u]
/-- A line's four cells, at block b from o on. -/
def LnAt (W : World) (b o : Nat) (x : Ln) : Prop :=
  W.cell? ⟨b, o, none⟩ = some (.int .i64 x.a.l) ∧ W.cell? ⟨b, o + 1, none⟩ = some (.int .u64 x.a.c) ∧ W.cell? ⟨b, o + 2, none⟩ = some (.int .i64 x.a.i) ∧ W.cell? ⟨b, o + 3, none⟩ = some (.int .i64 x.u)
theorem LnAt.of_block {A B : World} {b o : Nat} {x : Ln} (h : LnAt A b o x) (e : B.heap[b]? = A.heap[b]?) : LnAt B b o x :=
  ⟨(World.cell?_of_block (a := ⟨b, o, none⟩) e).trans h.1, (World.cell?_of_block (a := ⟨b, o + 1, none⟩) e).trans h.2.1, (World.cell?_of_block (a := ⟨b, o + 2, none⟩) e).trans h.2.2.1, (World.cell?_of_block (a := ⟨b, o + 3, none⟩) e).trans h.2.2.2⟩
theorem LnAt.lt {A : World} {b o : Nat} {x : Ln} (h : LnAt A b o x) : b < A.heap.size := World.block_lt_of_cell? A _ h.1
theorem LnAt.more {A B : World} {b o : Nat} {x : Ln} (h : LnAt A b o x) (k : Below A.heap.size A B) : LnAt B b o x := h.of_block (k.block _ h.lt)

/-- The slice holds the lines zs. -/
structure Lns (W : World) (ao : Option Addr) (len cap : Nat) (zs : List Ln) : Prop where
  hlen : zs.length = len
  hle : len ≤ cap
  hmax : cap ≤ maxLen
  hnone : ao = none → cap = 0
  hfits : ∀ x ∈ zs, x.a.fits
  hcells : zs ≠ [] → ∃ b off, ao = some ⟨b, off, none⟩ ∧ ∀ j x, zs[j]? = some x → LnAt W b (off + j * 4) x
theorem Lns.of_block {A B : World} {ao : Option Addr} {len cap : Nat} {zs : List Ln} (h : Lns A ao len cap zs) (k : ∀ a, ao = some a → a.block < A.heap.size → B.heap[a.block]? = A.heap[a.block]?) : Lns B ao len cap zs :=
  ⟨h.hlen, h.hle, h.hmax, h.hnone, h.hfits, fun hz => by
    obtain ⟨b, off, e, hc⟩ := h.hcells hz
    refine ⟨b, off, e, fun j x hj => (hc j x hj).of_block (k _ e (hc j x hj).lt)⟩⟩
theorem Lns.more {A B : World} {ao : Option Addr} {len cap : Nat} {zs : List Ln} (h : Lns A ao len cap zs) (k : Below A.heap.size A B) : Lns B ao len cap zs := h.of_block fun _ _ hb => k.block _ hb
theorem Lns.nil (W : World) : Lns W none 0 0 [] := ⟨rfl, Nat.le_refl _, Nat.zero_le _, fun _ => rfl, fun _ h => (by cases h), fun h => absurd rfl h⟩
theorem Lns.at {W : World} {ao : Option Addr} {len cap : Nat} {zs : List Ln} (h : Lns W ao len cap zs) (hp : 0 < len) : ∃ b off, ao = some ⟨b, off, none⟩ ∧ b < W.heap.size ∧ ∀ j x, zs[j]? = some x → LnAt W b (off + j * 4) x := by
  have hz : zs ≠ [] := fun e => by have := h.hlen; rw [e] at this; simp at this; omega
  obtain ⟨b, off, e, hc⟩ := h.hcells hz
  obtain ⟨x, hx⟩ : ∃ x, zs[0]? = some x := ⟨_, List.getElem?_eq_getElem (by rw [h.hlen]; exact hp)⟩
  exact ⟨b, off, e, (hc 0 x hx).lt, hc⟩
/-- Lines that lay ahead of what has been made. -/
theorem Lns.apart {w W : World} {ao : Option Addr} {len cap : Nat} {zs : List Ln} (h : Lns w ao len cap zs) (k : Below w.heap.size w W) {X : Nat} (hX : w.heap.size ≤ X) : 0 < len → ∀ a, ao = some a → a.block < W.heap.size ∧ a.block ≠ X := by
  intro hp a e
  obtain ⟨b, off, e', hb, _⟩ := h.at hp
  rw [e] at e'
  obtain rfl := Option.some.inj e'
  have := k.size
  exact ⟨Nat.lt_of_lt_of_le hb this, fun q => by simp only at q; omega⟩
theorem Lns.take {W : World} {ao : Option Addr} {len cap : Nat} {zs : List Ln} (h : Lns W ao len cap zs) (k c : Nat) (hk : k ≤ len) (hc : k ≤ c) (hcc : c ≤ cap) : Lns W ao k c (zs.take k) := by
  refine ⟨by rw [List.length_take, h.hlen]; omega, hc, Nat.le_trans hcc h.hmax, fun e => by have := h.hnone e; omega, fun x hx => h.hfits x (List.mem_of_mem_take hx), fun hz => ?_⟩
  obtain ⟨b, off, e, hcs⟩ := h.hcells (fun e => hz (by rw [e]; simp))
  refine ⟨b, off, e, fun j x hj => ?_⟩
  rw [List.getElem?_take] at hj
  split at hj
  · exact hcs j x hj
  · cases hj

/-- Lines' cells. -/
def cells4 (x : Ln) : List Value := [.int .i64 x.a.l, .int .u64 x.a.c, .int .i64 x.a.i, .int .i64 x.u]
def lcl : List Ln → List Value
  | [] => []
  | x :: r => cells4 x ++ lcl r
theorem lcl_append (l m : List Ln) : lcl (l ++ m) = lcl l ++ lcl m := by
  induction l with
  | nil => rfl
  | cons a r ih => simp [lcl, ih]
theorem lcl_length (l : List Ln) : (lcl l).length = l.length * 4 := by
  induction l with
  | nil => rfl
  | cons a r ih => simp only [lcl, cells4, List.length_append, List.length_cons, List.length_nil, ih]; omega
theorem lcl_get (l : List Ln) (j : Nat) (x : Ln) (h : l[j]? = some x) : (lcl l)[j * 4]? = some (.int .i64 x.a.l) ∧ (lcl l)[j * 4 + 1]? = some (.int .u64 x.a.c) ∧ (lcl l)[j * 4 + 2]? = some (.int .i64 x.a.i) ∧ (lcl l)[j * 4 + 3]? = some (.int .i64 x.u) := by
  induction l generalizing j with
  | nil => simp at h
  | cons a r ih =>
    cases j with
    | zero =>
      simp at h
      subst h
      exact ⟨rfl, rfl, rfl, rfl⟩
    | succ j =>
      have hi := ih j (by simpa using h)
      have e : ∀ i, (lcl (a :: r))[(j + 1) * 4 + i]? = (lcl r)[j * 4 + i]? := fun i => by
        show (cells4 a ++ lcl r)[(j + 1) * 4 + i]? = _
        rw [List.getElem?_append_right (by simp [cells4]; omega)]
        congr 1
        simp [cells4]
        omega
      exact ⟨(e 0).trans hi.1, (e 1).trans hi.2.1, (e 2).trans hi.2.2.1, (e 3).trans hi.2.2.2⟩
theorem lcl_one (l : List Ln) : ∀ u ∈ lcl l, u.oneCell' = true := by
  induction l with
  | nil => intro u hu; cases hu
  | cons a r ih =>
    intro u hu
    rcases List.mem_append.1 hu with h | h
    · simp [cells4] at h
      rcases h with rfl | rfl | rfl | rfl <;> rfl
    · exact ih u h
theorem add_at (b off j : Nat) : (⟨b, off, none⟩ : Addr).add j = ⟨b, off + j, none⟩ := by
  unfold Addr.add
  by_cases hj0 : j = 0
  · subst hj0; simp
  · simp [hj0]
/-- The cells of a slice of lines, for an append. -/
theorem lns_cells {W : World} {b off : Nat} {zs : List Ln} (h : ∀ j x, zs[j]? = some x → LnAt W b (off + j * 4) x) : ∀ j u, (lcl zs)[j]? = some u → W.cell? ((⟨b, off, none⟩ : Addr).add j) = some u := by
  induction zs generalizing off with
  | nil => intro j u hu; simp [lcl] at hu
  | cons a r ih =>
    intro j u hu
    obtain ⟨k0, k1, k2, k3⟩ := h 0 a rfl
    match j, hu with
    | 0, hu => simp [lcl, cells4] at hu; subst hu; rw [add_at]; simpa using k0
    | 1, hu => simp [lcl, cells4] at hu; subst hu; rw [add_at]; simpa using k1
    | 2, hu => simp [lcl, cells4] at hu; subst hu; rw [add_at]; simpa using k2
    | 3, hu => simp [lcl, cells4] at hu; subst hu; rw [add_at]; simpa using k3
    | j + 4, hu =>
      have hu' : (lcl r)[j]? = some u := by simpa [lcl, cells4] using hu
      have := ih (off := off + 4) (fun i x hx => by
        have := h (i + 1) x (by simpa using hx)
        rw [show off + 4 + i * 4 = off + (i + 1) * 4 by omega]
        exact this) j u hu'
      rw [add_at] at this ⊢
      rw [show off + (j + 4) = off + 4 + j by omega]
      exact this
theorem ln_new (W : World) (x : Ln) : ∀ j u, (cells4 x)[j]? = some u → (W.alloc (.cells #[.int .i64 x.a.l, .int .u64 x.a.c, .int .i64 x.a.i, .int .i64 x.u] 43)).cell? ((⟨W.heap.size, 0, none⟩ : Addr).add j) = some u := by
  intro j u hu
  rw [add_at, World.cell?_alloc_at _ _ _ _ rfl]
  simpa [cells4] using hu

/-- The slice v has the lines l, in a row of its own from n0 on, or is nil. -/
def OwnL (n0 : Nat) (W : World) (v : Value) (l : List Ln) : Prop := W.ownsRow n0 43 4 v l.length (lcl l)
theorem OwnL.slice {n0 : Nat} {W : World} {v : Value} {l : List Ln} (h : OwnL n0 W v l) : ∃ a c, v = .slice a l.length c := by
  rcases h.2 with ⟨rfl, h0⟩ | ⟨g, cap, cur, rfl, _⟩
  · exact ⟨none, 0, by rw [h0]⟩
  · exact ⟨_, cap, rfl⟩
theorem OwnL.mono {n0 n1 : Nat} {W : World} {v : Value} {l : List Ln} (h : OwnL n0 W v l) (hn : n1 ≤ n0) : OwnL n1 W v l := World.ownsRow.mono h hn
theorem OwnL.nil (n0 : Nat) (W : World) : OwnL n0 W (.slice none 0 0) [] := World.ownsRow_nil _ _ _ _
theorem OwnL.lns {n0 : Nat} {W : World} {a : Option Addr} {len c : Nat} {l : List Ln} (h : OwnL n0 W (.slice a len c) l) (hl : l.length = len) (hf : ∀ x ∈ l, x.a.fits) : Lns W a len c l := by
  have h' : W.ownsRow n0 43 4 (.slice a len c) l.length (lcl l) := h
  rcases h.2 with ⟨e, h0⟩ | ⟨g, cap, cur, e, hb, hg, hn, hm, _⟩
  · injection e with e1 e2 e3
    subst e1 e2 e3
    obtain rfl := List.eq_nil_of_length_eq_zero h0
    exact Lns.nil W
  · injection e with e1 e2 e3
    subst e1 e2 e3
    refine ⟨hl, by omega, hm, (fun h => by cases h), hf, fun _ => ⟨g, 0, rfl, fun j x hj => ?_⟩⟩
    obtain ⟨k0, k1, k2, k3⟩ := lcl_get l j x hj
    have hjl := (List.getElem?_eq_some_iff.1 hj).1
    rw [Nat.zero_add]
    exact ⟨(World.ownsRow.cellAt h' _ (by omega)).trans k0, (World.ownsRow.cellAt h' _ (by omega)).trans k1, (World.ownsRow.cellAt h' _ (by omega)).trans k2, (World.ownsRow.cellAt h' _ (by omega)).trans k3⟩

theorem lnFields : (Tryd.prog.fieldsOf 43).toList.map (fun f => (f.name == "_", f.type, f.offset)) = [(false, 25, 0), (false, 3, 3)] := by kernel_rfl
set_option maxHeartbeats 1000000 in
theorem eqInLn (x y : Ln) (w : World) : (Op.equalIn 10000 43 (.agg #[.int .i64 x.a.l, .int .u64 x.a.c, .int .i64 x.a.i, .int .i64 x.u]) (.agg #[.int .i64 y.a.l, .int .u64 y.a.c, .int .i64 y.a.i, .int .i64 y.u])).run Tryd.prog w = .ok (x.same y) w := by
  by_cases h1 : x.a.l = y.a.l
  · by_cases h2 : x.a.c = y.a.c
    · by_cases h3 : x.a.i = y.a.i
      · have ev : x.same y = (x.u == y.u) := by unfold Ln.same Lab.same; simp [h1, h2, h3]
        rw [ev, h1, h2, h3]
        clear ev
        by_cases h4 : x.u = y.u
        · rw [h4]
          go_simp
        · have k2 : (x.u == y.u) = false := by simp [h4]
          rw [k2]
          go_simp
      · have ev : x.same y = false := by unfold Ln.same Lab.same; simp [h3]
        have k2 : (x.a.i == y.a.i) = false := by simp [h3]
        rw [ev, h1, h2]
        go_simp
    · have ev : x.same y = false := by unfold Ln.same Lab.same; simp [h2]
      have k2 : (((x.a.c : Nat) : Int) == ((y.a.c : Nat) : Int)) = false := by simp; omega
      rw [ev, h1]
      go_simp
  · have ev : x.same y = false := by unfold Ln.same Lab.same; simp [h1]
    have k2 : (x.a.l == y.a.l) = false := by simp [h1]
    rw [ev]
    go_simp

end Go.Proofs.YtpaaeojojbdikaaDoor
