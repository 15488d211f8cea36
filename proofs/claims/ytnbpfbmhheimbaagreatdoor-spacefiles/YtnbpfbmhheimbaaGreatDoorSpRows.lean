/- Objects in memory. -/
import Derived.Test.YtnbpfbmhheimbaaGreatDoorSpA
import Derived.Test.YtnbpfbmhheimbaaGreatDoorRgB
import Derived.ArgAppend
import Derived.Deep.Onto
import Derived.Lib.AppendZerosOnto
namespace Go.Proofs.YtnbpfbmhheimbaaGreatDoor
open Go.RowKit Go.Proofs.Fld Go.Proofs.Rng Go.Proofs.Spc Go.Shelf

theorem infoO : (Tryz.prog.info? 55).map (fun i => (i.zero, i.size, i.bytes)) = some (some (.agg #[.string { data := #[] }, .int .i64 0, .string { data := #[] }, .int .i64 0, .slice none 0 0]), 5, 72) := by kernel_rfl
/-- An object, and where its items lie. -/
structure Ov where
  o : Ob
  a : Option Addr
  c : Nat
/-- .. as a value. -/
def ov (x : Ov) : Value := .agg #[.string (bs x.o.n), .int .i64 x.o.k, .string (bs x.o.d), .int .i64 x.o.m, .slice x.a x.o.l.length x.c]
def obs (l : List Ov) : List Ob := l.map Ov.o
theorem obs_length (l : List Ov) : (obs l).length = l.length := List.length_map _
theorem obs_append (l m : List Ov) : obs (l ++ m) = obs l ++ obs m := List.map_append
theorem obs_get {l : List Ov} {j : Nat} {x : Ov} (h : l[j]? = some x) : (obs l)[j]? = some x.o := by unfold obs; rw [List.getElem?_map, h]; rfl
theorem obs_take (l : List Ov) (k : Nat) : obs (l.take k) = (obs l).take k := List.map_take
theorem obs_drop (l : List Ov) (k : Nat) : obs (l.drop k) = (obs l).drop k := List.map_drop
theorem obs_mem {l : List Ov} {y : Ob} (h : y ∈ obs l) : ∃ x ∈ l, x.o = y := List.mem_map.1 h
theorem mem_obs {l : List Ov} {x : Ov} (h : x ∈ l) : x.o ∈ obs l := List.mem_map.2 ⟨x, h, rfl⟩
theorem obs_at {l : List Ov} {j : Nat} {y : Ob} (h : (obs l)[j]? = some y) : ∃ x, l[j]? = some x ∧ x.o = y := by
  unfold obs at h
  rw [List.getElem?_map] at h
  exact Option.map_eq_some_iff.1 h
/-- Its items lie there; its texts are no longer than texts are. -/
structure Lv (W : World) (x : Ov) : Prop where
  t : Txs W x.a x.o.l.length x.c x.o.l
  hn : x.o.n.length ≤ 9223372036854775807
  hd : x.o.d.length ≤ 9223372036854775807
theorem Lv.more {A B : World} {x : Ov} (h : Lv A x) (k : Below A.heap.size A B) : Lv B x := ⟨h.t.more k, h.hn, h.hd⟩
theorem Lv.of_block {A B : World} {x : Ov} (h : Lv A x) (k : ∀ a, x.a = some a → a.block < A.heap.size → B.heap[a.block]? = A.heap[a.block]?) : Lv B x := ⟨h.t.of_block k, h.hn, h.hd⟩
/-- An object's five cells, at block b from o on. -/
def ObAt (W : World) (b o : Nat) (x : Ov) : Prop :=
  W.cell? ⟨b, o, none⟩ = some (.string (bs x.o.n)) ∧ W.cell? ⟨b, o + 1, none⟩ = some (.int .i64 x.o.k) ∧ W.cell? ⟨b, o + 2, none⟩ = some (.string (bs x.o.d)) ∧ W.cell? ⟨b, o + 3, none⟩ = some (.int .i64 x.o.m) ∧ W.cell? ⟨b, o + 4, none⟩ = some (.slice x.a x.o.l.length x.c)
theorem ObAt.of_block {A B : World} {b o : Nat} {x : Ov} (h : ObAt A b o x) (e : B.heap[b]? = A.heap[b]?) : ObAt B b o x :=
  ⟨(World.cell?_of_block (a := ⟨b, o, none⟩) e).trans h.1, (World.cell?_of_block (a := ⟨b, o + 1, none⟩) e).trans h.2.1, (World.cell?_of_block (a := ⟨b, o + 2, none⟩) e).trans h.2.2.1, (World.cell?_of_block (a := ⟨b, o + 3, none⟩) e).trans h.2.2.2.1, (World.cell?_of_block (a := ⟨b, o + 4, none⟩) e).trans h.2.2.2.2⟩
theorem ObAt.lt {A : World} {b o : Nat} {x : Ov} (h : ObAt A b o x) : b < A.heap.size := World.block_lt_of_cell? A _ h.1
theorem ObAt.more {A B : World} {b o : Nat} {x : Ov} (h : ObAt A b o x) (k : Below A.heap.size A B) : ObAt B b o x := h.of_block (k.block _ h.lt)
theorem ObAt.var {W : World} {b : Nat} {x : Ov} (h : ObAt W b 0 x) : W.cell? ⟨b, 0, none⟩ = some (.string (bs x.o.n)) ∧ W.cell? ⟨b, 1, none⟩ = some (.int .i64 x.o.k) ∧ W.cell? ⟨b, 2, none⟩ = some (.string (bs x.o.d)) ∧ W.cell? ⟨b, 3, none⟩ = some (.int .i64 x.o.m) ∧ W.cell? ⟨b, 4, none⟩ = some (.slice x.a x.o.l.length x.c) := h
/-- A variable that holds the object. -/
theorem ObAt.new (W : World) (x : Ov) (t : TypeId) : ObAt (W.alloc (.cells #[.string (bs x.o.n), .int .i64 x.o.k, .string (bs x.o.d), .int .i64 x.o.m, .slice x.a x.o.l.length x.c] t)) W.heap.size 0 x := ⟨by simp, by simp, by simp, by simp, by simp⟩

/-- The slice holds the objects zs. -/
structure Objs (W : World) (ao : Option Addr) (len cap : Nat) (zs : List Ov) : Prop where
  hlen : zs.length = len
  hle : len ≤ cap
  hmax : cap ≤ maxLen
  hnone : ao = none → cap = 0
  hrows : ∀ x ∈ zs, Lv W x
  hcells : zs ≠ [] → ∃ b off, ao = some ⟨b, off, none⟩ ∧ ∀ j x, zs[j]? = some x → ObAt W b (off + j * 5) x
theorem Objs.of_block {A B : World} {ao : Option Addr} {len cap : Nat} {zs : List Ov} (h : Objs A ao len cap zs) (hr : ∀ x ∈ zs, Lv B x) (k : ∀ a, ao = some a → a.block < A.heap.size → B.heap[a.block]? = A.heap[a.block]?) : Objs B ao len cap zs :=
  ⟨h.hlen, h.hle, h.hmax, h.hnone, hr, fun hz => by
    obtain ⟨b, off, e, hc⟩ := h.hcells hz
    exact ⟨b, off, e, fun j x hj => (hc j x hj).of_block (k _ e (hc j x hj).lt)⟩⟩
theorem Objs.more {A B : World} {ao : Option Addr} {len cap : Nat} {zs : List Ov} (h : Objs A ao len cap zs) (k : Below A.heap.size A B) : Objs B ao len cap zs := h.of_block (fun x hx => (h.hrows x hx).more k) fun _ _ hb => k.block _ hb
theorem Objs.nil (W : World) : Objs W none 0 0 [] := ⟨rfl, Nat.le_refl _, Nat.zero_le _, fun _ => rfl, fun _ h => (by cases h), fun h => absurd rfl h⟩
theorem Objs.at {W : World} {ao : Option Addr} {len cap : Nat} {zs : List Ov} (h : Objs W ao len cap zs) (hp : 0 < len) : ∃ b off, ao = some ⟨b, off, none⟩ ∧ b < W.heap.size ∧ ∀ j x, zs[j]? = some x → ObAt W b (off + j * 5) x := by
  have hz : zs ≠ [] := fun e => by have := h.hlen; rw [e] at this; simp at this; omega
  obtain ⟨b, off, e, hc⟩ := h.hcells hz
  obtain ⟨x, hx⟩ : ∃ x, zs[0]? = some x := ⟨_, List.getElem?_eq_getElem (by rw [h.hlen]; exact hp)⟩
  exact ⟨b, off, e, (hc 0 x hx).lt, hc⟩
theorem Objs.apart {w W : World} {ao : Option Addr} {len cap : Nat} {zs : List Ov} (h : Objs w ao len cap zs) (k : Below w.heap.size w W) {X : Nat} (hX : w.heap.size ≤ X) : 0 < len → ∀ a, ao = some a → a.block < W.heap.size ∧ a.block ≠ X := by
  intro hp a e
  obtain ⟨b, off, e', hb, _⟩ := h.at hp
  rw [e] at e'
  obtain rfl := Option.some.inj e'
  have := k.size
  exact ⟨Nat.lt_of_lt_of_le hb this, fun q => by simp only at q; omega⟩
theorem Objs.row {W : World} {ao : Option Addr} {len cap : Nat} {zs : List Ov} (h : Objs W ao len cap zs) {k : Nat} {x : Ov} (hx : zs[k]? = some x) : Lv W x := h.hrows x (List.mem_of_getElem? hx)
theorem Objs.take {W : World} {ao : Option Addr} {len cap : Nat} {zs : List Ov} (h : Objs W ao len cap zs) (k c : Nat) (hk : k ≤ len) (hc : k ≤ c) (hcc : c ≤ cap) : Objs W ao k c (zs.take k) := by
  refine ⟨by rw [List.length_take, h.hlen]; omega, hc, Nat.le_trans hcc h.hmax, fun e => by have := h.hnone e; omega, fun x hx => h.hrows x (List.mem_of_mem_take hx), fun hz => ?_⟩
  obtain ⟨b, off, e, hcs⟩ := h.hcells (fun e => hz (by rw [e]; simp))
  refine ⟨b, off, e, fun j x hj => ?_⟩
  rw [List.getElem?_take] at hj
  split at hj
  · exact hcs j x hj
  · cases hj
/-- The address of what is behind e. -/
def fromO (ao : Option Addr) (e cap : Nat) : Option Addr := if cap = e then ao else ao.map (·.add (e * 5))
theorem Objs.from {W : World} {ao : Option Addr} {len cap : Nat} {zs : List Ov} (h : Objs W ao len cap zs) (e : Nat) (he : e ≤ len) : Objs W (fromO ao e cap) (len - e) (cap - e) (zs.drop e) := by
  have hm := h.hmax
  have hle := h.hle
  refine ⟨by rw [List.length_drop, h.hlen], by omega, by omega, fun q => ?_, fun x hx => h.hrows x (List.mem_of_mem_drop hx), fun hz => ?_⟩
  · unfold fromO at q
    by_cases e1 : cap = e
    · omega
    · rw [if_neg e1] at q
      cases ao with
      | none => have := h.hnone rfl; omega
      | some x => simp at q
  · have hlt : e < len := by
      rcases Nat.lt_or_ge e len with q | q
      · exact q
      · exact absurd (List.drop_eq_nil_of_le (by rw [h.hlen]; exact q)) hz
    obtain ⟨b, off, rfl, hc⟩ := h.hcells (fun q => hz (by rw [q]; simp))
    refine ⟨b, off + e * 5, ?_, fun j x hj => ?_⟩
    · unfold fromO
      rw [if_neg (by omega)]
      simp [add_at]
    · rw [List.getElem?_drop] at hj
      have := hc _ x hj
      rw [show off + e * 5 + j * 5 = off + (e + j) * 5 by omega]
      exact this

/-- Objects' cells. -/
def cells5 (x : Ov) : List Value := [.string (bs x.o.n), .int .i64 x.o.k, .string (bs x.o.d), .int .i64 x.o.m, .slice x.a x.o.l.length x.c]
def ocl : List Ov → List Value
  | [] => []
  | x :: r => cells5 x ++ ocl r
theorem ocl_append (l m : List Ov) : ocl (l ++ m) = ocl l ++ ocl m := by
  induction l with
  | nil => rfl
  | cons a r ih => simp [ocl, ih]
theorem ocl_one (x : Ov) : ocl [x] = cells5 x := by simp [ocl]
theorem ocl_length (l : List Ov) : (ocl l).length = l.length * 5 := by
  induction l with
  | nil => rfl
  | cons a r ih => simp only [ocl, cells5, List.length_append, List.length_cons, List.length_nil, ih]; omega
theorem ocl_get (l : List Ov) (j : Nat) (x : Ov) (h : l[j]? = some x) : ∀ i u, (cells5 x)[i]? = some u → (ocl l)[j * 5 + i]? = some u := by
  induction l generalizing j with
  | nil => simp at h
  | cons a r ih =>
    intro i u hu
    have hi : i < 5 := (List.getElem?_eq_some_iff.1 hu).1
    cases j with
    | zero =>
      simp at h
      subst h
      show (cells5 a ++ ocl r)[0 * 5 + i]? = _
      rw [List.getElem?_append_left (by simp [cells5]; omega)]
      simpa using hu
    | succ j =>
      have h2 := ih j (by simpa using h) i u hu
      show (cells5 a ++ ocl r)[(j + 1) * 5 + i]? = _
      rw [List.getElem?_append_right (by simp [cells5]; omega)]
      rw [← h2]
      congr 1
      simp [cells5]
      omega
theorem ocl_cells (l : List Ov) : ∀ u ∈ ocl l, u.oneCell' = true := by
  induction l with
  | nil => intro u hu; cases hu
  | cons a r ih =>
    intro u hu
    rcases List.mem_append.1 hu with h | h
    · simp [cells5] at h
      rcases h with rfl | rfl | rfl | rfl | rfl <;> rfl
    · exact ih u h
theorem obs_cells {W : World} {b off : Nat} {zs : List Ov} (h : ∀ j x, zs[j]? = some x → ObAt W b (off + j * 5) x) : ∀ j u, (ocl zs)[j]? = some u → W.cell? ((⟨b, off, none⟩ : Addr).add j) = some u := by
  induction zs generalizing off with
  | nil => intro j u hu; simp [ocl] at hu
  | cons a r ih =>
    intro j u hu
    obtain ⟨k0, k1, k2, k3, k4⟩ := h 0 a rfl
    match j, hu with
    | 0, hu => simp [ocl, cells5] at hu; subst hu; rw [add_at]; simpa using k0
    | 1, hu => simp [ocl, cells5] at hu; subst hu; rw [add_at]; simpa using k1
    | 2, hu => simp [ocl, cells5] at hu; subst hu; rw [add_at]; simpa using k2
    | 3, hu => simp [ocl, cells5] at hu; subst hu; rw [add_at]; simpa using k3
    | 4, hu => simp [ocl, cells5] at hu; subst hu; rw [add_at]; simpa using k4
    | j + 5, hu =>
      have hu' : (ocl r)[j]? = some u := by simpa [ocl, cells5] using hu
      have := ih (off := off + 5) (fun i x hx => by
        have := h (i + 1) x (by simpa using hx)
        rw [show off + 5 + i * 5 = off + (i + 1) * 5 by omega]
        exact this) j u hu'
      rw [add_at] at this ⊢
      rw [show off + (j + 5) = off + 5 + j by omega]
      exact this
theorem Objs.news {W : World} {ao : Option Addr} {len cap : Nat} {zs : List Ov} (h : Objs W ao len cap zs) : ∀ ad, ao = some ad → ∀ j u, (ocl zs)[j]? = some u → W.cell? (ad.add j) = some u := by
  intro ad had j u hu
  have hz : zs ≠ [] := fun h0 => by rw [h0] at hu; simp [ocl] at hu
  obtain ⟨b, off, hao, hc⟩ := h.hcells hz
  rw [had] at hao
  obtain rfl := Option.some.inj hao
  exact obs_cells hc j u hu
theorem Objs.nones {W : World} {ao : Option Addr} {len cap : Nat} {zs : List Ov} (h : Objs W ao len cap zs) : ao = none → len = 0 ∧ cap = 0 := fun e => by
  have := h.hnone e
  have := h.hle
  omega
theorem ob_new (W : World) (x : Ov) (t : TypeId) : ∀ j u, (cells5 x)[j]? = some u → (W.alloc (.cells #[.string (bs x.o.n), .int .i64 x.o.k, .string (bs x.o.d), .int .i64 x.o.m, .slice x.a x.o.l.length x.c] t)).cell? ((⟨W.heap.size, 0, none⟩ : Addr).add j) = some u := by
  intro j u hu
  rw [add_at, World.cell?_alloc_at _ _ _ _ rfl]
  simpa [cells5] using hu

/-- The slice v has the objects l, in a row of its own from n0 on, or is nil. -/
def OwnO (n0 : Nat) (W : World) (v : Value) (l : List Ov) : Prop := W.ownsRow n0 55 5 v l.length (ocl l)
theorem OwnO.slice {n0 : Nat} {W : World} {v : Value} {l : List Ov} (h : OwnO n0 W v l) : ∃ a c, v = .slice a l.length c := by
  rcases h.2 with ⟨rfl, h0⟩ | ⟨g, cap, cur, rfl, _⟩
  · exact ⟨none, 0, by rw [h0]⟩
  · exact ⟨_, cap, rfl⟩
theorem OwnO.nil (n0 : Nat) (W : World) : OwnO n0 W (.slice none 0 0) [] := World.ownsRow_nil _ _ _ _
theorem OwnO.more {n0 : Nat} {A B : World} {v : Value} {l : List Ov} (h : OwnO n0 A v l) (k : Below A.heap.size A B) : OwnO n0 B v l := by
  refine ⟨h.1, ?_⟩
  rcases h.2 with ⟨e, h0⟩ | ⟨g, cap, cur, e, hb, hg, rest⟩
  · exact .inl ⟨e, h0⟩
  · exact .inr ⟨g, cap, cur, e, hb, (k.block g (Array.getElem?_eq_some_iff.1 hg).1).trans hg, rest⟩
theorem OwnO.objs {n0 : Nat} {W : World} {a : Option Addr} {len c : Nat} {l : List Ov} (h : OwnO n0 W (.slice a len c) l) (hl : l.length = len) (hf : ∀ x ∈ l, Lv W x) : Objs W a len c l := by
  have h' : W.ownsRow n0 55 5 (.slice a len c) l.length (ocl l) := h
  rcases h.2 with ⟨e, h0⟩ | ⟨g, cap, cur, e, hb, hg, hn, hm, _⟩
  · injection e with e1 e2 e3
    subst e1 e2 e3
    obtain rfl := List.eq_nil_of_length_eq_zero h0
    exact Objs.nil W
  · injection e with e1 e2 e3
    subst e1 e2 e3
    refine ⟨hl, by omega, hm, (fun h => by cases h), hf, fun _ => ⟨g, 0, rfl, fun j x hj => ?_⟩⟩
    have k := ocl_get l j x hj
    have hjl := (List.getElem?_eq_some_iff.1 hj).1
    rw [Nat.zero_add]
    exact ⟨(World.ownsRow.cellAt h' (j * 5) (by omega)).trans (k 0 _ rfl), (World.ownsRow.cellAt h' _ (by omega)).trans (k 1 _ rfl), (World.ownsRow.cellAt h' _ (by omega)).trans (k 2 _ rfl), (World.ownsRow.cellAt h' _ (by omega)).trans (k 3 _ rfl), (World.ownsRow.cellAt h' _ (by omega)).trans (k 4 _ rfl)⟩

end Go.Proofs.YtnbpfbmhheimbaaGreatDoor
