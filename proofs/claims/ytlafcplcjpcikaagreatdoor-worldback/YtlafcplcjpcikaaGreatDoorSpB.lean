/- Merged texts: SpRows, SpAs, SpTold, SpRange, SpIter, SpCost, SpName, SpFind -/
import Derived.Test.YtlafcplcjpcikaaGreatDoorSpA
import Derived.Test.YtlafcplcjpcikaaGreatDoorRgB
import Derived.ArgAppend
import Derived.Deep.Onto
import Derived.Lib.AppendZerosOnto
import Derived.Test.YtlafcplcjpcikaaGreatDoorRgA
import Derived.LaidEql
import Derived.Stop.Asserts
import Derived.RowKitTokens
import Derived.Test.YtlafcplcjpcikaaGreatDoorFlA
import Derived.RangeFuncNested
import Derived.RangeFuncBound
import Derived.Lib.Strings
import Derived.Lib.IndexBytes
import Derived.Lib.OthersKept
import Derived.Laws.RangeAny
/- Objects in memory. -/
namespace Go.Proofs.YtlafcplcjpcikaaGreatDoor
open Go.RowKit Go.Proofs.Fld Go.Proofs.Rng Go.Proofs.Spc Go.Shelf

theorem infoO : (Tryz.prog.info? 51).map (fun i => (i.zero, i.size, i.bytes)) = some (some (.agg #[.string { data := #[] }, .int .i64 0, .string { data := #[] }, .int .i64 0, .slice none 0 0]), 5, 72) := by kernel_rfl
/-- An object, and where its items lie. -/
structure Ov where
  o : Ob
  a : Option Addr
  c : Nat
/-- .. as a value. -/
def ov (x : Ov) : Value := .agg #[.string (bs x.o.n), .int .i64 x.o.k, .string (bs x.o.d), .int .i64 x.o.m, .slice x.a x.o.l.length x.c]
def obs (l : List Ov) : List Ob := l.map Ov.o
theorem obs_length (l : List Ov) : (obs l).length = l.length := List.length_map _
theorem obs_append (l m : List Ov) : obs (l ++ m) = obs l ++ obs m := List.map_append
theorem obs_get {l : List Ov} {j : Nat} {x : Ov} (h : l[j]? = some x) : (obs l)[j]? = some x.o := by unfold obs; rw [List.getElem?_map, h]; rfl


theorem obs_mem {l : List Ov} {y : Ob} (h : y ∈ obs l) : ∃ x ∈ l, x.o = y := List.mem_map.1 h
theorem mem_obs {l : List Ov} {x : Ov} (h : x ∈ l) : x.o ∈ obs l := List.mem_map.2 ⟨x, h, rfl⟩
theorem obs_at {l : List Ov} {j : Nat} {y : Ob} (h : (obs l)[j]? = some y) : ∃ x, l[j]? = some x ∧ x.o = y := by
  unfold obs at h
  rw [List.getElem?_map] at h
  exact Option.map_eq_some_iff.1 h
/-- Its items lie there; its texts are no longer than texts are. -/
structure Lv (W : World) (x : Ov) : Prop where
  t : Txs W x.a x.o.l.length x.c x.o.l
  hn : x.o.n.length ≤ 9223372036854775807
  hd : x.o.d.length ≤ 9223372036854775807
theorem Lv.more {A B : World} {x : Ov} (h : Lv A x) (k : Below A.heap.size A B) : Lv B x := ⟨h.t.more k, h.hn, h.hd⟩
theorem Lv.of_block {A B : World} {x : Ov} (h : Lv A x) (k : ∀ a, x.a = some a → a.block < A.heap.size → B.heap[a.block]? = A.heap[a.block]?) : Lv B x := ⟨h.t.of_block k, h.hn, h.hd⟩
/-- An object's five cells, at block b from o on. -/
def ObAt (W : World) (b o : Nat) (x : Ov) : Prop :=
  W.cell? ⟨b, o, none⟩ = some (.string (bs x.o.n)) ∧ W.cell? ⟨b, o + 1, none⟩ = some (.int .i64 x.o.k) ∧ W.cell? ⟨b, o + 2, none⟩ = some (.string (bs x.o.d)) ∧ W.cell? ⟨b, o + 3, none⟩ = some (.int .i64 x.o.m) ∧ W.cell? ⟨b, o + 4, none⟩ = some (.slice x.a x.o.l.length x.c)
theorem ObAt.of_block {A B : World} {b o : Nat} {x : Ov} (h : ObAt A b o x) (e : B.heap[b]? = A.heap[b]?) : ObAt B b o x :=
  ⟨(World.cell?_of_block (a := ⟨b, o, none⟩) e).trans h.1, (World.cell?_of_block (a := ⟨b, o + 1, none⟩) e).trans h.2.1, (World.cell?_of_block (a := ⟨b, o + 2, none⟩) e).trans h.2.2.1, (World.cell?_of_block (a := ⟨b, o + 3, none⟩) e).trans h.2.2.2.1, (World.cell?_of_block (a := ⟨b, o + 4, none⟩) e).trans h.2.2.2.2⟩
theorem ObAt.lt {A : World} {b o : Nat} {x : Ov} (h : ObAt A b o x) : b < A.heap.size := World.block_lt_of_cell? A _ h.1
theorem ObAt.more {A B : World} {b o : Nat} {x : Ov} (h : ObAt A b o x) (k : Below A.heap.size A B) : ObAt B b o x := h.of_block (k.block _ h.lt)
theorem ObAt.var {W : World} {b : Nat} {x : Ov} (h : ObAt W b 0 x) : W.cell? ⟨b, 0, none⟩ = some (.string (bs x.o.n)) ∧ W.cell? ⟨b, 1, none⟩ = some (.int .i64 x.o.k) ∧ W.cell? ⟨b, 2, none⟩ = some (.string (bs x.o.d)) ∧ W.cell? ⟨b, 3, none⟩ = some (.int .i64 x.o.m) ∧ W.cell? ⟨b, 4, none⟩ = some (.slice x.a x.o.l.length x.c) := h
/-- A variable that holds the object. -/
theorem ObAt.new (W : World) (x : Ov) (t : TypeId) : ObAt (W.alloc (.cells #[.string (bs x.o.n), .int .i64 x.o.k, .string (bs x.o.d), .int .i64 x.o.m, .slice x.a x.o.l.length x.c] t)) W.heap.size 0 x := ⟨by simp, by simp, by simp, by simp, by simp⟩

/-- The slice holds the objects zs. -/
structure Objs (W : World) (ao : Option Addr) (len cap : Nat) (zs : List Ov) : Prop where
  hlen : zs.length = len
  hle : len ≤ cap
  hmax : cap ≤ maxLen
  hnone : ao = none → cap = 0
  hrows : ∀ x ∈ zs, Lv W x
  hcells : zs ≠ [] → ∃ b off, ao = some ⟨b, off, none⟩ ∧ ∀ j x, zs[j]? = some x → ObAt W b (off + j * 5) x
theorem Objs.of_block {A B : World} {ao : Option Addr} {len cap : Nat} {zs : List Ov} (h : Objs A ao len cap zs) (hr : ∀ x ∈ zs, Lv B x) (k : ∀ a, ao = some a → a.block < A.heap.size → B.heap[a.block]? = A.heap[a.block]?) : Objs B ao len cap zs :=
  ⟨h.hlen, h.hle, h.hmax, h.hnone, hr, fun hz => by
    obtain ⟨b, off, e, hc⟩ := h.hcells hz
    exact ⟨b, off, e, fun j x hj => (hc j x hj).of_block (k _ e (hc j x hj).lt)⟩⟩
theorem Objs.more {A B : World} {ao : Option Addr} {len cap : Nat} {zs : List Ov} (h : Objs A ao len cap zs) (k : Below A.heap.size A B) : Objs B ao len cap zs := h.of_block (fun x hx => (h.hrows x hx).more k) fun _ _ hb => k.block _ hb
theorem Objs.nil (W : World) : Objs W none 0 0 [] := ⟨rfl, Nat.le_refl _, Nat.zero_le _, fun _ => rfl, fun _ h => (by cases h), fun h => absurd rfl h⟩
theorem Objs.at {W : World} {ao : Option Addr} {len cap : Nat} {zs : List Ov} (h : Objs W ao len cap zs) (hp : 0 < len) : ∃ b off, ao = some ⟨b, off, none⟩ ∧ b < W.heap.size ∧ ∀ j x, zs[j]? = some x → ObAt W b (off + j * 5) x := by
  have hz : zs ≠ [] := fun e => by have := h.hlen; rw [e] at this; simp at this; omega
  obtain ⟨b, off, e, hc⟩ := h.hcells hz
  obtain ⟨x, hx⟩ : ∃ x, zs[0]? = some x := ⟨_, List.getElem?_eq_getElem (by rw [h.hlen]; exact hp)⟩
  exact ⟨b, off, e, (hc 0 x hx).lt, hc⟩
theorem Objs.apart {w W : World} {ao : Option Addr} {len cap : Nat} {zs : List Ov} (h : Objs w ao len cap zs) (k : Below w.heap.size w W) {X : Nat} (hX : w.heap.size ≤ X) : 0 < len → ∀ a, ao = some a → a.block < W.heap.size ∧ a.block ≠ X := by
  intro hp a e
  obtain ⟨b, off, e', hb, _⟩ := h.at hp
  rw [e] at e'
  obtain rfl := Option.some.inj e'
  have := k.size
  exact ⟨Nat.lt_of_lt_of_le hb this, fun q => by simp only at q; omega⟩
theorem Objs.row {W : World} {ao : Option Addr} {len cap : Nat} {zs : List Ov} (h : Objs W ao len cap zs) {k : Nat} {x : Ov} (hx : zs[k]? = some x) : Lv W x := h.hrows x (List.mem_of_getElem? hx)
theorem Objs.take {W : World} {ao : Option Addr} {len cap : Nat} {zs : List Ov} (h : Objs W ao len cap zs) (k c : Nat) (hk : k ≤ len) (hc : k ≤ c) (hcc : c ≤ cap) : Objs W ao k c (zs.take k) := by
  refine ⟨by rw [List.length_take, h.hlen]; omega, hc, Nat.le_trans hcc h.hmax, fun e => by have := h.hnone e; omega, fun x hx => h.hrows x (List.mem_of_mem_take hx), fun hz => ?_⟩
  obtain ⟨b, off, e, hcs⟩ := h.hcells (fun e => hz (by rw [e]; simp))
  refine ⟨b, off, e, fun j x hj => ?_⟩
  rw [List.getElem?_take] at hj
  split at hj
  · exact hcs j x hj
  · cases hj
/-- The address of what is behind e. -/
def fromO (ao : Option Addr) (e cap : Nat) : Option Addr := if cap = e then ao else ao.map (·.add (e * 5))
theorem Objs.from {W : World} {ao : Option Addr} {len cap : Nat} {zs : List Ov} (h : Objs W ao len cap zs) (e : Nat) (he : e ≤ len) : Objs W (fromO ao e cap) (len - e) (cap - e) (zs.drop e) := by
  have hm := h.hmax
  have hle := h.hle
  refine ⟨by rw [List.length_drop, h.hlen], by omega, by omega, fun q => ?_, fun x hx => h.hrows x (List.mem_of_mem_drop hx), fun hz => ?_⟩
  · unfold fromO at q
    by_cases e1 : cap = e
    · omega
    · rw [if_neg e1] at q
      cases ao with
      | none => have := h.hnone rfl; omega
      | some x => simp at q
  · have hlt : e < len := by
      rcases Nat.lt_or_ge e len with q | q
      · exact q
      · exact absurd (List.drop_eq_nil_of_le (by rw [h.hlen]; exact q)) hz
    obtain ⟨b, off, rfl, hc⟩ := h.hcells (fun q => hz (by rw [q]; simp))
    refine ⟨b, off + e * 5, ?_, fun j x hj => ?_⟩
    · unfold fromO
      rw [if_neg (by omega)]
      simp [add_at]
    · rw [List.getElem?_drop] at hj
      have := hc _ x hj
      rw [show off + e * 5 + j * 5 = off + (e + j) * 5 by omega]
      exact this

/-- Objects' cells. -/
def cells5 (x : Ov) : List Value := [.string (bs x.o.n), .int .i64 x.o.k, .string (bs x.o.d), .int .i64 x.o.m, .slice x.a x.o.l.length x.c]
def ocl : List Ov → List Value
  | [] => []
  | x :: r => cells5 x ++ ocl r
theorem ocl_append (l m : List Ov) : ocl (l ++ m) = ocl l ++ ocl m := by
  induction l with
  | nil => rfl
  | cons a r ih => simp [ocl, ih]
theorem ocl_one (x : Ov) : ocl [x] = cells5 x := by simp [ocl]




theorem ocl_get (l : List Ov) (j : Nat) (x : Ov) (h : l[j]? = some x) : ∀ i u, (cells5 x)[i]? = some u → (ocl l)[j * 5 + i]? = some u := by
  induction l generalizing j with
  | nil => simp at h
  | cons a r ih =>
    intro i u hu
    have hi : i < 5 := (List.getElem?_eq_some_iff.1 hu).1
    cases j with
    | zero =>
      simp at h
      subst h
      show (cells5 a ++ ocl r)[0 * 5 + i]? = _
      rw [List.getElem?_append_left (by simp [cells5]; omega)]
      simpa using hu
    | succ j =>
      have h2 := ih j (by simpa using h) i u hu
      show (cells5 a ++ ocl r)[(j + 1) * 5 + i]? = _
      rw [List.getElem?_append_right (by simp [cells5]; omega)]
      rw [← h2]
      congr 1
      simp [cells5]
      omega









theorem obs_cells {W : World} {b off : Nat} {zs : List Ov} (h : ∀ j x, zs[j]? = some x → ObAt W b (off + j * 5) x) : ∀ j u, (ocl zs)[j]? = some u → W.cell? ((⟨b, off, none⟩ : Addr).add j) = some u := by
  induction zs generalizing off with
  | nil => intro j u hu; simp [ocl] at hu
  | cons a r ih =>
    intro j u hu
    obtain ⟨k0, k1, k2, k3, k4⟩ := h 0 a rfl
    match j, hu with
    | 0, hu => simp [ocl, cells5] at hu; subst hu; rw [add_at]; simpa using k0
    | 1, hu => simp [ocl, cells5] at hu; subst hu; rw [add_at]; simpa using k1
    | 2, hu => simp [ocl, cells5] at hu; subst hu; rw [add_at]; simpa using k2
    | 3, hu => simp [ocl, cells5] at hu; subst hu; rw [add_at]; simpa using k3
    | 4, hu => simp [ocl, cells5] at hu; subst hu; rw [add_at]; simpa using k4
    | j + 5, hu =>
      have hu' : (ocl r)[j]? = some u := by simpa [ocl, cells5] using hu
      have := ih (off := off + 5) (fun i x hx => by
        have := h (i + 1) x (by simpa using hx)
        rw [show off + 5 + i * 5 = off + (i + 1) * 5 by omega]
        exact this) j u hu'
      rw [add_at] at this ⊢
      rw [show off + (j + 5) = off + 5 + j by omega]
      exact this
theorem Objs.news {W : World} {ao : Option Addr} {len cap : Nat} {zs : List Ov} (h : Objs W ao len cap zs) : ∀ ad, ao = some ad → ∀ j u, (ocl zs)[j]? = some u → W.cell? (ad.add j) = some u := by
  intro ad had j u hu
  have hz : zs ≠ [] := fun h0 => by rw [h0] at hu; simp [ocl] at hu
  obtain ⟨b, off, hao, hc⟩ := h.hcells hz
  rw [had] at hao
  obtain rfl := Option.some.inj hao
  exact obs_cells hc j u hu
theorem Objs.nones {W : World} {ao : Option Addr} {len cap : Nat} {zs : List Ov} (h : Objs W ao len cap zs) : ao = none → len = 0 ∧ cap = 0 := fun e => by
  have := h.hnone e
  have := h.hle
  omega
theorem ob_new (W : World) (x : Ov) (t : TypeId) : ∀ j u, (cells5 x)[j]? = some u → (W.alloc (.cells #[.string (bs x.o.n), .int .i64 x.o.k, .string (bs x.o.d), .int .i64 x.o.m, .slice x.a x.o.l.length x.c] t)).cell? ((⟨W.heap.size, 0, none⟩ : Addr).add j) = some u := by
  intro j u hu
  rw [add_at, World.cell?_alloc_at _ _ _ _ rfl]
  simpa [cells5] using hu

/-- The slice v has the objects l, in a row of its own from n0 on, or is nil. -/
def OwnO (n0 : Nat) (W : World) (v : Value) (l : List Ov) : Prop := W.ownsRow n0 51 5 v l.length (ocl l)
theorem OwnO.slice {n0 : Nat} {W : World} {v : Value} {l : List Ov} (h : OwnO n0 W v l) : ∃ a c, v = .slice a l.length c := by
  rcases h.2 with ⟨rfl, h0⟩ | ⟨g, cap, cur, rfl, _⟩
  · exact ⟨none, 0, by rw [h0]⟩
  · exact ⟨_, cap, rfl⟩
theorem OwnO.nil (n0 : Nat) (W : World) : OwnO n0 W (.slice none 0 0) [] := World.ownsRow_nil _ _ _ _
theorem OwnO.more {n0 : Nat} {A B : World} {v : Value} {l : List Ov} (h : OwnO n0 A v l) (k : Below A.heap.size A B) : OwnO n0 B v l := by
  refine ⟨h.1, ?_⟩
  rcases h.2 with ⟨e, h0⟩ | ⟨g, cap, cur, e, hb, hg, rest⟩
  · exact .inl ⟨e, h0⟩
  · exact .inr ⟨g, cap, cur, e, hb, (k.block g (Array.getElem?_eq_some_iff.1 hg).1).trans hg, rest⟩
theorem OwnO.objs {n0 : Nat} {W : World} {a : Option Addr} {len c : Nat} {l : List Ov} (h : OwnO n0 W (.slice a len c) l) (hl : l.length = len) (hf : ∀ x ∈ l, Lv W x) : Objs W a len c l := by
  have h' : W.ownsRow n0 51 5 (.slice a len c) l.length (ocl l) := h
  rcases h.2 with ⟨e, h0⟩ | ⟨g, cap, cur, e, hb, hg, hn, hm, _⟩
  · injection e with e1 e2 e3
    subst e1 e2 e3
    obtain rfl := List.eq_nil_of_length_eq_zero h0
    exact Objs.nil W
  · injection e with e1 e2 e3
    subst e1 e2 e3
    refine ⟨hl, by omega, hm, (fun h => by cases h), hf, fun _ => ⟨g, 0, rfl, fun j x hj => ?_⟩⟩
    have k := ocl_get l j x hj
    have hjl := (List.getElem?_eq_some_iff.1 hj).1
    rw [Nat.zero_add]
    exact ⟨(World.ownsRow.cellAt h' (j * 5) (by omega)).trans (k 0 _ rfl), (World.ownsRow.cellAt h' _ (by omega)).trans (k 1 _ rfl), (World.ownsRow.cellAt h' _ (by omega)).trans (k 2 _ rfl), (World.ownsRow.cellAt h' _ (by omega)).trans (k 3 _ rfl), (World.ownsRow.cellAt h' _ (by omega)).trans (k 4 _ rfl)⟩

end Go.Proofs.YtlafcplcjpcikaaGreatDoor

/- errors.As at the one target, a variable of type space.fault: nil, a fault, and one that is wrapped. -/
namespace Go.Proofs.YtlafcplcjpcikaaGreatDoor.Sp
open Go.RowKit Go.Extern.Stop Go.Stop Go.Extern Go.Shelf

/-- errors.As(nil, target). -/
theorem as_nil (t : Value) (w : World) :
    Calls Tryz.prog 67 #[.nilIface, t] w fun e w' => e = .returned (.bool false) ∧ w = w' := by
  go_enter Tryz.func67, Tryz.ntmps67
  go_wp2
  go_ret
  exact ⟨rfl, rfl⟩

theorem asMK (h : Value) (w : World) : (Go.method 319 142 (.agg #[h]) "Kind").run Tryz.prog w = .ok (132, h) w := by kernel_rfl
theorem asKs (w : World) : ((ReflectliteType.abiMethod fun t => (fun a : Nat => Value.int IntKind.u8 (a : Int)) <$> Rtype.kind t) #[.pointer (some ⟨3, 134, none⟩)]).run Tryz.prog w = .ok (.int .u8 25) w := by kernel_rfl

theorem asME (h : Value) (w : World) : (Go.method 319 142 (.agg #[h]) "Elem").run Tryz.prog w = .ok (146, .agg #[h]) w := by kernel_rfl
theorem asMI (h : Value) (w : World) : (Go.method 319 142 (.agg #[h]) "Implements").run Tryz.prog w = .ok (147, .agg #[h]) w := by kernel_rfl
theorem asMA (h : Value) (w : World) : (Go.method 319 142 (.agg #[h]) "AssignableTo").run Tryz.prog w = .ok (144, .agg #[h]) w := by kernel_rfl
theorem asImpl (w : World) : (ReflectliteType.relation "Implements" ReflectliteType.implements_ #[.agg #[.pointer (some ⟨3, 134, none⟩)], .iface 142 (.agg #[.pointer (some ⟨3, 57, none⟩)])]).run Tryz.prog w = .ok (.bool true) w := by kernel_rfl
theorem asTypeOf (v : Value) (w : World) : (ReflectliteType.typeOf #[.iface 134 v]).run Tryz.prog w = .ok (.iface 142 (.agg #[.pointer (some ⟨3, 134, none⟩)])) w := by kernel_rfl
theorem asAssign (w : World) : (ReflectliteType.relation "AssignableTo" ReflectliteType.assignableTo #[.agg #[.pointer (some ⟨3, 134, none⟩)], .iface 142 (.agg #[.pointer (some ⟨3, 134, none⟩)])]).run Tryz.prog w = .ok (.bool true) w := by kernel_rfl
theorem asVs (l c : Value) (w : World) : (ReflectliteValue.unpack (.iface 134 (.agg #[l, c]))).run Tryz.prog w
    = .ok (.agg #[.pointer (some ⟨3, 134, none⟩), .pointer (some ⟨w.heap.size, 0, none⟩), .int .u64 153]) (w.alloc (.cells #[l, c] 134)) := by kernel_rfl
theorem asMk (p : Addr) (w : World) : (ReflectliteValue.mk 134 p ReflectliteValue.flagAddr).run Tryz.prog w = .ok (.agg #[.pointer (some ⟨3, 134, none⟩), .pointer (some p), .int .u64 409]) w := by kernel_rfl
theorem asPartsA (a : Addr) (w : World) : (ReflectliteValue.parts (.agg #[.pointer (some ⟨3, 134, none⟩), .pointer (some a), .int .u64 409])).run Tryz.prog w = .ok (some (134, a, 409)) w := by kernel_rfl
theorem asPartsS (a : Addr) (w : World) : (ReflectliteValue.parts (.agg #[.pointer (some ⟨3, 134, none⟩), .pointer (some a), .int .u64 153])).run Tryz.prog w = .ok (some (134, a, 153)) w := by kernel_rfl
theorem asDirect (w : World) : (Rtype.directlyAssignable 134 134).run Tryz.prog w = .ok true w := by kernel_rfl



/-- (Value).Set: the variable at block t gets what the Value's own variable at block b holds. -/
theorem asSet (t b : Nat) (l : Int) (c : ByteArray) (o0 o1 : Value) (W : World) (h0 : W.cell? ⟨b, 0, none⟩ = some (.int .i64 l)) (h1 : W.cell? ⟨b, 1, none⟩ = some (.string c))
    (t0 : W.cell? ⟨t, 0, none⟩ = some o0) (t1 : W.cell? ⟨t, 1, none⟩ = some o1)
    (f0 : W.frozen? ⟨t, 0, none⟩ = false) (f1 : W.frozen? ⟨t, 1, none⟩ = false) :
    (ReflectliteValue.set #[.agg #[.pointer (some ⟨3, 134, none⟩), .pointer (some ⟨t, 0, none⟩), .int .u64 409], .agg #[.pointer (some ⟨3, 134, none⟩), .pointer (some ⟨b, 0, none⟩), .int .u64 153]]).run Tryz.prog W
      = .ok (.tuple #[]) ((W.setCell ⟨t, 0, none⟩ (.int .i64 l)).setCell ⟨t, 1, none⟩ (.string c)) := by
  have u1 : (W.setCell ⟨t, 0, none⟩ (.int .i64 l)).cell? ⟨t, 1, none⟩ = some o1 := (World.cell?_setCell_other _ _ _ _ (by simp)).trans t1
  have hl := run_loadCells_list (P := Tryz.prog) W ⟨b, 0, none⟩ [.int .i64 l, .string c] (fun j v hj => by
    match j with
    | 0 => obtain rfl := Option.some.inj hj; exact h0
    | 1 => obtain rfl := Option.some.inj hj; exact h1
    | n + 2 => simp at hj)
  simp only [List.length_cons, List.length_nil, Nat.reduceAdd] at hl
  show (ReflectliteValue.parts (.agg #[.pointer (some ⟨3, 134, none⟩), .pointer (some ⟨t, 0, none⟩), .int .u64 409]) >>= fun _ => ReflectliteValue.parts (.agg #[.pointer (some ⟨3, 134, none⟩), .pointer (some ⟨b, 0, none⟩), .int .u64 153]) >>= fun _ => _ : Sem Value).run Tryz.prog W = _
  simp only [Sem.run_bind, asPartsA, asPartsS, Result.andThen]
  simp [ReflectliteValue.flagAddr, loadVar, isAgg, underlying, Tryz.underlying134, hl, Result.andThen, asDirect, storeVar, Value.cells, storeCells, Addr.add]
  rw [run_store_int]
  simp [stored, t0, f0]
  rw [run_store _ _ _ (.string c) _ rfl]
  simp [u1, f1, World.frozen?_setCell]















end Go.Proofs.YtlafcplcjpcikaaGreatDoor.Sp

/- What callers are told. -/
namespace Go.Proofs.YtlafcplcjpcikaaGreatDoor.Sp
open Go.RowKit Go.Shelf

/-- errors.errorType's cell. -/
def ErrT (w : World) : Prop := w.cell? ⟨0, 0, none⟩ = some (.iface 142 (.agg #[.pointer (some ⟨3, 57, none⟩)]))
theorem ErrT.more {A B : World} (h : ErrT A) (k : Below A.heap.size A B) : ErrT B := (k.cell (p := ⟨0, 0, none⟩) (World.block_lt_of_cell? A _ h)).trans h
/-- A fault, and one with a name. -/
def flt (k : Int) (s : ByteArray) : Value := .iface 134 (.agg #[.int .i64 k, .string s])
def abt (nm : ByteArray) (k : Int) (s : ByteArray) : Value := .iface 139 (.agg #[.string nm, flt k s])
/-- The error v: none (k = 0), or a fault of that number, with a name or not. -/
inductive ErrIs : Value → Int → Prop
  | ok : ErrIs .nilIface 0
  | flt (k : Int) (s : ByteArray) : ErrIs (flt k s) k
  | abt (nm : ByteArray) (k : Int) (s : ByteArray) : ErrIs (abt nm k s) k
theorem as_nil_any (t : Value) (w : World) : Calls Tryz.prog 67 #[.nilIface, t] w fun e w' => e = .returned (.bool false) ∧ Below w.heap.size w w' :=
  (as_nil t w).mono fun _ _ ⟨h, hw⟩ => ⟨h, hw ▸ Below.refl _ _⟩
theorem new2 (w : World) (v0 v1 : Value) (t : TypeId) : (w.alloc (.cells #[v0, v1] t)).cell? ⟨w.heap.size, 0, none⟩ = some v0 ∧ (w.alloc (.cells #[v0, v1] t)).cell? ⟨w.heap.size, 1, none⟩ = some v1 ∧
    (w.alloc (.cells #[v0, v1] t)).frozen? ⟨w.heap.size, 0, none⟩ = false ∧ (w.alloc (.cells #[v0, v1] t)).frozen? ⟨w.heap.size, 1, none⟩ = false := by
  refine ⟨?_, ?_, ?_, ?_⟩
  · rw [World.cell?_alloc_at _ _ _ _ rfl]; rfl
  · rw [World.cell?_alloc_at _ _ _ _ rfl]; rfl
  · simp
  · simp
end Go.Proofs.YtlafcplcjpcikaaGreatDoor.Sp

/- A range over a function whose loop variables lie in memory and whose values hang on those before; what an iterator may lean on that hands on what another one yields. A law beside the library's. -/
namespace Go.Proofs.YtlafcplcjpcikaaGreatDoor
open Go.RowKit Go.Shelf

theorem KeepsFrom.up {B B' : Nat} {W W' : World} (h : KeepsFrom B W W') (hB : B ≤ B') : KeepsFrom B' W W' := ⟨h.size, fun k o hk hw ho => h.same k o (Nat.le_trans hB hk) hw ho⟩
theorem keepsFrom_put (W : World) (l : Nat) (o' : Obj) (B : Nat) (h : l < B) : KeepsFrom B W (W.putObj l o') := KeepsFrom.of_grownBy (grownBy_putObj' W l o') (fun j e => by cases e; exact h)
/-- A round for yield, where the fence has no depth, in whatever round. -/
theorem YieldAt.any {m : Nat} (m' : Nat) {P : Program} {l : Nat} {args : Array Value} {W : World} {R : Ending → World → Prop} (h : YieldAt Fence.wide m P l args W R) (l0 : Nat) :
    ∃ fn tmps assign body, (Instr.yield l args).run P W = .ok (.round l fn tmps assign body) W ∧ RoundIn (Fence.wide.inRound l0) m' P l fn tmps assign body W R := by
  obtain ⟨fn, tmps, assign, body, hy, hR⟩ := h
  exact ⟨fn, tmps, assign, body, hy, ⟨hR.1, fun c cs _ => hR.2 c cs (room_wide _)⟩⟩

/-- The iterator's contract: H tells what is sure of a value behind those that have come; Kp what a round keeps that goes on. -/
def SeqY {α : Type} (H : List α → α → Prop) (n : Nat) (P : Program) (g : Nat) (lb : Array Value) (encs : α → Array Value) (Kp : World → World → Prop) (S Sp : List α → Prop) (w : World) : Prop :=
  ∀ (l : Nat) (J Jx : List α → World → Prop) (W : World), Below w.heap.size w W → w.heap.size + 2 ≤ W.heap.size → OwnFrom W.heap.size J → OwnFrom W.heap.size Jx →
    (∀ pre x W1, J pre W1 → H pre x → YieldAt Fence.wide (n - 1) P l (encs x) W1 fun e W' => (e = .returned (.bool true) ∧ J (pre ++ [x]) W' ∧ Kp W1 W' ∧ KeepsFrom (w.heap.size + 2) W1 W') ∨ (e = .returned (.bool false) ∧ Jx (pre ++ [x]) W' ∧ KeepsFrom (w.heap.size + 2) W1 W')) →
    J [] W → CallsIn Fence.wide n P g (#[.func (.yield l) #[] #[]] ++ lb) W fun e W' => (∃ v, e = .returned v) ∧ ((∃ xs, S xs ∧ J xs W') ∨ (∃ pre, Sp pre ∧ Jx pre W'))
abbrev mkY (D : Nat) : Deferred := { target := .collected D, args := #[] }

section
variable {α : Type} {P : Program} {n : Nat} {g : Operand} {ps : Array Tmp} {assign body : Code} {Q : Exit → Act → World → Prop} {a : Act} {w : World}

/-- The loop's record, in its states. -/
def recY (fn : FuncId) (tm : Array Value) (ps : Array Tmp) (assign body : Code) (d : Nat) (st : LoopState) (pe : Option Code) : Obj := .loop { state := st, pending := pe, fn, tmps := tm, params := ps, assign, body, defers := d }
/-- A round's end: the record says how it went on; the block for deferred calls lies as it lay. -/
theorem endY {fn : FuncId} {tm : Array Value} {d l : Nat} {B : Nat} {W W3 : World} (hB : B ≤ d) (hl : d < l) (hR : W.heap[l]? = some (recY fn tm ps assign body d .busy none)) (hD : W.heap[d]? = some (.deferred (some []))) (hk : KeepsFrom B W W3) (jump : Option Code) :
    (Instr.endRound l jump).run P W3 = .ok (.bool jump.isNone) (W3.putObj l (recY fn tm ps assign body d (if jump.isNone then .ready else .done) jump)) ∧ W3.heap[l]? = some (recY fn tm ps assign body d .busy none) ∧
      (W3.putObj l (recY fn tm ps assign body d (if jump.isNone then .ready else .done) jump)).heap[l]? = some (recY fn tm ps assign body d (if jump.isNone then .ready else .done) jump) ∧
      (W3.putObj l (recY fn tm ps assign body d (if jump.isNone then .ready else .done) jump)).heap[d]? = some (.deferred (some [])) := by
  have h3 := hk.same l _ (by omega) hR rfl
  exact ⟨run_endRound jump h3, h3, World.putObj_heap_same (Array.getElem?_eq_some_iff.1 h3).1, (World.putObj_heap_other (by omega)).trans (hk.same d _ hB hD rfl)⟩

set_option maxHeartbeats 2000000 in
theorem wpIn_rangeY (h1 : 1 ≤ n) {gf : Nat} {lb : Array Value} (hg : a.eval g = .func (.func gf) #[] lb) (eg : ∀ args w, (callFunc gf args).run P w = .ok (.enter gf args) w)
    {encs : α → Array Value} {H : List α → α → Prop} {Kp : World → World → Prop} {S Sp : List α → Prop} (hseq : SeqY H (n - 1) P gf lb encs Kp S Sp w) (hKt : ∀ {A B C : World}, Kp A B → Kp B C → Kp A C) (hKb : ∀ (W : World) (o o' : Obj), W.heap[w.heap.size + 1]? = some o → o.isCells = false → o.isWalk = false → Kp W (W.putObj (w.heap.size + 1) o')) (hps : ∀ x, (encs x).size = ps.size)
    (I : List α → World → Prop) (Ix : Code → List α → World → Prop) (hI : OwnFrom w.heap.size I) (hIx : ∀ c, OwnFrom w.heap.size (Ix c)) (h0 : I [] w) (Ax : α → Act → World → Prop) (hAx : ∀ x a', OwnFrom w.heap.size (fun (_ : Unit) W => Ax x a' W))
    (hassign : ∀ (l : Nat) (pre : List α) (x : α) (W : World) (K : Act → World → Prop), I pre W → H pre x → (∀ a' W', KeepsFrom w.heap.size W W' → Kp W W' → I pre W' → Ax x a' W' → K a' W') →
      assign.wpIn (Fence.wide.inRound l) (n - 1 - 1) P (Exit.then K (fun _ _ _ => False)) { tmps := (ps.zip (encs x)).foldl (fun t (p, v) => t.setIfInBounds p v) a.tmps, defers := [] } W)
    (hbody : ∀ (l : Nat) (pre : List α) (x : α) (a' : Act) (W : World), I pre W → H pre x → Ax x a' W → body.wpIn (Fence.wide.inRound l) (n - 1 - 1) P (ownPostG w.heap.size Kp I Ix (pre ++ [x]) W) a' W)
    (hdone : ∀ (D : Nat) (xs : List α) (W : World), w.heap.size ≤ D → S xs → I xs W → W.heap[D]? = some (.deferred (some [])) → Q .normal { a with defers := mkY D :: a.defers } W)
    (hstop : ∀ (D : Nat) (c : Code) (pre : List α) (W : World), w.heap.size ≤ D → Sp pre → Ix c pre W → W.heap[D]? = some (.deferred (some [])) → c.wpIn Fence.wide n P Q { a with defers := mkY D :: a.defers } W) :
    (Code.rangeFunc g ps assign body).wpIn Fence.wide n P Q a w := by
  refine wpIn_rangeFunc ?_
  intro fn hfn
  have hro : Fence.wide.round = none := rfl
  rw [hro]
  let L (st : LoopState) (pe : Option Code) : Obj := recY fn a.tmps ps assign body w.heap.size st pe
  obtain ⟨V, hV⟩ : ∃ V, (w.alloc (.deferred (some []))).alloc (L .ready none) = V := ⟨_, rfl⟩
  have vL : V.heap[w.heap.size + 1]? = some (L .ready none) := by
    have := World.alloc_heap_new (w.alloc (.deferred (some []))) (L .ready none)
    rw [World.size_alloc] at this
    rw [← hV]
    exact this
  have vD : V.heap[w.heap.size]? = some (.deferred (some [])) := by
    rw [← hV]
    exact (Below.heap_alloc _ _ _ (by simp)).trans (World.alloc_heap_new w _)
  have vB : Below w.heap.size w V := by
    rw [← hV]
    exact (Below.new w _).alloc (by simp) _
  have vZ : V.heap.size = w.heap.size + 2 := by
    rw [← hV, World.size_alloc, World.size_alloc]
  refine ⟨w.heap.size + 1, [mkY w.heap.size], V, { target := .fn (.func gf) lb, args := #[.func (.yield (w.heap.size + 1)) #[] #[]] }, V, gf, #[.func (.yield (w.heap.size + 1)) #[] #[]] ++ lb, V, ?_, ?_, ?_, ?_, fun _ => h1, ?_⟩
  · rw [← hV]
    exact run_enterLoop_outer _ _ _ _ _
  · simp only [resolve, hg]
    simp [go_sem]
  · intro _ _
    trivial
  · simp [invoke, go_sem, eg]
  have keep : ∀ {A B : World} {row : Option Nat} {k : Nat} {o : Obj}, A.grownBy B row → (∀ r, row = some r → V.heap.size ≤ r ∧ ∃ o : Obj, A.heap[r]? = some o ∧ o.isCells = false) → k < w.heap.size + 2 → A.heap[k]? = some o → B.heap[k]? = some o := by
    intro A B row k o hg' hr hk ho
    refine (hg'.block k (Array.getElem?_eq_some_iff.1 ho).1 (fun e => ?_)).trans ho
    have := (hr k e.symm).1
    omega
  have lower : ∀ {A : World} {row : Option Nat}, (∀ r, row = some r → V.heap.size ≤ r ∧ ∃ o : Obj, A.heap[r]? = some o ∧ o.isCells = false) → (∀ r, row = some r → w.heap.size ≤ r ∧ ∃ o : Obj, A.heap[r]? = some o ∧ o.isCells = false) :=
    fun hr r e => ⟨by have := (hr r e).1; omega, (hr r e).2⟩
  refine (hseq (w.heap.size + 1) (fun pre W => I pre W ∧ W.heap[w.heap.size + 1]? = some (L .ready none) ∧ W.heap[w.heap.size]? = some (.deferred (some [])))
    (fun pre W => ∃ c, Ix c pre W ∧ W.heap[w.heap.size + 1]? = some (L .done (some c)) ∧ W.heap[w.heap.size]? = some (.deferred (some []))) V vB (by omega)
    (fun s A B row hs hg' hr => ⟨hI s A B row hs.1 hg' (lower hr), keep hg' hr (by omega) hs.2.1, keep hg' hr (by omega) hs.2.2⟩)
    (fun s A B row hs hg' hr => by
      obtain ⟨c, hc, hl, hk⟩ := hs
      exact ⟨c, hIx c s A B row hc hg' (lower hr), keep hg' hr (by omega) hl, keep hg' hr (by omega) hk⟩)
    ?_ ⟨by rw [← hV]; exact hI.alloc _ (hI.alloc _ h0), vL, vD⟩).mono ?_
  · rintro pre x W ⟨hi, hl, hd⟩ hH
    refine ⟨fn, _, assign, body, run_yield hl (hps x), roundIn_of_wpIn hfn (hassign _ pre x W _ hi hH ?_)⟩
    intro a' Wa hkfa hkpa hia hax
    have hla := hkfa.same _ _ (by omega) hl rfl
    have hda := hkfa.same _ _ (Nat.le_refl _) hd rfl
    have hlt := (Array.getElem?_eq_some_iff.1 hla).1
    refine ⟨_, run_beginRound hla rfl, ?_⟩
    have hl2 : (Wa.putObj (w.heap.size + 1) (L .busy none)).heap[w.heap.size + 1]? = some (L .busy none) := World.putObj_heap_same hlt
    have hd2 : (Wa.putObj (w.heap.size + 1) (L .busy none)).heap[w.heap.size]? = some (.deferred (some [])) := (World.putObj_heap_other (by omega)).trans hda
    have hk2 : Kp Wa (Wa.putObj (w.heap.size + 1) (L .busy none)) := hKb _ _ _ hla rfl rfl
    have hf2 : KeepsFrom (w.heap.size + 2) W (Wa.putObj (w.heap.size + 1) (L .busy none)) := (KeepsFrom.up hkfa (by omega)).trans (keepsFrom_put _ _ _ _ (by omega))
    refine wpIn_mono (hbody _ pre x a' _ (hI.putObj _ hia (by omega) hla rfl) hH ((hAx x a').putObj (s := ()) _ hax (by omega) hla rfl)) ?_
    rintro e a3 W3 hp
    cases e with
    | normal =>
      obtain ⟨hr, hl3, hl4, hk4⟩ := endY (P := P) (Nat.le_refl _) (Nat.lt_succ_self _) hl2 hd2 hp.1 none
      exact ⟨_, _, hr, .inl ⟨rfl, ⟨hI.putObj _ hp.2.2 (by omega) hl3 rfl, hl4, hk4⟩, hKt hkpa (hKt (hKt hk2 hp.2.1) (hKb _ _ _ hl3 rfl rfl)), (hf2.trans (KeepsFrom.up hp.1 (by omega))).trans (keepsFrom_put _ _ _ _ (by omega))⟩⟩
    | ret =>
      obtain ⟨hr, hl3, hl4, hk4⟩ := endY (P := P) (Nat.le_refl _) (Nat.lt_succ_self _) hl2 hd2 hp.1 (some .ret)
      exact ⟨_, _, hr, .inr ⟨rfl, ⟨.ret, (hIx _).putObj _ hp.2 (by omega) hl3 rfl, hl4, hk4⟩, (hf2.trans (KeepsFrom.up hp.1 (by omega))).trans (keepsFrom_put _ _ _ _ (by omega))⟩⟩
    | exit id =>
      obtain ⟨hr, hl3, hl4, hk4⟩ := endY (P := P) (Nat.le_refl _) (Nat.lt_succ_self _) hl2 hd2 hp.1 (some (.exit id))
      exact ⟨_, _, hr, .inr ⟨rfl, ⟨.exit id, (hIx _).putObj _ hp.2 (by omega) hl3 rfl, hl4, hk4⟩, (hf2.trans (KeepsFrom.up hp.1 (by omega))).trans (keepsFrom_put _ _ _ _ (by omega))⟩⟩
    | goto t =>
      obtain ⟨hr, hl3, hl4, hk4⟩ := endY (P := P) (Nat.le_refl _) (Nat.lt_succ_self _) hl2 hd2 hp.1 (some (.goto t))
      exact ⟨_, _, hr, .inr ⟨rfl, ⟨.goto t, (hIx _).putObj _ hp.2 (by omega) hl3 rfl, hl4, hk4⟩, (hf2.trans (KeepsFrom.up hp.1 (by omega))).trans (keepsFrom_put _ _ _ _ (by omega))⟩⟩
    | panic ch => exact hp.elim
    | outgrown => exact hp.elim
  · rintro e W2 ⟨⟨v, rfl⟩, (⟨xs, hS, hi, hl, hd⟩ | ⟨pre, hSp, c, hi, hl, hd⟩)⟩
    · exact ⟨none, _, run_endLoop hl (by simp), hdone _ xs _ (Nat.le_refl _) hS (hI.putObj _ hi (by omega) hl rfl) ((World.putObj_heap_other (by omega)).trans hd)⟩
    · exact ⟨some c, _, run_endLoop hl (by simp), hstop _ c pre _ (Nat.le_refl _) hSp ((hIx c).putObj _ hi (by omega) hl rfl) ((World.putObj_heap_other (by omega)).trans hd)⟩
end

end Go.Proofs.YtlafcplcjpcikaaGreatDoor

/- The objects of a slice, one by one: slices.Values, all. -/
namespace Go.Proofs.YtlafcplcjpcikaaGreatDoor
open Go.RowKit Go.Proofs.Fld Go.Proofs.Rng Go.Proofs.Spc Go.Shelf Go.Sort

attribute [local go_sem] Oper.semAt_some

/-- All blocks that are as p says lie as they lay. -/
def KS (p : Nat → Prop) (A B : World) : Prop := A.heap.size ≤ B.heap.size ∧ ∀ k, p k → B.heap[k]? = A.heap[k]?
theorem KS.refl (p : Nat → Prop) (A : World) : KS p A A := ⟨Nat.le_refl _, fun _ _ => rfl⟩
theorem KS.trans {p : Nat → Prop} {A B C : World} (h : KS p A B) (k : KS p B C) : KS p A C := ⟨Nat.le_trans h.1 k.1, fun i hi => (k.2 i hi).trans (h.2 i hi)⟩
theorem KS.of_below {p : Nat → Prop} {m : Nat} {A B : World} (h : Below m A B) (hp : ∀ k, p k → k < m) : KS p A B := ⟨h.size, fun k hk => h.block k (hp k hk)⟩
theorem KS.put {p : Nat → Prop} (W : World) (l : Nat) (o' : Obj) (h : ¬ p l) : KS p W (W.putObj l o') := ⟨by simp, fun k hk => World.putObj_heap_other (fun e => h (e ▸ hk))⟩
theorem KS.set {p : Nat → Prop} (W : World) (X o : Nat) (v : Value) (h : ¬ p X) : KS p W (W.setCell ⟨X, o, none⟩ v) := ⟨by simp [World.setCell], fun k hk => Below.heap_setCell _ _ _ _ (fun e => h ((show k = X from e) ▸ hk))⟩
theorem KS.obat {p : Nat → Prop} {A B : World} (h : KS p A B) {b o : Nat} {x : Ov} (hc : ObAt A b o x) (hp : p b) : ObAt B b o x := hc.of_block (h.2 _ hp)
theorem own_alloc {β : Type} {B : Nat} {I : β → World → Prop} (h : OwnFrom B I) {s : β} {W : World} (o : Obj) (hs : I s W) : I s (W.alloc o) := h.alloc o hs
theorem take_prefix {α : Type} {zs : List α} {k : Nat} {x : α} (h : zs[k]? = some x) : zs.take k ++ [x] <+: zs := by
  rw [← take_next zs k x h]
  exact List.take_prefix _ _

set_option maxRecDepth 100000 in
set_option maxHeartbeats 4000000 in
theorem vals1 (n : Nat) (hn : 1 ≤ n) (p : Nat → Prop) (B1 len cap : Nat) (ao : Option Addr) (zs : List Ov) (hreach : len ≤ 1000000) (w : World) (hp : ∀ k, p k → k < w.heap.size)
    (hB1 : w.cell? ⟨B1, 0, none⟩ = some (.slice ao len cap)) (hL : Objs w ao len cap zs) (hb : 0 < len → ∀ a, ao = some a → p a.block) :
    SeqY (fun pre x => pre ++ [x] <+: zs) n Tryz.prog 99 #[.pointer (some ⟨B1, 0, none⟩)] (fun x : Ov => #[ov x]) (KS p) (fun ys => ys = zs) (fun pre => pre <+: zs) w := fun l J Jx W hW hWs hJ hJx hY h0 => by
  refine callsIn_of_wp Tryz.func99 rfl trivial ?_ rfl
  simp only [Tryz.ntmps99, List.size_toArray, List.length_cons, List.length_nil, Nat.reduceAdd, Nat.reduceSub, Array.replicate_succ, Array.replicate_zero, List.push_toArray, List.append_toArray, List.nil_append, List.cons_append]
  have hlen := hL.hlen
  have c1 := cell_later hW hB1
  have HLN := Lib.hid hlen
  have HL := Lib.hid hL
  have HB := Lib.hid hb
  have HP := Lib.hid (And.intro hp hW)
  clear hL hb hlen hB1 hp hW hWs
  have HJ0 := Lib.hid hJ
  have HY := Lib.hid hY
  clear hJ hY hJx
  gi_wp2
  gi_loopw [7] (fun i wr => ∃ k : Nat, k ≤ len ∧ i = .int .i64 k ∧ Hid (J (zs.take k) wr) ∧ Hid (KS p W wr))
    (fun i _ => len - (intOf i).toNat)
  case atStart => exact ⟨0, Nat.zero_le _, rfl, by rw [List.take_zero]; exact h0, KS.refl _ _⟩
  case round =>
    obtain ⟨k, hk, rfl, HJ, HNX⟩ := hrel
    by_cases hlt : k < len
    · obtain ⟨x, hx⟩ : ∃ x, zs[k]? = some x := ⟨_, List.getElem?_eq_getElem (by rw [HLN.out]; exact hlt)⟩
      obtain ⟨b, off, rfl, hbW, hcs⟩ := HL.out.at (by omega)
      have hbm := HB.out (by omega) _ rfl
      obtain ⟨q0, q1, q2, q3, q4⟩ := (HNX.out).obat ((hcs k x hx).of_block (HP.out.2.block b hbW)) hbm
      have HX := Lib.hid (take_next zs k x hx)
      have HH := Lib.hid (take_prefix hx)
      have hbr : Below wr.heap.size wr (wr.alloc (.cells #[.string (bs x.o.n), .int .i64 x.o.k, .string (bs x.o.d), .int .i64 x.o.m, .slice x.a x.o.l.length x.c] 51)) := Below.new _ _
      have hsz := HNX.out.1
      have HK1 := Lib.hid (HNX.out.trans (KS.of_below (p := p) hbr (fun i hi => by have := HP.out.1 i hi; have := HP.out.2.size; omega)))
      have HJ1 := Lib.hid (own_alloc HJ0.out (.cells #[.string (bs x.o.n), .int .i64 x.o.k, .string (bs x.o.d), .int .i64 x.o.m, .slice x.a x.o.l.length x.c] 51) HJ.out)
      obtain ⟨fn, tmps, assign, body, hy, hR⟩ := HY.out _ x _ HJ1.out HH.out
      simp only [ov] at hy
      have HR := Lib.hid hR
      clear hcs hbr hx hR
      gi_wp2
      refine HR.out.mono ?_
      rintro e W3 (⟨rfl, hJ3, hk3, _⟩ | ⟨rfl, hJ3, _⟩)
      · have HJ3 := Lib.hid hJ3
        have HK3 := Lib.hid (HK1.out.trans hk3)
        clear hJ3 hk3 hy
        gi_wp2
        go_roundw
        case rel => exact ⟨k + 1, by omega, by simp, by rw [HX.out]; exact HJ3.out, HK3.out⟩
        case measure => simp [intOf]; omega
      · have HJ3 := Lib.hid hJ3
        clear hJ3 hy
        gi_wp2
        refine bodyPost_ret (results_none rfl _ _ _) rfl ?_
        exact ⟨⟨_, rfl⟩, .inr ⟨_, HH.out, HJ3.out⟩⟩
    · obtain rfl : k = len := by omega
      gi_wp2
      go_end0
      exact ⟨⟨_, rfl⟩, .inl ⟨_, rfl, by have h := HJ.out; rw [List.take_of_length_le (Nat.le_of_eq HLN.out)] at h; exact h⟩⟩

/-- all: the iterator, and its box. -/
def AllP (ao : Option Addr) (len cap : Nat) (w : World) (e : Ending) (w' : World) : Prop :=
  e = .returned (.func (.func 99) #[] #[.pointer (some ⟨w.heap.size, 0, none⟩)]) ∧ w.alloc (.cells #[.slice ao len cap] 92) = w'
set_option maxHeartbeats 1000000 in
theorem vals_any (ao : Option Addr) (len cap : Nat) (w : World) :
    Calls Tryz.prog 93 #[.slice ao len cap] w (AllP ao len cap w) := by
  go_enter Tryz.func93, Tryz.ntmps93
  go_wp2
  go_ret
  exact ⟨rfl, rfl⟩
set_option maxHeartbeats 1000000 in
theorem all_any (ao : Option Addr) (len cap : Nat) (w : World) :
    Calls Tryz.prog 79 #[.slice ao len cap] w (AllP ao len cap w) := by
  go_enter Tryz.func79, Tryz.ntmps79
  go_wp2_with (go_at_call 93; refine (vals_any ao len cap _).mono ?_)
  rintro e w1 ⟨rfl, rfl⟩
  go_wp2
  go_ret
  exact ⟨rfl, rfl⟩

end Go.Proofs.YtlafcplcjpcikaaGreatDoor

/- cost: of an object, of all. -/
namespace Go.Proofs.YtlafcplcjpcikaaGreatDoor
open Go.RowKit Go.Proofs.Fld Go.Proofs.Rng Go.Proofs.Spc Go.Shelf Go.Sort

attribute [local go_sem] Oper.semAt_some

theorem ObAt.set {W : World} {b o X : Nat} {x : Ov} {v : Value} (h : ObAt W b o x) (hne : b ≠ X) : ObAt (W.setCell ⟨X, 0, none⟩ v) b o x := h.of_block (Below.heap_setCell _ _ _ _ (fun e => hne e))
theorem obat_keep {A B : World} {row : Option Nat} {b o : Nat} {x : Ov} (h : ObAt A b o x) (hg : A.grownBy B row) (hr : ∀ r, row = some r → ∃ o : Obj, A.heap[r]? = some o ∧ o.isCells = false) : ObAt B b o x :=
  ⟨cell_kept h.1 hg hr, cell_kept h.2.1 hg hr, cell_kept h.2.2.1 hg hr, cell_kept h.2.2.2.1 hg hr, cell_kept h.2.2.2.2 hg hr⟩

set_option maxHeartbeats 1000000 in
theorem cost1_any (x : Ov) (hf : fair x.o) (w : World) : Calls Tryz.prog 80 #[.agg #[.string (bs x.o.n), .int .i64 x.o.k, .string (bs x.o.d), .int .i64 x.o.m, .slice x.a x.o.l.length x.c]] w (IntP (costO x.o) w) := by
  obtain ⟨h1, h2, h3, h4⟩ := hf
  have z1 := bs_size x.o.n
  have z2 := bs_size x.o.d
  have e1 : IntKind.i64.wrap (10 + (x.o.n.length : Int)) = 10 + (x.o.n.length : Int) := by rw [IntKind.wrap_i64]; omega
  have e2 : IntKind.i64.wrap (10 + (x.o.n.length : Int) + (x.o.d.length : Int)) = 10 + (x.o.n.length : Int) + (x.o.d.length : Int) := by rw [IntKind.wrap_i64]; omega
  have e3 : IntKind.i64.wrap (10 + (x.o.n.length : Int) + (x.o.d.length : Int) + x.o.m) = 10 + (x.o.n.length : Int) + (x.o.d.length : Int) + x.o.m := by rw [IntKind.wrap_i64]; omega
  clear h1 h2 h3 h4
  go_enter Tryz.func80, Tryz.ntmps80
  go_wp2
  go_ret
  exact ⟨rfl, Below.new _ _⟩

/-- Blocks ahead of a loop, but one. -/
def butX (m X : Nat) (k : Nat) : Prop := k < m ∧ k ≠ X
theorem ks_put {w : World} {m X : Nat} (hm : m ≤ w.heap.size) (W : World) (o o' : Obj) (_ : W.heap[w.heap.size + 1]? = some o) (_ : o.isCells = false) (_ : o.isWalk = false) : KS (butX m X) W (W.putObj (w.heap.size + 1) o') := KS.put _ _ _ (fun h => by have := h.1; omega)
/-- cost between two rounds. -/
def CoI (w : World) (pre : List Ov) (W : World) : Prop := (Boxed W w.heap.size 3 (.int .i64 (costS (obs pre))) ∧ w.heap.size + 2 ≤ W.heap.size) ∧ Below w.heap.size w W
theorem CoI.own {w : World} {n0 : Nat} (hn : w.heap.size ≤ n0) : OwnFrom n0 (CoI w) := by
  rintro pre A W row ⟨⟨b0, hz⟩, hb⟩ hg hr
  have hb2 := ownFrom_below (β := List Ov) (n₀ := w.heap.size) (w₀ := w) (Nat.le_refl _) hn pre A W row hb hg hr
  exact ⟨⟨boxed_keep b0 hg (fun r e => (hr r e).2), Nat.le_trans hz hg.size⟩, hb2⟩
/-- What a round of cost leaves. -/
theorem cost_round {w W w1 : World} {pre : List Ov} {x : Ov} {s : Int} {Bx : Nat} (h : Bx ≠ w.heap.size ∧ Below w.heap.size w W ∧ costS (obs pre) = s ∧ w.heap.size + 2 ≤ W.heap.size) (hb1 : Below W.drew.heap.size W.drew w1) (b1 : Boxed w1 w.heap.size 3 (.int .i64 s)) :
    KeepsFrom (w.heap.size + 2) W (w1.setCell ⟨w.heap.size, 0, none⟩ (.int .i64 (s + costO x.o))) ∧ KS (butX (w.heap.size + 2) w.heap.size) W (w1.setCell ⟨w.heap.size, 0, none⟩ (.int .i64 (s + costO x.o))) ∧ CoI w (pre ++ [x]) (w1.setCell ⟨w.heap.size, 0, none⟩ (.int .i64 (s + costO x.o))) := by
  obtain ⟨h0, h1, h2, h4⟩ := h
  have hb2 : Below W.heap.size W w1 := (Below.refl _ W).drew.trans hb1
  refine ⟨((keeps_below hb2).trans (KeepsOthers.setCell _ _ _)).from _, (KS.of_below hb2 (fun k hk => by have := hk.1; omega)).trans (KS.set _ _ _ _ (fun h => h.2 rfl)), ⟨?_, ?_⟩, ?_⟩
  · rw [obs_append, costS_append, h2]
    have : costS (obs [x]) = costO x.o := by simp [obs, costS]
    rw [this]
    exact b1.set _
  · exact Nat.le_trans h4 (Nat.le_trans hb2.size (by simp [World.setCell]))
  · exact (below_more h1 (hb2.mono (Nat.le_refl _))).setCell (p := ⟨w.heap.size, 0, none⟩) (Nat.le_refl _) _

set_option maxRecDepth 100000 in
set_option maxHeartbeats 4000000 in
theorem cost_in (n : Nat) (hn : 3 ≤ n) (ao : Option Addr) (len cap : Nat) (zs : List Ov) (hreach : len ≤ 1000000) (hf : ∀ x ∈ zs, fair x.o) (w : World) (hL : Objs w ao len cap zs) :
    CallsIn Fence.wide n Tryz.prog 61 #[.slice ao len cap] w (IntP (costS (obs zs)) w) := by
  have hn1 : 1 ≤ n := by omega
  refine callsIn_of_wp_marks Tryz.func61 rfl trivial ?_ rfl
  simp only [Tryz.ntmps61, List.size_toArray, List.length_cons, List.length_nil, Nat.reduceAdd, Nat.reduceSub, Array.replicate_succ, Array.replicate_zero, List.push_toArray, List.append_toArray, List.nil_append, List.cons_append]
  have HL := Lib.hid (And.intro hL hf)
  clear hL hf
  have b0 := (Boxed.new w 3 (.int .i64 0)).alloc (.cells #[.slice ao len cap] 92)
  have hB : Below w.heap.size w ((w.alloc (.cells #[.int .i64 0] 3)).alloc (.cells #[.slice ao len cap] 92)) := (Below.new w _).alloc (by simp) _
  have hz : ((w.alloc (.cells #[.int .i64 0] 3)).alloc (.cells #[.slice ao len cap] 92)).heap.size = w.heap.size + 2 := by simp
  have hc : ((w.alloc (.cells #[.int .i64 0] 3)).alloc (.cells #[.slice ao len cap] 92)).cell? ⟨w.heap.size + 1, 0, none⟩ = some (.slice ao len cap) := by simp
  gi_wp2_with (refine ⟨trivial, ?_⟩; gi_at_call 79; refine (callsIn_wide.2 (all_any ao len cap _)).mono ?_)
  rintro e W0 ⟨rfl, rfl⟩
  rw [World.size_alloc]
  obtain ⟨W0, hW0⟩ : ∃ W0, (w.alloc (.cells #[.int .i64 0] 3)).alloc (.cells #[.slice ao len cap] 92) = W0 := ⟨_, rfl⟩
  rw [hW0] at b0 hB hz hc ⊢
  have HA := Lib.hid (And.intro b0 (And.intro hB (And.intro hz hc)))
  clear b0 hB hc hW0
  gi_wp2
  refine wpIn_rangeY hn1 (gf := 99) (lb := #[.pointer (some ⟨w.heap.size + 1, 0, none⟩)]) rfl (enters_of Tryz.func99 (by kernel_rfl) rfl)
    (vals1 (n - 1) (by omega) (butX (w.heap.size + 2) w.heap.size) (w.heap.size + 1) len cap ao zs hreach W0 (fun k hk => by have := hk.1; omega) HA.out.2.2.2 (HL.out.1.more HA.out.2.1) ?hap) KS.trans (ks_put (by omega)) (fun _ => rfl)
    (CoI w) (fun _ _ _ => False) ?hI ?hIx ?h0
    (fun x a' W => ∃ Bx, Bx ≠ w.heap.size ∧ ObAt W Bx 0 x ∧ a' = { tmps := #[.slice ao len cap, undef, .int .i64 0, .pointer (some ⟨w.heap.size, 0, none⟩), .pointer (some ⟨Bx, 0, none⟩), .slice ao len cap, .func (.func 99) #[] #[.pointer (some ⟨w.heap.size + 1, 0, none⟩)], .agg #[.string (bs x.o.n), .int .i64 x.o.k, .string (bs x.o.d), .int .i64 x.o.m, .slice x.a x.o.l.length x.c], undef, undef, undef, undef, undef], defers := [] })
    ?hAx ?assign ?body ?done ?stop
  case hap =>
    intro hp a e
    obtain ⟨b, off, e', hbl, _⟩ := HL.out.1.at hp
    rw [e] at e'
    obtain rfl := Option.some.inj e'
    exact ⟨by simp only; omega, by simp only; omega⟩
  case hI => exact CoI.own (by omega)
  case hIx => intro c s A B row hs; exact hs.elim
  case hAx =>
    rintro x a' _ A B row ⟨Bx, h0, h1, rfl⟩ hg hr
    exact ⟨Bx, h0, obat_keep h1 hg (fun r e => (hr r e).2), rfl⟩
  case h0 => exact ⟨⟨HA.out.1, by omega⟩, HA.out.2.1⟩
  case assign =>
    rintro l pre x W K ⟨⟨b1, hz1⟩, hB1⟩ hH hK
    have HK := Lib.hid hK
    have HP := Lib.hid (And.intro b1 hB1)
    clear hK b1 hB1
    simp only [ov]
    gi_wp2
    exact HK.out _ _ ((KeepsOthers.alloc _ _).from _) (KS.of_below (m := W.heap.size) (Below.new W _) (fun k hk => by have := hk.1; omega)) ⟨⟨HP.out.1.alloc _, by simp; omega⟩, HP.out.2.alloc HP.out.2.size _⟩ ⟨W.heap.size, by omega, ObAt.new W x _, rfl⟩
  case body =>
    rintro l pre x a' W ⟨⟨b1, hz1⟩, hB1⟩ hH ⟨Bx, hne, hx, rfl⟩
    have hm : x ∈ zs := hH.subset (by simp)
    have hsum := costS_fair (l := obs pre) (fun y hy => by
      obtain ⟨z, hz, rfl⟩ := obs_mem hy
      exact HL.out.2 z (hH.subset (by simp [hz])))
    have hpl := hH.length_le
    have hlen := HL.out.1.hlen
    rw [obs_length] at hsum
    rw [List.length_append, List.length_cons, List.length_nil] at hpl
    have hfx := HL.out.2 x hm
    have hcx := fair_cost hfx
    obtain ⟨s, hs⟩ : ∃ s, costS (obs pre) = s := ⟨_, rfl⟩
    rw [hs] at b1 hsum
    have hw : IntKind.i64.wrap (s + costO x.o) = s + costO x.o := by rw [IntKind.wrap_i64]; omega
    have HD := Lib.hid (And.intro hfx (And.intro (show ObAt W.drew Bx 0 x from hx) (show Boxed W.drew w.heap.size 3 (.int .i64 s) from b1)))
    have HE := Lib.hid (And.intro hne (And.intro hB1 (And.intro hs hz1)))
    clear b1 hx hB1 hH hm hsum hpl hlen hfx hcx hs hne
    rw [hz]
    gi_wp2
    refine Fi.wpIn_round_held (S := fun w' => ObAt w' Bx 0 x) (by kernel_rfl) (by kernel_rfl) (by rintro ⟨_, _, h⟩; exact h) HD.out.2.1 (fun hS0 => ?_)
    refine wpAnyH_take (i := 1) (oi := { dst := some 9, op := Go.Op.load 51 (Go.Operand.tmp 4), type := 51, pos := "space.go:163", after := #[], guard := none }) (v := ?_) rfl (by kernel_rfl) (by kernel_rfl) (by kernel_rfl) (fun _ _ _ h => h) (Or.inl ⟨by rfl, ?_⟩) hS0 ?_
    rotate_left
    · (intro wq hSw; obtain ⟨g0, g1, g2, g3, g4⟩ := hSw; go_simp; try with_reducible rfl)
    try simp only [Act.put, List.setIfInBounds_toArray, List.set_cons_zero, List.set_cons_succ]
    refine wpAnyH_ready (rs := [0, 2]) (by kernel_rfl) (by simp) ?_
    refine AllReadyH.cons (o := { dst := some 8, op := Go.Op.load 3 (Go.Operand.tmp 3), type := 3, pos := "space.go:163", after := #[], guard := none }) rfl (fun K hK => ?_) (AllReadyH.cons (o := { dst := some 10, op := Go.Op.call { callee := Go.Callee.value (Go.Operand.func 80), args := #[Go.Operand.tmp 9], argTypes := #[51] }, type := 3, pos := "space.go:163", after := #[{ on := 1, ground := Go.Ground.data }], guard := none }) rfl (fun K hK => ?_) AllReadyH.nil)
    · have hS1 := hS0
      have cu := HD.out.2.2.cell
      go_simp
      refine hK.out _ _ hS0 (fun hS2 => ?_)
      clear hK K cu
      try simp only [Act.put, List.setIfInBounds_toArray, List.set_cons_zero, List.set_cons_succ]
      refine wpAnyH_ready (rs := [2]) (by kernel_rfl) (by simp) ?_
      refine AllReadyH.cons (o := { dst := some 10, op := Go.Op.call { callee := Go.Callee.value (Go.Operand.func 80), args := #[Go.Operand.tmp 9], argTypes := #[51] }, type := 3, pos := "space.go:163", after := #[{ on := 1, ground := Go.Ground.data }], guard := none }) rfl (fun K hK => ?_) AllReadyH.nil
      go_simp
      go_at_call 80
      refine (cost1_any x HD.out.1 _).mono ?_
      rintro e w1 ⟨rfl, hb1⟩
      refine hK.out _ _ (ObAt.more HD.out.2.1 hb1) (fun hS3 => ?_)
      clear hK K
      try simp only [Act.put, List.setIfInBounds_toArray, List.set_cons_zero, List.set_cons_succ]
      refine wpAnyH_take (i := 3) (oi := { dst := some 11, op := Go.Op.binOp Go.BinOp.add 3 (Go.Operand.tmp 8) (Go.Operand.tmp 10) 3, type := 3, pos := "space.go:163", after := #[{ on := 0, ground := Go.Ground.data }, { on := 2, ground := Go.Ground.data }], guard := none }) (v := ?_) rfl (by kernel_rfl) (by kernel_rfl) (by kernel_rfl) (fun _ _ _ h => h) (Or.inl ⟨by rfl, ?_⟩) hS3 ?_
      rotate_left
      · (intro wq hSw; obtain ⟨g0, g1, g2, g3, g4⟩ := hSw; go_simp; try with_reducible rfl)
      try simp only [Act.put, List.setIfInBounds_toArray, List.set_cons_zero, List.set_cons_succ]
      refine wpAnyH_ready (rs := [4]) (by kernel_rfl) (by simp) ?_
      refine AllReadyH.cons (o := { dst := none, op := Go.Op.store 3 (Go.Operand.tmp 3) (Go.Operand.tmp 11), type := 0, pos := "space.go:163", after := #[{ on := 3, ground := Go.Ground.data }, { on := 2, ground := Go.Ground.chain }, { on := 0, ground := Go.Ground.phase }, { on := 1, ground := Go.Ground.phase }, { on := 2, ground := Go.Ground.phase }, { on := 3, ground := Go.Ground.phase }], guard := none }) rfl (fun K hK => ?_) AllReadyH.nil
      have b1 := boxed_more HD.out.2.2 hb1
      have cb := b1.cell
      have fb := b1.frozen
      go_simp
      refine hK.out _ _ (ObAt.set (ObAt.more HD.out.2.1 hb1) HE.out.1) (fun hS9 => ?_)
      clear hK K cb fb
      try simp only [Act.put, List.setIfInBounds_toArray, List.set_cons_zero, List.set_cons_succ]
      refine wpAnyH_done (by kernel_rfl) ?_ _
      exact cost_round HE.out hb1 b1
    · have hS1 := hS0
      go_simp
      go_at_call 80
      refine (cost1_any x HD.out.1 _).mono ?_
      rintro e w1 ⟨rfl, hb1⟩
      refine hK.out _ _ (ObAt.more HD.out.2.1 hb1) (fun hS3 => ?_)
      clear hK K
      try simp only [Act.put, List.setIfInBounds_toArray, List.set_cons_zero, List.set_cons_succ]
      refine wpAnyH_ready (rs := [0]) (by kernel_rfl) (by simp) ?_
      refine AllReadyH.cons (o := { dst := some 8, op := Go.Op.load 3 (Go.Operand.tmp 3), type := 3, pos := "space.go:163", after := #[], guard := none }) rfl (fun K hK => ?_) AllReadyH.nil
      have cu := (boxed_more HD.out.2.2 hb1).cell
      go_simp
      refine hK.out _ _ hS3 (fun hS4 => ?_)
      clear hK K cu
      try simp only [Act.put, List.setIfInBounds_toArray, List.set_cons_zero, List.set_cons_succ]
      refine wpAnyH_take (i := 3) (oi := { dst := some 11, op := Go.Op.binOp Go.BinOp.add 3 (Go.Operand.tmp 8) (Go.Operand.tmp 10) 3, type := 3, pos := "space.go:163", after := #[{ on := 0, ground := Go.Ground.data }, { on := 2, ground := Go.Ground.data }], guard := none }) (v := ?_) rfl (by kernel_rfl) (by kernel_rfl) (by kernel_rfl) (fun _ _ _ h => h) (Or.inl ⟨by rfl, ?_⟩) hS4 ?_
      rotate_left
      · (intro wq hSw; obtain ⟨g0, g1, g2, g3, g4⟩ := hSw; go_simp; try with_reducible rfl)
      try simp only [Act.put, List.setIfInBounds_toArray, List.set_cons_zero, List.set_cons_succ]
      refine wpAnyH_ready (rs := [4]) (by kernel_rfl) (by simp) ?_
      refine AllReadyH.cons (o := { dst := none, op := Go.Op.store 3 (Go.Operand.tmp 3) (Go.Operand.tmp 11), type := 0, pos := "space.go:163", after := #[{ on := 3, ground := Go.Ground.data }, { on := 2, ground := Go.Ground.chain }, { on := 0, ground := Go.Ground.phase }, { on := 1, ground := Go.Ground.phase }, { on := 2, ground := Go.Ground.phase }, { on := 3, ground := Go.Ground.phase }], guard := none }) rfl (fun K hK => ?_) AllReadyH.nil
      have b1 := boxed_more HD.out.2.2 hb1
      have cb := b1.cell
      have fb := b1.frozen
      go_simp
      refine hK.out _ _ (ObAt.set (ObAt.more HD.out.2.1 hb1) HE.out.1) (fun hS9 => ?_)
      clear hK K cb fb
      try simp only [Act.put, List.setIfInBounds_toArray, List.set_cons_zero, List.set_cons_succ]
      refine wpAnyH_done (by kernel_rfl) ?_ _
      exact cost_round HE.out hb1 b1
  case done =>
    rintro D ys W hD rfl ⟨⟨b1, hz1⟩, hB1⟩ hK
    have cb1 := b1.cell
    have HU := Lib.hid (And.intro hB1 hK)
    clear b1 hB1 hK
    gi_wp2
    refine ⟨by simp, .inl ⟨_, _, rfl, run_takeDeferred HU.out.2, ?_⟩⟩
    exact ⟨.int .i64 (costS (obs ys)), by simp [results, Tryz.results61, go_sem], rfl, HU.out.1.trans (belowK_b (w := w) (Nat.le_refl _) W D _ _ (by omega) HU.out.2 rfl rfl)⟩
  case stop =>
    rintro D c pre W _ _ h _
    exact h.elim
theorem costS_any (ao : Option Addr) (len cap : Nat) (zs : List Ov) (hreach : len ≤ 1000000) (hf : ∀ x ∈ zs, fair x.o) (w : World) (hL : Objs w ao len cap zs) :
    Calls Tryz.prog 61 #[.slice ao len cap] w (IntP (costS (obs zs)) w) := (callsIn_wide (n := 3)).1 (cost_in 3 (by omega) ao len cap zs hreach hf w hL)

end Go.Proofs.YtlafcplcjpcikaaGreatDoor

/- IsName: the program's, by runes; the document's, by bytes. -/
namespace Go.Proofs.YtlafcplcjpcikaaGreatDoor
open Go.RowKit Go.Proofs.Fld Go.Proofs.Rng Go.Proofs.Spc Go.Shelf Go.Sort

theorem okC_iff (c : UInt8) : okC c = true ↔ (97 ≤ c.toNat ∧ c.toNat ≤ 122) ∨ (48 ≤ c.toNat ∧ c.toNat ≤ 57) ∨ c.toNat = 46 := by
  simp only [okC, Bool.or_eq_true, Bool.and_eq_true, decide_eq_true_eq, or_assoc]
theorem name_short {s : It} (h : s.length < 1) : nameB s = false := by simp [nameB]; omega
theorem name_long {s : It} (h : 20 < s.length) : nameB s = false := by simp [nameB]; omega
theorem name_bad {p r : It} {c : UInt8} (h : okC c = false) : nameB (p ++ c :: r) = false := by
  cases e : nameB (p ++ c :: r)
  · rfl
  · have := (nameB_iff.1 e).2.2 c (by simp)
    rw [h] at this
    cases this
theorem name_good {s : It} (h1 : 1 ≤ s.length) (h2 : s.length ≤ 20) (h : ∀ c ∈ s, okC c = true) : nameB s = true := nameB_iff.2 ⟨h1, h2, h⟩
theorem str_at (p : It) (b : UInt8) (r : It) : ∃ h : p.length < (bs (p ++ b :: r)).size, (bs (p ++ b :: r))[p.length] = b := by
  have h : p.length < (bs (p ++ b :: r)).size := by rw [bs_size]; simp
  refine ⟨h, ?_⟩
  have e : (bs (p ++ b :: r))[p.length] = (p ++ b :: r)[p.length]'(by simp) := rfl
  rw [e, List.getElem_append_right (by simp)]
  simp
theorem iter_below {w wr : World} {s : ByteArray} {pos : Nat} (h : Below w.heap.size w wr) : Below w.heap.size w (wr.iterAt w.heap.size s pos) :=
  ⟨h.os, h.tape, h.output, by rw [Lib.iterAt_size]; exact h.size, fun k hk => (Lib.iterAt_other wr w.heap.size k s pos (by omega)).trans (h.block k hk)⟩
/-- IsName between two rounds. -/
structure NmI (s p r : It) (w wr : World) : Prop where
  eq : s = p ++ r
  ok : ∀ c ∈ p, okC c = true
  it : wr.heap[w.heap.size]? = some (.stringIter (bs s) p.length)
  below : Below w.heap.size w wr
theorem NmI.next {s p r : It} {c : UInt8} {w wr : World} (h : NmI s p (c :: r) w wr) (hc : okC c = true) : NmI s (p ++ [c]) r w (wr.iterAt w.heap.size (bs s) (p.length + 1)) := by
  refine ⟨by rw [h.eq]; simp, ?_, ?_, iter_below h.below⟩
  · intro y hy
    rcases List.mem_append.1 hy with hy | hy
    · exact h.ok y hy
    · obtain rfl : y = c := by simpa using hy
      exact hc
  · rw [List.length_append]
    exact Lib.iterAt_heap wr w.heap.size (bs s) p.length (p.length + 1) h.it


set_option maxRecDepth 100000 in
set_option maxHeartbeats 4000000 in
theorem isName_any (s : It) (hs : s.length ≤ 9223372036854775807) (w : World) : Calls Tryz.prog 100 #[.string (bs s)] w (BoolP (nameB s) w) := by
  have hz := bs_size s
  by_cases h1 : s.length < 1
  · have HR := Lib.hid (name_short h1)
    have d1 : decide ((s.length : Int) < 1) = true := decide_eq_true (by omega)
    clear h1
    go_enter Tryz.func100, Tryz.ntmps100
    go_wp2
    go_ret
    exact ⟨by rw [HR.out]; rfl, Below.refl _ _⟩
  by_cases h2 : 20 < s.length
  · have HR := Lib.hid (name_long h2)
    have d1 : decide ((s.length : Int) < 1) = false := decide_eq_false (by omega)
    have d2 : decide ((s.length : Int) > 20) = true := decide_eq_true (by omega)
    clear h1 h2
    go_enter Tryz.func100, Tryz.ntmps100
    go_wp2
    go_ret
    exact ⟨by rw [HR.out]; rfl, Below.refl _ _⟩
  have d1 : decide ((s.length : Int) < 1) = false := decide_eq_false (by omega)
  have d2 : decide ((s.length : Int) > 20) = false := decide_eq_false (by omega)
  have HG := Lib.hid (fun h => name_good (s := s) (by omega) (by omega) h)
  clear h1 h2
  go_enter Tryz.func100, Tryz.ntmps100
  go_wp2
  go_loopw [] (fun wr => ∃ p r, Hid (NmI s p r w wr)) (fun wr => s.length - wr.iterPos w.heap.size)
  case atStart => exact ⟨[], s, ⟨rfl, fun c h => (by cases h), World.iter_heap w (bs s) 0, ⟨rfl, rfl, rfl, by show w.heap.size ≤ (w.alloc _).heap.size; rw [World.size_alloc]; omega, fun k hk => Below.heap_alloc _ _ _ hk⟩⟩⟩
  case round =>
    obtain ⟨p, r, HI⟩ := hrel
    cases r with
    | nil =>
      have hnx : ∀ ty, (Instr.next (.pointer (some ⟨w.heap.size, 0, none⟩)) true ty).run Tryz.prog wr = _ := fun ty => Lib.run_next_end_at wr w.heap.size (bs s) p.length ty HI.out.it (by rw [bs_size, HI.out.eq]; simp)
      have HR := Lib.hid (HG.out (fun c h => HI.out.ok c (by have := HI.out.eq; simp at this; rwa [this] at h)))
      go_wp2
      go_ret
      exact ⟨by rw [HR.out]; rfl, HI.out.below⟩
    | cons b r =>
      obtain ⟨hp, hpe⟩ := str_at p b r
      have he := HI.out.eq
      have hmeas : wr.iterPos w.heap.size = p.length := by simp only [World.iterPos, HI.out.it]
      by_cases ha : b.toNat < 128
      · have hnx : ∀ ty, (Instr.next (.pointer (some ⟨w.heap.size, 0, none⟩)) true ty).run Tryz.prog wr = .ok (.tuple #[.bool true, .int .i64 (p.length : Int), .int .i32 (b.toNat : Int)]) (wr.iterAt w.heap.size (bs s) (p.length + 1)) := fun ty => by
          have hp' : p.length < (bs s).size := by rw [he]; exact hp
          have hpe' : (bs s)[p.length] = b := by simp only [he]; exact hpe
          have := Lib.run_next_ascii_at (P := Tryz.prog) wr w.heap.size (bs s) p.length ty HI.out.it hp' (by rw [hpe']; exact ha)
          rw [hpe'] at this
          exact this
        have HN := Lib.hid (fun hc => HI.out.next (c := b) hc)
        have HK := Lib.hid (okC_iff b)
        have HBd := Lib.hid (fun hc => (name_bad (p := p) (r := r) (c := b) hc))
        have HM := Lib.hid hmeas
        have hb3 := iter_below (s := bs s) (pos := p.length + 1) HI.out.below
        have hsl : p.length < s.length := by rw [he]; simp
        have HE := Lib.hid he
        have HL := Lib.hid hsl
        obtain ⟨v, hv⟩ : ∃ v : Int, ((b.toNat : Nat) : Int) = v := ⟨_, rfl⟩
        have HV := Lib.hid hv
        obtain ⟨wi, hwi⟩ : ∃ wi, wr.iterAt w.heap.size (bs s) (p.length + 1) = wi := ⟨_, rfl⟩
        have hmi : HI.out.it = HI.out.it := rfl
        have hitn := Lib.iterAt_heap wr w.heap.size (bs s) p.length (p.length + 1) HI.out.it
        rw [hv, hwi] at hnx
        rw [hwi] at HN hb3 hitn
        have HIT := Lib.hid hitn
        have HB3 := Lib.hid hb3
        have hvr : 0 ≤ v := by omega
        clear hp hpe he hmeas hv hwi hb3 hsl ha hmi hitn
        by_cases g0 : 97 ≤ v ∧ v ≤ 122
        · skip
          have q1 : decide (v < 97) = false := by exact decide_eq_false (by omega)
          have q2 : decide (v > 122) = false := by exact decide_eq_false (by omega)
          have HC := Lib.hid (HK.out.2 (by have := HV.out; omega))
          clear g0 hvr
          go_wp2
          go_roundw
          case rel => exact ⟨p ++ [b], r, HN.out HC.out⟩
          case measure => simp only [World.iterPos, HIT.out]; have := HM.out; have := HL.out; simp only [World.iterPos] at *; omega
        by_cases g1 : v = 46
        · skip
          have q1 : decide (v < 97) = true := by exact decide_eq_true (by omega)
          have q3 : decide (v < 48) = true := by exact decide_eq_true (by omega)
          have q5 : (v == 46) = true := by rw [beq_iff_eq]; omega
          have HC := Lib.hid (HK.out.2 (by have := HV.out; omega))
          clear g0 g1 hvr
          go_wp2
          go_roundw
          case rel => exact ⟨p ++ [b], r, HN.out HC.out⟩
          case measure => simp only [World.iterPos, HIT.out]; have := HM.out; have := HL.out; simp only [World.iterPos] at *; omega
        by_cases g2 : 48 ≤ v ∧ v ≤ 57
        · skip
          have q1 : decide (v < 97) = true := by exact decide_eq_true (by omega)
          have q3 : decide (v < 48) = false := by exact decide_eq_false (by omega)
          have q4 : decide (v > 57) = false := by exact decide_eq_false (by omega)
          have HC := Lib.hid (HK.out.2 (by have := HV.out; omega))
          clear g0 g1 g2 hvr
          go_wp2
          go_roundw
          case rel => exact ⟨p ++ [b], r, HN.out HC.out⟩
          case measure => simp only [World.iterPos, HIT.out]; have := HM.out; have := HL.out; simp only [World.iterPos] at *; omega
        by_cases g3 : v < 48 ∧ v ≠ 46
        · skip
          have q1 : decide (v < 97) = true := by exact decide_eq_true (by omega)
          have q3 : decide (v < 48) = true := by exact decide_eq_true (by omega)
          have q5 : (v == 46) = false := by rw [beq_eq_false_iff_ne]; omega
          have q6 : ¬ v = 46 := by omega
          have HC := Lib.hid (show okC b = false by cases e : okC b; rfl; have := HK.out.1 e; have := HV.out; omega)
          clear g0 g1 g2 g3 hvr
          go_wp2
          go_ret
          exact ⟨by rw [HE.out, HBd.out HC.out]; rfl, HB3.out⟩
        by_cases g4 : 57 < v ∧ v < 97
        · skip
          have q1 : decide (v < 97) = true := by exact decide_eq_true (by omega)
          have q3 : decide (v < 48) = false := by exact decide_eq_false (by omega)
          have q4 : decide (v > 57) = true := by exact decide_eq_true (by omega)
          have q5 : (v == 46) = false := by rw [beq_eq_false_iff_ne]; omega
          have q6 : ¬ v = 46 := by omega
          have HC := Lib.hid (show okC b = false by cases e : okC b; rfl; have := HK.out.1 e; have := HV.out; omega)
          clear g0 g1 g2 g3 g4 hvr
          go_wp2
          go_ret
          exact ⟨by rw [HE.out, HBd.out HC.out]; rfl, HB3.out⟩
        have g5 : 122 < v := by omega
        have q1 : decide (v < 97) = false := by exact decide_eq_false (by omega)
        have q2 : decide (v > 122) = true := by exact decide_eq_true (by omega)
        have q3 : decide (v < 48) = false := by exact decide_eq_false (by omega)
        have q4 : decide (v > 57) = true := by exact decide_eq_true (by omega)
        have q5 : (v == 46) = false := by rw [beq_eq_false_iff_ne]; omega
        have q6 : ¬ v = 46 := by omega
        have HC := Lib.hid (show okC b = false by cases e : okC b; rfl; have := HK.out.1 e; have := HV.out; omega)
        clear g0 g1 g2 g3 g4 g5 hvr
        go_wp2
        go_ret
        exact ⟨by rw [HE.out, HBd.out HC.out]; rfl, HB3.out⟩
      · have hp' : p.length < (bs s).size := by rw [he]; exact hp
        have hpe' : (bs s)[p.length] = b := by simp only [he]; exact hpe
        obtain ⟨hh, _⟩ := decode_high (bs s) p.length hp' (by rw [hpe']; omega)
        have hnx : ∀ ty, (Instr.next (.pointer (some ⟨w.heap.size, 0, none⟩)) true ty).run Tryz.prog wr = _ := fun ty => Lib.run_next_any_at (P := Tryz.prog) wr w.heap.size (bs s) p.length ty HI.out.it hp'
        have HC := Lib.hid (show okC b = false by cases e : okC b; rfl; have := (okC_iff b).1 e; omega)
        have hb3 := iter_below (s := bs s) (pos := p.length + (Utf8.decode (bs s) p.length).2) HI.out.below
        obtain ⟨wi, hwi⟩ : ∃ wi, wr.iterAt w.heap.size (bs s) (p.length + (Utf8.decode (bs s) p.length).2) = wi := ⟨_, rfl⟩
        obtain ⟨u, hu⟩ : ∃ u, (Utf8.decode (bs s) p.length).1 = u := ⟨_, rfl⟩
        rw [hwi, hu] at hnx
        rw [hwi] at hb3
        rw [hu] at hh
        obtain ⟨v, hv⟩ : ∃ v : Int, (u : Int) = v := ⟨_, rfl⟩
        rw [hv] at hnx
        have hvr : 128 ≤ v := by omega
        have HE := Lib.hid he
        have HB3 := Lib.hid hb3
        have HBd := Lib.hid (fun hc => (name_bad (p := p) (r := r) (c := b) hc))
        have q1 : decide (v < 97) = false := by exact decide_eq_false (by omega)
        have q2 : decide (v > 122) = true := by exact decide_eq_true (by omega)
        have q3 : decide (v < 48) = false := by exact decide_eq_false (by omega)
        have q4 : decide (v > 57) = true := by exact decide_eq_true (by omega)
        have q5 : (v == 46) = false := by rw [beq_eq_false_iff_ne]; omega
        have q6 : ¬ v = 46 := by omega
        clear hp hpe he hmeas hv hwi hb3 ha hp' hpe' hh hu hvr
        go_wp2
        go_ret
        exact ⟨by rw [HE.out, HBd.out HC.out]; rfl, HB3.out⟩

/-- The document's, between two rounds. -/
structure RnI (s : It) (k : Nat) : Prop where
  ok : ∀ j c, j < k → s[j]? = some c → okC c = true
theorem RnI.next {s : It} {k : Nat} {c : UInt8} (h : RnI s k) (hc : s[k]? = some c) (ho : okC c = true) : RnI s (k + 1) := ⟨fun j d hj hd => by
  by_cases e : j = k
  · subst e
    rw [hc] at hd
    obtain rfl := Option.some.inj hd
    exact ho
  · exact h.ok j d (by omega) hd⟩
theorem name_badAt {s : It} {k : Nat} {c : UInt8} (hc : s[k]? = some c) (h : okC c = false) : nameB s = false := by
  cases e : nameB s
  · rfl
  · have := (nameB_iff.1 e).2.2 c (List.mem_of_getElem? hc)
    rw [h] at this
    cases this
theorem RnI.all {s : It} (h : RnI s s.length) : nameB s = (decide (1 ≤ s.length) && decide (s.length ≤ 20)) := by
  have : s.all okC = true := by
    rw [List.all_eq_true]
    intro c hc
    obtain ⟨j, hj⟩ := List.mem_iff_getElem?.1 hc
    exact h.ok j c (List.getElem?_eq_some_iff.1 hj).1 hj
  unfold nameB
  rw [this, Bool.and_true]
theorem bs_index {s : It} {k : Nat} {c : UInt8} (h : s[k]? = some c) (W : World) : (Instr.index 9 (.string (bs s)) (.int .i64 (k : Int))).run Tryz.prog W = .ok (.int .u8 (c.toNat : Int)) W := by
  obtain ⟨hi, hb⟩ := List.getElem?_eq_some_iff.1 h
  rw [run_index_string _ _ _ _ _ Tryz.underlying9, dif_pos (by rw [bs_size]; omega)]
  have e : ∀ (j : Nat) (hj : j < (bs s).size), j = k → (bs s)[j] = c := by
    rintro j hj rfl
    exact hb
  rw [e _ _ (by simp)]
set_option maxRecDepth 100000 in
set_option maxHeartbeats 4000000 in
theorem refName_any (s : It) (hs : s.length ≤ 9000000000000000000) (w : World) : Calls Tryz.prog 70 #[.string (bs s)] w (BoolP (nameB s) w) := by
  have hz := bs_size s
  go_enter Tryz.func70, Tryz.ntmps70
  go_wp2
  go_loopw [3] (fun i wr => ∃ k : Nat, k ≤ s.length ∧ i = .int .i64 (k : Int) ∧ Hid (RnI s k) ∧ w = wr) (fun i _ => s.length - (intOf i).toNat)
  case atStart => exact ⟨0, Nat.zero_le _, rfl, ⟨fun j c h => absurd h (by omega)⟩, rfl⟩
  case round =>
    obtain ⟨k, hk, rfl, HI, rfl⟩ := hrel
    by_cases hlt : k < s.length
    · obtain ⟨b, hb⟩ : ∃ b, s[k]? = some b := ⟨_, List.getElem?_eq_getElem hlt⟩
      have hd0 : decide ((k : Int) < (s.length : Int)) = true := decide_eq_true (by omega)
      have hix := bs_index hb
      have HN := Lib.hid (fun hc => HI.out.next hb hc)
      have HK := Lib.hid (okC_iff b)
      have HBd := Lib.hid (fun hc => name_badAt hb hc)
      obtain ⟨v, hv⟩ : ∃ v : Int, ((b.toNat : Nat) : Int) = v := ⟨_, rfl⟩
      have HV := Lib.hid hv
      rw [hv] at hix
      have hvr : 0 ≤ v := by omega
      clear hv hb
      by_cases g0 : 97 ≤ v ∧ v ≤ 122
      · skip
        have q1 : decide (v < 97) = false := by exact decide_eq_false (by omega)
        have q2 : decide (v > 122) = false := by exact decide_eq_false (by omega)
        have HC := Lib.hid (HK.out.2 (by have := HV.out; omega))
        clear g0 hvr
        go_wp2
        go_roundw
        case rel => exact ⟨k + 1, by omega, by simp, HN.out HC.out, trivial⟩
        case measure => simp [intOf]; omega
      by_cases g1 : v = 46
      · skip
        have q1 : decide (v < 97) = true := by exact decide_eq_true (by omega)
        have q3 : decide (v < 48) = true := by exact decide_eq_true (by omega)
        have q5 : (v == 46) = true := by rw [beq_iff_eq]; omega
        have HC := Lib.hid (HK.out.2 (by have := HV.out; omega))
        clear g0 g1 hvr
        go_wp2
        go_roundw
        case rel => exact ⟨k + 1, by omega, by simp, HN.out HC.out, trivial⟩
        case measure => simp [intOf]; omega
      by_cases g2 : 48 ≤ v ∧ v ≤ 57
      · skip
        have q1 : decide (v < 97) = true := by exact decide_eq_true (by omega)
        have q3 : decide (v < 48) = false := by exact decide_eq_false (by omega)
        have q4 : decide (v > 57) = false := by exact decide_eq_false (by omega)
        have HC := Lib.hid (HK.out.2 (by have := HV.out; omega))
        clear g0 g1 g2 hvr
        go_wp2
        go_roundw
        case rel => exact ⟨k + 1, by omega, by simp, HN.out HC.out, trivial⟩
        case measure => simp [intOf]; omega
      by_cases g3 : v < 48 ∧ v ≠ 46
      · skip
        have q1 : decide (v < 97) = true := by exact decide_eq_true (by omega)
        have q3 : decide (v < 48) = true := by exact decide_eq_true (by omega)
        have q5 : (v == 46) = false := by rw [beq_eq_false_iff_ne]; omega
        have q6 : ¬ v = 46 := by omega
        have HC := Lib.hid (show okC b = false by cases e : okC b; rfl; have := HK.out.1 e; have := HV.out; omega)
        clear g0 g1 g2 g3 hvr
        go_wp2
        go_ret
        exact ⟨by rw [HBd.out HC.out]; rfl, Below.refl _ _⟩
      by_cases g4 : 57 < v ∧ v < 97
      · skip
        have q1 : decide (v < 97) = true := by exact decide_eq_true (by omega)
        have q3 : decide (v < 48) = false := by exact decide_eq_false (by omega)
        have q4 : decide (v > 57) = true := by exact decide_eq_true (by omega)
        have q5 : (v == 46) = false := by rw [beq_eq_false_iff_ne]; omega
        have q6 : ¬ v = 46 := by omega
        have HC := Lib.hid (show okC b = false by cases e : okC b; rfl; have := HK.out.1 e; have := HV.out; omega)
        clear g0 g1 g2 g3 g4 hvr
        go_wp2
        go_ret
        exact ⟨by rw [HBd.out HC.out]; rfl, Below.refl _ _⟩
      have g5 : 122 < v := by omega
      have q1 : decide (v < 97) = false := by exact decide_eq_false (by omega)
      have q2 : decide (v > 122) = true := by exact decide_eq_true (by omega)
      have q3 : decide (v < 48) = false := by exact decide_eq_false (by omega)
      have q4 : decide (v > 57) = true := by exact decide_eq_true (by omega)
      have q5 : (v == 46) = false := by rw [beq_eq_false_iff_ne]; omega
      have q6 : ¬ v = 46 := by omega
      have HC := Lib.hid (show okC b = false by cases e : okC b; rfl; have := HK.out.1 e; have := HV.out; omega)
      clear g0 g1 g2 g3 g4 g5 hvr
      go_wp2
      go_ret
      exact ⟨by rw [HBd.out HC.out]; rfl, Below.refl _ _⟩
    · obtain rfl : k = s.length := by omega
      have hd0 : decide ((s.length : Int) < (s.length : Int)) = false := decide_eq_false (by omega)
      have HR := Lib.hid HI.out.all
      by_cases h1 : 1 ≤ s.length
      · have d1 : decide ((s.length : Int) ≥ 1) = true := decide_eq_true (by omega)
        have d3 : decide (1 ≤ s.length) = true := decide_eq_true h1
        by_cases h2 : s.length ≤ 20
        · have d2 : decide ((s.length : Int) ≤ 20) = true := decide_eq_true (by omega)
          have d4 : decide (s.length ≤ 20) = true := decide_eq_true h2
          have HX := Lib.hid (And.intro d3 d4)
          clear h1 h2 d3 d4
          go_wp2
          go_ret
          exact ⟨by rw [HR.out, HX.out.1, HX.out.2]; rfl, Below.refl _ _⟩
        · have d2 : decide ((s.length : Int) ≤ 20) = false := decide_eq_false (by omega)
          have d4 : decide (s.length ≤ 20) = false := decide_eq_false h2
          have HX := Lib.hid (And.intro d3 d4)
          clear h1 h2 d3 d4
          go_wp2
          go_ret
          exact ⟨by rw [HR.out, HX.out.1, HX.out.2]; rfl, Below.refl _ _⟩
      · have d1 : decide ((s.length : Int) ≥ 1) = false := decide_eq_false (by omega)
        have d3 : decide (1 ≤ s.length) = false := decide_eq_false h1
        have HX := Lib.hid d3
        clear h1 d3
        go_wp2
        go_ret
        exact ⟨by rw [HR.out, HX.out]; rfl, Below.refl _ _⟩

end Go.Proofs.YtlafcplcjpcikaaGreatDoor

/- find, before: how many objects are ahead of the first one that is as is asked. -/
namespace Go.Proofs.YtlafcplcjpcikaaGreatDoor
open Go.RowKit Go.Proofs.Fld Go.Proofs.Rng Go.Proofs.Spc Go.Shelf Go.Sort

attribute [local go_sem] Oper.semAt_some bs_toList

/-- A scope that no goto leaves, at the wide fence. -/
theorem wpIn_scope_sp {n : Nat} {P : Program} {c : Code} {Q : Exit → Act → World → Prop} {a : Act} {w : World} (h : c.wpIn Fence.wide n P (Exit.noGoto Q) a w) : (Code.scope c).wpIn Fence.wide n P Q a w :=
  wpIn_wide.2 (wp_scope_straight (wpIn_wide.1 h))
/-- A name in a box. -/
def Nm (W : World) (B : Nat) (s : It) : Prop := W.cell? ⟨B, 0, none⟩ = some (.string (bs s))
theorem Nm.lt {W : World} {B : Nat} {s : It} (h : Nm W B s) : B < W.heap.size := World.block_lt_of_cell? W _ h
theorem Nm.more {A B : World} {b : Nat} {s : It} (h : Nm A b s) (k : Below A.heap.size A B) : Nm B b s := cell_later k h
theorem Nm.new (W : World) (s : It) (t : TypeId) : Nm (W.alloc (.cells #[.string (bs s)] t)) W.heap.size s := by unfold Nm; simp





/-- ahead between two rounds. -/
def AhI (p : Ob → Bool) (f : Nat) (Bn : Nat) (w : World) (pre : List Ov) (W : World) : Prop := (Boxed W (w.heap.size + 1) 3 (.int .i64 (pre.length : Int)) ∧ Boxed W w.heap.size 80 (.func (.func f) #[] #[.pointer (some ⟨Bn, 0, none⟩)]) ∧ (∀ y ∈ pre, p y.o = false) ∧ w.heap.size + 3 ≤ W.heap.size) ∧ Below w.heap.size w W
/-- .. when a round has left. -/
def AhX (p : Ob → Bool) (w : World) (c : Code) (pre : List Ov) (W : World) : Prop := (c = .exit 0 ∧ ∃ q x, pre = q ++ [x] ∧ (∀ y ∈ q, p y.o = false) ∧ p x.o = true ∧ Boxed W (w.heap.size + 1) 3 (.int .i64 (q.length : Int))) ∧ Below w.heap.size w W
theorem AhI.own {p : Ob → Bool} {f Bn : Nat} {w : World} {n0 : Nat} (hn : w.heap.size ≤ n0) : OwnFrom n0 (AhI p f Bn w) := by
  rintro pre A W row ⟨⟨b0, b1, hp, hz⟩, hb⟩ hg hr
  have hb2 := ownFrom_below (β := List Ov) (n₀ := w.heap.size) (w₀ := w) (Nat.le_refl _) hn pre A W row hb hg hr
  exact ⟨⟨boxed_keep b0 hg (fun r e => (hr r e).2), boxed_keep b1 hg (fun r e => (hr r e).2), hp, Nat.le_trans hz hg.size⟩, hb2⟩
theorem AhX.own {p : Ob → Bool} {w : World} {n0 : Nat} (hn : w.heap.size ≤ n0) (c : Code) : OwnFrom n0 (AhX p w c) := by
  rintro pre A W row ⟨⟨hc, q, x, hx, hq, hpx, b0⟩, hb⟩ hg hr
  have hb2 := ownFrom_below (β := List Ov) (n₀ := w.heap.size) (w₀ := w) (Nat.le_refl _) hn pre A W row hb hg hr
  exact ⟨⟨hc, q, x, hx, hq, hpx, boxed_keep b0 hg (fun r e => (hr r e).2)⟩, hb2⟩













end Go.Proofs.YtlafcplcjpcikaaGreatDoor
