/- Merged texts: FldMath, RgMath, RgBase, RgRows, RgIter, RgRoom, RgOpen, RgWith -/
import GoSem.Claim
import Derived.Test.YtlafcplcjpcikaaGreatDoorChecked
import Derived.WalkKit
import Derived.WalkSpells
import Derived.WalkLawsBesides
import Derived.Lib.Hide
import Derived.Lib.QuietBelow
import Derived.Deep.RegionWith
import Derived.BigCall
import Derived.RegionTactic
import Derived.LaidEql
import Derived.Stop.Asserts
import Derived.RowKitTokens
import Derived.Shelf.Abstract
import Derived.ArgAppend
import Derived.Deep.Onto
import Derived.Lib.AppendZerosOnto
import Derived.Laws.AppendOwnNone
import Derived.ScopeJumps
import Derived.Lib.Strings
import Derived.OwnWalk
import Derived.BigQuiet
import Derived.RangeFuncNested
import Derived.RangeFuncBound
import Derived.RangeFuncCalls
import Derived.RangeFuncLeaves
import Derived.RangeFuncBox
import Derived.Shelf.RegionOpen
import Derived.OwnWalkIn
import Derived.TacticsInMore
import Derived.LoopNIn
import Derived.LoopIn
import Derived.WalkMore
import Derived.Deep.RegionHeld3
import Derived.Laws.CopyOwn
import Derived.Deep.OwnRows
/- Numbers and their bytes, the greatest one first: plain facts. -/
namespace Go.Proofs.Fld

/-- A string of some bytes. -/
def bs (l : List UInt8) : ByteArray := ⟨l.toArray⟩
theorem bs_size (l : List UInt8) : (bs l).size = l.length := by simp [bs, ByteArray.size]




theorem bs_all (s : ByteArray) : s = bs s.data.toList := by
  obtain ⟨⟨l⟩⟩ := s
  rfl

/-- The k least bytes of n, the greatest first. -/
def enc : Nat → Nat → List UInt8
  | 0, _ => []
  | k + 1, n => UInt8.ofNat (n / 256 ^ k) :: enc k n























































































































end Go.Proofs.Fld

/- Rings as plain lists: what items take, how many have room, what is put in and taken out. -/
namespace Go.Proofs.Rng
open Go.Proofs.Fld

/-- An item: its bytes. -/
abbrev It := List UInt8
/-- What items take. -/
def takes : List It → Nat
  | [] => 0
  | x :: r => x.length + 1 + takes r
theorem takes_append (l k : List It) : takes (l ++ k) = takes l + takes k := by
  induction l with
  | nil => simp [takes]
  | cons a r ih => simp [takes, ih]; omega
theorem takes_take_le (l : List It) (k : Nat) : takes (l.take k) ≤ takes l := by
  have := takes_append (l.take k) (l.drop k)
  rw [List.take_append_drop] at this
  omega
theorem takes_next {l : List It} {k : Nat} {x : It} (h : l[k]? = some x) : takes (l.take (k + 1)) = takes (l.take k) + x.length + 1 := by
  have e : l.take (k + 1) = l.take k ++ [x] := by
    rw [List.take_add_one, h]
    rfl
  rw [e, takes_append]
  simp [takes]
  omega
/-- Are all of them items? -/
def itemsB (l : List It) : Bool := l.all fun x => decide (x.length ≤ 200)
theorem itemsB_iff {l : List It} : itemsB l = true ↔ ∀ x ∈ l, x.length ≤ 200 := by simp [itemsB]
/-- Is the ring right? -/
def rightR (m : Int) (l : List It) : Bool := decide (0 ≤ m) && decide (m ≤ 2000) && itemsB l && decide ((takes l : Int) ≤ m)
theorem rightR_iff {m : Int} {l : List It} : rightR m l = true ↔ 0 ≤ m ∧ m ≤ 2000 ∧ (∀ x ∈ l, x.length ≤ 200) ∧ (takes l : Int) ≤ m := by
  simp only [rightR, Bool.and_eq_true, decide_eq_true_eq, itemsB_iff]
  constructor
  · rintro ⟨⟨⟨a, b⟩, c⟩, d⟩; exact ⟨a, b, c, d⟩
  · rintro ⟨a, b, c, d⟩; exact ⟨⟨⟨a, b⟩, c⟩, d⟩
/-- Can the item be put in, where u is used? -/
def fitsB (m : Int) (u : Nat) (x : It) : Bool := decide (x.length ≤ 200) && decide (((u + x.length + 1 : Nat) : Int) ≤ m)
/-- How many can be put in. -/
def roomN (m : Int) (u : Nat) : List It → Nat
  | [] => 0
  | x :: r => if fitsB m u x then roomN m (u + x.length + 1) r + 1 else 0
/-- Why no more can be: 0 none is left, 1 no item, 2 it takes too much. -/
def roomE (m : Int) (u : Nat) : List It → Nat
  | [] => 0
  | x :: r => if fitsB m u x then roomE m (u + x.length + 1) r else if 200 < x.length then 1 else 2








/-- The first k fit. -/
def FitK (m : Int) (u : Nat) (l : List It) (k : Nat) : Prop := ∀ j x, j < k → l[j]? = some x → fitsB m (u + takes (l.take j)) x = true
theorem FitK.zero (m : Int) (u : Nat) (l : List It) : FitK m u l 0 := fun _ _ h => absurd h (by omega)
theorem FitK.next {m : Int} {u : Nat} {l : List It} {k : Nat} {x : It} (h : FitK m u l k) (hx : l[k]? = some x) (hf : fitsB m (u + takes (l.take k)) x = true) : FitK m u l (k + 1) := fun j y hj hy => by
  by_cases e : j = k
  · subst e
    rw [hx] at hy
    obtain rfl := Option.some.inj hy
    exact hf
  · exact h j y (by omega) hy
theorem FitK.tail {m : Int} {u k : Nat} {a : It} {r : List It} (h : FitK m u (a :: r) (k + 1)) : FitK m (u + a.length + 1) r k := fun j x hj hx => by
  have := h (j + 1) x (by omega) (by simpa using hx)
  rw [show u + takes ((a :: r).take (j + 1)) = u + a.length + 1 + takes (r.take j) by simp [takes]; omega] at this
  exact this
theorem FitK.head {m : Int} {u k : Nat} {a : It} {r : List It} (h : FitK m u (a :: r) (k + 1)) : fitsB m u a = true := by
  have := h 0 a (by omega) rfl
  simpa [takes] using this
theorem room_stop {m : Int} {u k : Nat} {l : List It} {x : It} (h : FitK m u l k) (hx : l[k]? = some x) (hn : fitsB m (u + takes (l.take k)) x = false) : roomN m u l = k ∧ roomE m u l = if 200 < x.length then 1 else 2 := by
  induction l generalizing u k with
  | nil => simp at hx
  | cons a r ih =>
    cases k with
    | zero =>
      simp at hx
      subst hx
      simp only [List.take_zero, takes, Nat.add_zero] at hn
      simp [roomN, roomE, hn]
    | succ k =>
      have hh := h.head
      have := ih h.tail (by simpa using hx) (by
        rw [show u + takes ((a :: r).take (k + 1)) = u + a.length + 1 + takes (r.take k) by simp [takes]; omega] at hn
        exact hn)
      simp [roomN, roomE, hh, this]
theorem room_all {m : Int} {u : Nat} {l : List It} (h : FitK m u l l.length) : roomN m u l = l.length ∧ roomE m u l = 0 := by
  induction l generalizing u with
  | nil => simp [roomN, roomE]
  | cons a r ih =>
    have := ih (FitK.tail (k := r.length) h)
    have hh := FitK.head (k := r.length) h
    simp [roomN, roomE, hh, this]









































/-- A ring is right, if an empty one has room for all its items. -/
theorem right_room {m : Int} {l : List It} (h0 : 0 ≤ m) (h1 : m ≤ 2000) : rightR m l = decide (roomE m 0 l = 0) := by
  have key : ∀ (u : Nat) (l : List It), (u : Int) ≤ m → ((roomE m u l = 0) ↔ ((∀ x ∈ l, x.length ≤ 200) ∧ ((u + takes l : Nat) : Int) ≤ m)) := by
    intro u l
    induction l generalizing u with
    | nil => intro hu; simp [roomE, takes]; omega
    | cons a r ih =>
      intro hu
      unfold roomE
      cases hf : fitsB m u a
      · simp only [Bool.false_eq_true, if_false]
        unfold fitsB at hf
        simp at hf
        constructor
        · intro h; split at h <;> cases h
        · rintro ⟨ha, hb⟩
          have := hf (ha a (by simp))
          simp [takes] at hb
          omega
      · unfold fitsB at hf
        simp at hf
        simp only [if_true]
        rw [ih _ (by omega)]
        simp only [List.mem_cons, forall_eq_or_imp, takes]
        constructor
        · rintro ⟨p, q⟩; exact ⟨⟨hf.1, p⟩, by omega⟩
        · rintro ⟨⟨_, p⟩, q⟩; exact ⟨p, by omega⟩
  have := key 0 l (by omega)
  cases hr : rightR m l
  · cases hd : decide (roomE m 0 l = 0)
    · rfl
    · have := this.1 (of_decide_eq_true hd)
      have h2 := rightR_iff.2 ⟨h0, h1, this.1, by simpa using this.2⟩
      rw [hr] at h2
      cases h2
  · have h2 := rightR_iff.1 hr
    symm
    exact decide_eq_true (this.2 ⟨h2.2.2.1, by simpa using h2.2.2.2⟩)
theorem room_full {m : Int} {u : Nat} {l : List It} (h : roomE m u l = 0) : roomN m u l = l.length := by
  induction l generalizing u with
  | nil => rfl
  | cons a r ih =>
    unfold roomE at h
    unfold roomN
    split at h
    · rename_i hf
      rw [if_pos hf, ih h]
      simp
    · split at h <;> cases h

























/-- The items, each with what is used by then. -/
def prs (u : Nat) : List It → List (It × Nat)
  | [] => []
  | x :: r => (x, u + x.length + 1) :: prs (u + x.length + 1) r
theorem prs_length (u : Nat) (l : List It) : (prs u l).length = l.length := by
  induction l generalizing u with
  | nil => rfl
  | cons a r ih => simp [prs, ih]
theorem prs_get {u k : Nat} {l : List It} {x : It} (h : l[k]? = some x) : (prs u l)[k]? = some (x, u + takes (l.take k) + x.length + 1) := by
  induction l generalizing u k with
  | nil => simp at h
  | cons a r ih =>
    cases k with
    | zero => simp at h; subst h; simp [prs, takes]
    | succ k =>
      have := ih (u := u + a.length + 1) (k := k) (by simpa using h)
      simp only [prs, List.getElem?_cons_succ, this, List.take_succ_cons, takes]
      congr 2
      omega
theorem prs_next {u k : Nat} {l : List It} {x : It} (h : l[k]? = some x) : (prs u l).take (k + 1) = (prs u l).take k ++ [(x, u + takes (l.take k) + x.length + 1)] := by
  rw [List.take_add_one, prs_get h]
  rfl
/-- Are two lists the same? -/
def sameT (a b : List It) : Bool := decide (a = b)



























































end Go.Proofs.Rng

/- The three sentinels; errors.Is; what callers are told; texts in memory. -/
namespace Go.Proofs.YtlafcplcjpcikaaGreatDoor
open Go.RowKit Go.Proofs.Fld Go.Proofs.Rng Go.Shelf Go.Extern.Stop Go.Stop Go.Extern

theorem below_more {n : Nat} {w w1 w2 : World} (h : Below n w w1) (k : Below w1.heap.size w1 w2) (hn : n ≤ w.heap.size := by exact Nat.le_refl _) : Below n w w2 := h.trans (k.mono (Nat.le_trans hn h.size))
theorem Below.new (w : World) (o : Obj) : Below w.heap.size w (w.alloc o) := (Below.refl _ w).alloc (Nat.le_refl _) _
theorem bs_toList (l : List UInt8) : (bs l).toList = l := by
  rw [Lib.toList_data]
  rfl
theorem bs_extract (l : List UInt8) (a b : Nat) : (bs l).extract a b = bs ((l.drop a).take (b - a)) := by
  have h := Lib.extract_data (bs l) a b
  rw [bs_all ((bs l).extract a b), h]
  rfl






theorem str_upto (l : List UInt8) (k : Nat) (h : k ≤ l.length) (w : World) : (Instr.slice 9 (.string (bs l)) none (some (.int .i64 (k : Int))) none).run Tryz.prog w = .ok (.string (bs (l.take k))) w := by
  simp [go_sem, Tryz.underlying9, bs_size, bs_extract, h]

/-- Where the three sentinels lie: no ring or item, full, empty. -/
structure Sn where
  w : Addr
  f : Addr
  e : Addr
def Blk0 (w : World) (a : Addr) : Prop := ∃ c t, w.heap[a.block]? = some (.cells c t (0, 0))
theorem Blk0.lt {w : World} {a : Addr} (h : Blk0 w a) : a.block < w.heap.size := by
  obtain ⟨c, t, h⟩ := h
  exact (Array.getElem?_eq_some_iff.1 h).1
structure Sent (s : Sn) (w : World) : Prop where
  cw : w.cell? ⟨1, 0, none⟩ = some (.iface 185 (.pointer (some s.w)))
  cf : w.cell? ⟨2, 0, none⟩ = some (.iface 185 (.pointer (some s.f)))

  bw : Blk0 w s.w
  bf : Blk0 w s.f

  wf : s.w ≠ s.f


theorem Sent.below {s : Sn} {n : Nat} {A B : World} (h : Sent s A) (hn : A.heap.size ≤ n) (hb : Below n A B) : Sent s B := by
  have l1 := World.block_lt_of_cell? A _ h.cw
  have l2 := World.block_lt_of_cell? A _ h.cf

  have k1 := h.bw.lt
  have k2 := h.bf.lt

  refine ⟨(hb.cell (p := ⟨1, 0, none⟩) (by simp at l1 ⊢; omega)).trans h.cw, (hb.cell (p := ⟨2, 0, none⟩) (by simp at l2 ⊢; omega)).trans h.cf, ?_, ?_, h.wf⟩
  · obtain ⟨c, t, e⟩ := h.bw
    exact ⟨c, t, (hb.block _ (by omega)).trans e⟩
  · obtain ⟨c, t, e⟩ := h.bf
    exact ⟨c, t, (hb.block _ (by omega)).trans e⟩


theorem Sent.more {s : Sn} {A B : World} (h : Sent s A) (hb : Below A.heap.size A B) : Sent s B := h.below (Nat.le_refl _) hb










/-- An error, and its number: 0 none, 1 wrong, 2 full, 3 empty. -/
inductive ErrIs (t : Sn) : Value → Nat → Prop
  | ok : ErrIs t .nilIface 0
  | wrong : ErrIs t (.iface 185 (.pointer (some t.w))) 1
  | full : ErrIs t (.iface 185 (.pointer (some t.f))) 2
  | empty : ErrIs t (.iface 185 (.pointer (some t.e))) 3

end Go.Proofs.YtlafcplcjpcikaaGreatDoor

/- Texts in memory. -/
namespace Go.Proofs.YtlafcplcjpcikaaGreatDoor
open Go.RowKit Go.Proofs.Fld Go.Proofs.Rng Go.Shelf

theorem infoS : (Tryz.prog.info? 9).map (fun i => (i.zero, i.size, i.bytes)) = some (some (.string { data := #[] }), 1, 16) := by kernel_rfl
/-- The slice holds the texts zs. -/
structure Txs (W : World) (ao : Option Addr) (len cap : Nat) (zs : List It) : Prop where
  hlen : zs.length = len
  hle : len ≤ cap
  hmax : cap ≤ maxLen
  hnone : ao = none → cap = 0
  hfits : ∀ x ∈ zs, x.length ≤ 9223372036854775807
  hcells : zs ≠ [] → ∃ b off, ao = some ⟨b, off, none⟩ ∧ ∀ j x, zs[j]? = some x → W.cell? ⟨b, off + j, none⟩ = some (.string (bs x))
theorem Txs.of_block {A B : World} {ao : Option Addr} {len cap : Nat} {zs : List It} (h : Txs A ao len cap zs) (k : ∀ a, ao = some a → a.block < A.heap.size → B.heap[a.block]? = A.heap[a.block]?) : Txs B ao len cap zs :=
  ⟨h.hlen, h.hle, h.hmax, h.hnone, h.hfits, fun hz => by
    obtain ⟨b, off, e, hc⟩ := h.hcells hz
    exact ⟨b, off, e, fun j x hj => (World.cell?_of_block (a := ⟨b, off + j, none⟩) (k ⟨b, off, none⟩ e (World.block_lt_of_cell? A ⟨b, off + j, none⟩ (hc j x hj)))).trans (hc j x hj)⟩⟩
theorem Txs.more {A B : World} {ao : Option Addr} {len cap : Nat} {zs : List It} (h : Txs A ao len cap zs) (k : Below A.heap.size A B) : Txs B ao len cap zs := h.of_block fun _ _ hb => k.block _ hb
theorem Txs.nil (W : World) : Txs W none 0 0 [] := ⟨rfl, Nat.le_refl _, Nat.zero_le _, fun _ => rfl, fun _ h => (by cases h), fun h => absurd rfl h⟩
theorem Txs.at {W : World} {ao : Option Addr} {len cap : Nat} {zs : List It} (h : Txs W ao len cap zs) (hp : 0 < len) : ∃ b off, ao = some ⟨b, off, none⟩ ∧ b < W.heap.size ∧ ∀ j x, zs[j]? = some x → W.cell? ⟨b, off + j, none⟩ = some (.string (bs x)) := by
  have hz : zs ≠ [] := fun e => by have := h.hlen; rw [e] at this; simp at this; omega
  obtain ⟨b, off, e, hc⟩ := h.hcells hz
  obtain ⟨x, hx⟩ : ∃ x, zs[0]? = some x := ⟨_, List.getElem?_eq_getElem (by rw [h.hlen]; exact hp)⟩
  exact ⟨b, off, e, World.block_lt_of_cell? W ⟨b, off + 0, none⟩ (hc 0 x hx), hc⟩
theorem Txs.apart {w W : World} {ao : Option Addr} {len cap : Nat} {zs : List It} (h : Txs w ao len cap zs) (k : Below w.heap.size w W) {X : Nat} (hX : w.heap.size ≤ X) : 0 < len → ∀ a, ao = some a → a.block < W.heap.size ∧ a.block ≠ X := by
  intro hp a e
  obtain ⟨b, off, e', hb, _⟩ := h.at hp
  rw [e] at e'
  obtain rfl := Option.some.inj e'
  have := k.size
  exact ⟨Nat.lt_of_lt_of_le hb this, fun q => by simp only at q; omega⟩
theorem Txs.take {W : World} {ao : Option Addr} {len cap : Nat} {zs : List It} (h : Txs W ao len cap zs) (k c : Nat) (hk : k ≤ len) (hc : k ≤ c) (hcc : c ≤ cap) : Txs W ao k c (zs.take k) := by
  refine ⟨by rw [List.length_take, h.hlen]; omega, hc, Nat.le_trans hcc h.hmax, fun e => by have := h.hnone e; omega, fun x hx => h.hfits x (List.mem_of_mem_take hx), fun hz => ?_⟩
  obtain ⟨b, off, e, hcs⟩ := h.hcells (fun e => hz (by rw [e]; simp))
  refine ⟨b, off, e, fun j x hj => ?_⟩
  rw [List.getElem?_take] at hj
  split at hj
  · exact hcs j x hj
  · cases hj
theorem add_at (b off j : Nat) : (⟨b, off, none⟩ : Addr).add j = ⟨b, off + j, none⟩ := by
  unfold Addr.add
  by_cases hj0 : j = 0
  · subst hj0; simp
  · simp [hj0]
/-- Texts' cells. -/
def tcl (l : List It) : List Value := l.map fun x => Value.string (bs x)
theorem tcl_append (l m : List It) : tcl (l ++ m) = tcl l ++ tcl m := by simp [tcl]
theorem tcl_length (l : List It) : (tcl l).length = l.length := by simp [tcl]
theorem tcl_get (l : List It) (j : Nat) (x : It) (h : l[j]? = some x) : (tcl l)[j]? = some (.string (bs x)) := by simp [tcl, h]
theorem tcl_one (l : List It) : ∀ u ∈ tcl l, u.oneCell' = true := by
  intro u hu
  obtain ⟨x, _, rfl⟩ := List.mem_map.1 hu
  rfl
/-- The slice v has the texts l, in a row of its own from n0 on, or is nil. -/
def OwnT (n0 : Nat) (W : World) (v : Value) (l : List It) : Prop := W.ownsRow n0 9 1 v l.length (tcl l)
theorem OwnT.slice {n0 : Nat} {W : World} {v : Value} {l : List It} (h : OwnT n0 W v l) : ∃ a c, v = .slice a l.length c := by
  rcases h.2 with ⟨rfl, h0⟩ | ⟨g, cap, cur, rfl, _⟩
  · exact ⟨none, 0, by rw [h0]⟩
  · exact ⟨_, cap, rfl⟩
theorem OwnT.mono {n0 n1 : Nat} {W : World} {v : Value} {l : List It} (h : OwnT n0 W v l) (hn : n1 ≤ n0) : OwnT n1 W v l := World.ownsRow.mono h hn
theorem OwnT.nil (n0 : Nat) (W : World) : OwnT n0 W (.slice none 0 0) [] := World.ownsRow_nil _ _ _ _
theorem OwnT.more {n0 : Nat} {A B : World} {v : Value} {l : List It} (h : OwnT n0 A v l) (k : Below A.heap.size A B) : OwnT n0 B v l := by
  refine ⟨h.1, ?_⟩
  rcases h.2 with ⟨e, h0⟩ | ⟨g, cap, cur, e, hb, hg, rest⟩
  · exact .inl ⟨e, h0⟩
  · exact .inr ⟨g, cap, cur, e, hb, (k.block g (Array.getElem?_eq_some_iff.1 hg).1).trans hg, rest⟩
theorem OwnT.txs {n0 : Nat} {W : World} {a : Option Addr} {len c : Nat} {l : List It} (h : OwnT n0 W (.slice a len c) l) (hl : l.length = len) (hf : ∀ x ∈ l, x.length ≤ 9223372036854775807) : Txs W a len c l := by
  have h' : W.ownsRow n0 9 1 (.slice a len c) l.length (tcl l) := h
  rcases h.2 with ⟨e, h0⟩ | ⟨g, cap, cur, e, hb, hg, hn, hm, _⟩
  · injection e with e1 e2 e3
    subst e1 e2 e3
    obtain rfl := List.eq_nil_of_length_eq_zero h0
    exact Txs.nil W
  · injection e with e1 e2 e3
    subst e1 e2 e3
    refine ⟨hl, by omega, hm, (fun h => by cases h), hf, fun _ => ⟨g, 0, rfl, fun j x hj => ?_⟩⟩
    have hjl := (List.getElem?_eq_some_iff.1 hj).1
    rw [Nat.zero_add]
    exact (World.ownsRow.cellAt h' j (by omega)).trans (tcl_get l j x hj)
theorem txs_cells {W : World} {b off : Nat} {zs : List It} (h : ∀ j x, zs[j]? = some x → W.cell? ⟨b, off + j, none⟩ = some (.string (bs x))) : ∀ j u, (tcl zs)[j]? = some u → W.cell? ((⟨b, off, none⟩ : Addr).add j) = some u := by
  intro j u hu
  unfold tcl at hu
  rw [List.getElem?_map] at hu
  obtain ⟨x, hx, rfl⟩ := Option.map_eq_some_iff.1 hu
  rw [add_at]
  exact h j x hx
theorem Txs.news {W : World} {ao : Option Addr} {len cap : Nat} {zs : List It} (h : Txs W ao len cap zs) : ∀ b, ao = some b → ∀ j u, (tcl zs)[j]? = some u → W.cell? (b.add j) = some u := by
  intro b e j u hu
  by_cases hz : zs = []
  · subst hz; simp [tcl] at hu
  · obtain ⟨g, off, e', hc⟩ := h.hcells hz
    rw [e] at e'
    obtain rfl := Option.some.inj e'
    exact txs_cells hc j u hu
theorem Txs.nones {W : World} {ao : Option Addr} {len cap : Nat} {zs : List It} (h : Txs W ao len cap zs) : ao = none → len = 0 := fun e => by
  have := h.hnone e
  have := h.hle
  omega
/-- It tells b. -/
def BoolP (b : Bool) (w : World) (e : Ending) (w' : World) : Prop := e = .returned (.bool b) ∧ Below w.heap.size w w'
def IntP (v : Int) (w : World) (e : Ending) (w' : World) : Prop := e = .returned (.int .i64 v) ∧ Below w.heap.size w w'


theorem below_grown {w w' : World} (h : Below w.heap.size w w') : w.grownBy w' none := ⟨h.os, h.tape, h.output, h.size, fun k hk _ => h.block k hk⟩
theorem take_next {α : Type} (zs : List α) (k : Nat) (x : α) (h : zs[k]? = some x) : zs.take (k + 1) = zs.take k ++ [x] := by
  obtain ⟨hk, rfl⟩ := List.getElem?_eq_some_iff.1 h
  rw [List.take_append_getElem hk]
theorem setO {W : World} {a b : Addr} {v x : Value} (h : W.cell? a = some v) (hne : b ≠ a) : (W.setCell b x).cell? a = some v := (World.cell?_setCell_other _ _ _ _ (fun e => hne e)).trans h
theorem setS {W : World} {a : Addr} {v : Value} (x : Value) (h : W.cell? a = some v) : (W.setCell a x).cell? a = some x := World.cell?_setCell_same' _ _ _ (by rw [h]; rfl)
theorem setF {W : World} {a b : Addr} {x : Value} (h : W.frozen? a = false) : (W.setCell b x).frozen? a = false := by rw [World.frozen?_setCell]; exact h
theorem ne_blk {b b' o o' : Nat} (h : b ≠ b') : (⟨b, o, none⟩ : Addr) ≠ ⟨b', o', none⟩ := fun e => h (congrArg Addr.block e)
theorem ne_off {b b' o o' : Nat} (h : o ≠ o') : (⟨b, o, none⟩ : Addr) ≠ ⟨b', o', none⟩ := fun e => h (congrArg Addr.off e)
theorem keeps_below {W W1 : World} (h : Below W.heap.size W W1) : KeepsOthers W W1 := KeepsOthers.of_grownBy (below_grown h) (fun j o e _ => by cases e)


end Go.Proofs.YtlafcplcjpcikaaGreatDoor

/- coming: the items that are to come, by a range over a function. -/
namespace Go.Proofs.YtlafcplcjpcikaaGreatDoor
open Go.RowKit Go.Proofs.Fld Go.Proofs.Rng Go.Shelf Go.Sort

attribute [local go_sem] Oper.semAt_some

/-- All blocks below m but those from lo up to hi lie as they lay. -/
def KR (lo hi m : Nat) (A B : World) : Prop := A.heap.size ≤ B.heap.size ∧ ∀ k, k < m → (k < lo ∨ hi ≤ k) → B.heap[k]? = A.heap[k]?
theorem KR.refl (lo hi m : Nat) (A : World) : KR lo hi m A A := ⟨Nat.le_refl _, fun _ _ _ => rfl⟩
theorem KR.trans {lo hi m : Nat} {A B C : World} (h : KR lo hi m A B) (k : KR lo hi m B C) : KR lo hi m A C := ⟨Nat.le_trans h.1 k.1, fun i hi hx => (k.2 i hi hx).trans (h.2 i hi hx)⟩
theorem KR.of_below {lo hi m : Nat} {A B : World} (h : Below m A B) : KR lo hi m A B := ⟨h.size, fun k hk _ => h.block k hk⟩
theorem krK_b {lo hi m : Nat} {w : World} (hn : m ≤ w.heap.size) (W : World) (l : Nat) (o o' : Obj) (hl : w.heap.size ≤ l) (h : W.heap[l]? = some o) (h1 : o.isCells = false) (h2 : o.isWalk = false) : KR lo hi m W (W.putObj l o') := KR.of_below (belowK_b hn W l o o' hl h h1 h2)
theorem KR.set {lo hi m : Nat} (A : World) (X o : Nat) (v : Value) (h1 : lo ≤ X) (h2 : X < hi) : KR lo hi m A (A.setCell ⟨X, o, none⟩ v) := ⟨by simp [World.setCell], fun k _ hx => Below.heap_setCell _ _ _ _ (fun e => by have e' : k = X := e; omega)⟩
theorem KR.cell {lo hi m : Nat} {A B : World} (h : KR lo hi m A B) {a : Addr} {v : Value} (hc : A.cell? a = some v) (hm : a.block < m) (hx : a.block < lo ∨ hi ≤ a.block) : B.cell? a = some v := (World.cell?_of_block (h.2 _ hm hx)).trans hc

/-- An item, and what would be used by then, as values. -/
def prv (x : It × Nat) : Array Value := #[.string (bs x.1), .int .i64 (x.2 : Int)]
/-- What a round tells: whether to go on. -/
def ToldR (J Jx : List (It × Nat) → World → Prop) (pre : List (It × Nat)) (x : It × Nat) (lo hi m : Nat) (W W' : World) (b : Bool) : Prop :=
  (b = true → J (pre ++ [x]) W' ∧ KR lo hi m W W') ∧ (b = false → Jx (pre ++ [x]) W')

set_option maxHeartbeats 400000 in
theorem takes_any (x : It) (hx : x.length ≤ 1000000) (w : World) :
    Calls Tryz.prog 115 #[.string (bs x)] w fun e w' => e = .returned (.int .i64 ((x.length : Int) + 1)) ∧ w = w' := by
  have hz := bs_size x
  have hw : IntKind.i64.wrap ((x.length : Int) + 1) = (x.length : Int) + 1 := by rw [IntKind.wrap_i64]; omega
  go_enter Tryz.func115, Tryz.ntmps115
  go_wp2
  go_ret
  exact ⟨rfl, rfl⟩

theorem takes_mem {l : List It} {k : Nat} {x : It} (h : l[k]? = some x) : takes (l.take k) + x.length + 1 ≤ takes l := by
  have h1 := takes_take_le l (k + 1)
  rw [takes_next h] at h1
  exact h1

set_option maxRecDepth 100000 in
set_option maxHeartbeats 4000000 in
theorem coming1_in (n : Nat) (hn : 1 ≤ n) (lo hi m l B1 B2 u len cap : Nat) (ao : Option Addr) (zs : List It) (hreach : len ≤ 1000000) (hsum : u + takes zs ≤ 1000000) (J Jx : List (It × Nat) → World → Prop)
    (W : World) (_hmW : m ≤ W.heap.size) (hJ : AbidesFrom W.heap.size J)
    (hY : ∀ pre x W, J pre W → pre.length < (prs u zs).length → YieldAt Fence.wide (n - 1) Tryz.prog l (prv x) W fun e W' => ∃ g, e = .returned (.bool g) ∧ ToldR J Jx pre x lo hi m W W' g)
    (hB1 : W.cell? ⟨B1, 2, none⟩ = some (.int .i64 (u : Int))) (hB2 : W.cell? ⟨B2, 0, none⟩ = some (.slice ao len cap))
    (hL : Txs W ao len cap zs) (hb : 0 < len → ∀ a, ao = some a → a.block < m ∧ (a.block < lo ∨ hi ≤ a.block))
    (h0 : J [] W) :
    CallsIn Fence.wide n Tryz.prog 114 #[.func (.yield l) #[] #[], .pointer (some ⟨B1, 0, none⟩), .pointer (some ⟨B2, 0, none⟩)] W fun e W' => (∃ v, e = .returned v) ∧
      ((∃ ys, ys = prs u zs ∧ J ys W') ∨ (∃ pre, pre <+: prs u zs ∧ Jx pre W')) := by
  refine callsIn_of_wp Tryz.func114 rfl trivial ?_ rfl
  simp only [Tryz.ntmps114, List.size_toArray, List.length_cons, List.length_nil, Nat.reduceAdd, Nat.reduceSub, Array.replicate_succ, Array.replicate_zero, List.push_toArray, List.append_toArray, List.nil_append, List.cons_append]
  have HLN := Lib.hid hL.hlen
  have HL := Lib.hid hL
  have HB := Lib.hid hb
  clear hL hb
  have HJ0 := Lib.hid hJ
  have HY := Lib.hid hY
  clear hJ hY
  gi_wp2
  gi_loopw [4, 11] (fun s i wr => ∃ k t : Nat, k ≤ len ∧ i = .int .i64 k ∧ s = .int .i64 (t : Int) ∧ t = u + takes (zs.take k) ∧ Hid (J ((prs u zs).take k) wr) ∧ KR lo hi m W wr)
    (fun _ i _ => len - (intOf i).toNat)
  case atStart => exact ⟨0, u, Nat.zero_le _, rfl, rfl, (by simp [takes]), by rw [List.take_zero]; exact h0, KR.refl _ _ _ _⟩
  case round =>
    obtain ⟨k, t, hk, rfl, rfl, ht, HJ, hnx⟩ := hrel
    have hsz := hnx.1
    by_cases hlt : k < len
    · obtain ⟨x, hx⟩ : ∃ x, zs[k]? = some x := ⟨_, List.getElem?_eq_getElem (by rw [HLN.out]; exact hlt)⟩
      obtain ⟨b, off, rfl, hbW, hcs⟩ := HL.out.at (by omega)
      have hbm := HB.out (by omega) _ rfl
      have q0 := hnx.cell (hcs k x hx) hbm.1 hbm.2
      have htm := takes_mem hx
      have htn := takes_next hx
      have hpn := prs_next (u := u) hx
      have hpl : ((prs u zs).take k).length < (prs u zs).length := by rw [List.length_take, prs_length, HLN.out]; omega
      have hxl : x.length ≤ 1000000 := by omega
      have htx : t + x.length + 1 ≤ 1000000 := by omega
      obtain ⟨t', ht'⟩ : ∃ t', t + x.length + 1 = t' := ⟨_, rfl⟩
      have hw : IntKind.i64.wrap ((t : Int) + ((x.length : Int) + 1)) = (t' : Int) := by rw [IntKind.wrap_i64]; omega
      have HT := Lib.hid (And.intro ht (And.intro htn (And.intro hpn (And.intro hpl ht'))))
      have HNX := Lib.hid hnx
      have HC := Lib.hid (takes_any x hxl wr)
      clear hcs hx htm htn hpn hpl ht ht' hnx
      obtain ⟨fn, tmps, assign, body, hy, hR⟩ := HY.out _ (x, t') wr HJ.out HT.out.2.2.2.1
      simp only [prv] at hy
      gi_wp2_with (refine ⟨trivial, ?_⟩; gi_at_call 115; refine (callsIn_wide.2 HC.out).mono ?_)
      refine hR.mono ?_
      rintro e W3 ⟨g, rfl, htold⟩
      have hS : (prs u zs).take (k + 1) = (prs u zs).take k ++ [(x, t')] := by
        rw [HT.out.2.2.1, ← HT.out.2.2.2.2, HT.out.1]
      cases g with
      | true =>
        obtain ⟨hJ3, hk3⟩ := htold.1 rfl
        have hw3 := HNX.out.trans hk3
        have HJ3 := Lib.hid hJ3
        have HS := Lib.hid hS
        clear htold hR hy hJ3 hS
        gi_wp2
        go_roundw
        case rel => exact ⟨k + 1, t', by omega, by simp, rfl, by rw [HT.out.2.1, ← HT.out.2.2.2.2, HT.out.1]; omega, by rw [HS.out]; exact HJ3.out, hw3⟩
        case measure => simp [intOf]; omega
      | false =>
        have hx3 := Lib.hid (htold.2 rfl)
        have HS := Lib.hid hS
        clear htold hR hy hS
        gi_wp2
        refine bodyPost_ret (results_none rfl _ _ _) rfl ?_
        exact ⟨⟨_, rfl⟩, .inr ⟨_, by rw [← HS.out]; exact List.take_prefix _ _, hx3.out⟩⟩
    · obtain rfl : k = len := by omega
      gi_wp2
      go_end0
      exact ⟨⟨_, rfl⟩, .inl ⟨_, rfl, by have := HJ.out; rw [List.take_of_length_le (by rw [prs_length, HLN.out]; exact Nat.le_refl _)] at this; exact this⟩⟩

theorem coming_stops (n : Nat) (hn : 1 ≤ n) (lo hi m B1 B2 u len cap : Nat) (ao : Option Addr) (zs : List It) (hreach : len ≤ 1000000) (hsum : u + takes zs ≤ 1000000) (w : World) (hm : m ≤ w.heap.size)
    (hB1 : w.cell? ⟨B1, 2, none⟩ = some (.int .i64 (u : Int))) (hB2 : w.cell? ⟨B2, 0, none⟩ = some (.slice ao len cap))
    (hL : Txs w ao len cap zs) (hb : 0 < len → ∀ a, ao = some a → a.block < m ∧ (a.block < lo ∨ hi ≤ a.block)) :
    SeqStopsK Fence.wide n Tryz.prog 114 #[.pointer (some ⟨B1, 0, none⟩), .pointer (some ⟨B2, 0, none⟩)] prv (KR lo hi m) (fun ys => ys = prs u zs) (fun pre => pre <+: prs u zs) (prs u zs).length w := fun l J Jx W hW hJ hJx hY h0 => by
  refine (coming1_in n hn lo hi m l B1 B2 u len cap ao zs hreach hsum J Jx W (Nat.le_trans hm hW.size) hJ ?_ (cell_later hW hB1) (cell_later hW hB2) (hL.more hW) hb h0).mono ?_
  · intro pre x W1 hp hlt
    refine (hY pre x W1 hp hlt).mono ?_
    rintro e W' (⟨rfl, h1, h2⟩ | ⟨rfl, h1⟩)
    · exact ⟨true, rfl, fun _ => ⟨h1, h2⟩, fun h => by cases h⟩
    · exact ⟨false, rfl, fun h => (by cases h), fun _ => h1⟩
  · rintro e W' ⟨he, ⟨ys, hys, hj⟩ | ⟨pre, hp, hj⟩⟩
    · exact ⟨he, .inl ⟨ys, hys, hj⟩⟩
    · exact ⟨he, .inr ⟨pre, hp, hj⟩⟩

set_option maxHeartbeats 1000000 in
theorem coming_any (v0 v1 v2 : Value) (_h0 : v0.oneCell' = true) (_h1 : v1.oneCell' = true) (_h2 : v2.oneCell' = true) (ao : Option Addr) (len cap : Nat) (w : World) :
    Calls Tryz.prog 111 #[.agg #[v0, v1, v2], .slice ao len cap] w fun e w' => e = .returned (.func (.func 114) #[] #[.pointer (some ⟨w.heap.size, 0, none⟩), .pointer (some ⟨w.heap.size + 1, 0, none⟩)]) ∧ (w.alloc (.cells #[v0, v1, v2] 159)).alloc (.cells #[.slice ao len cap] 47) = w' := by
  go_enter Tryz.func111, Tryz.ntmps111
  go_wp2
  go_ret
  exact ⟨rfl, rfl⟩

end Go.Proofs.YtlafcplcjpcikaaGreatDoor

/- room: how many of the items can be put in, and why no more. -/
namespace Go.Proofs.Rng
/-- Can it be put in? -/
def fitP (m : Int) (p : It × Nat) : Bool := decide (p.1.length ≤ 200) && decide ((p.2 : Int) ≤ m)
/-- What is used behind them. -/
def lastU (u : Nat) (pre : List (It × Nat)) : Nat := match pre.getLast? with
  | none => u
  | some x => x.2
theorem lastU_snoc (u : Nat) (pre : List (It × Nat)) (x : It × Nat) : lastU u (pre ++ [x]) = x.2 := by simp [lastU]

theorem lastU_prs {u k : Nat} {zs : List It} (hk : k ≤ zs.length) : lastU u ((prs u zs).take k) = u + takes (zs.take k) := by
  cases k with
  | zero => simp [lastU, takes]
  | succ k =>
    obtain ⟨x, hx⟩ : ∃ x, zs[k]? = some x := ⟨_, List.getElem?_eq_getElem (by omega)⟩
    rw [prs_next hx, lastU_snoc, takes_next hx]
    omega
theorem fit_prs {m : Int} {u k : Nat} {zs : List It} {x : It} (_hx : zs[k]? = some x) : fitP m (x, u + takes (zs.take k) + x.length + 1) = fitsB m (u + takes (zs.take k)) x := rfl
theorem fitK_of {m : Int} {u k : Nat} {zs : List It} (h : ∀ p ∈ (prs u zs).take k, fitP m p = true) : FitK m u zs k := fun j x hj hx => by
  rw [← fit_prs hx]
  refine h _ (List.mem_iff_getElem?.2 ⟨j, ?_⟩)
  rw [List.getElem?_take, if_pos hj]
  exact prs_get hx
theorem pr_all {m : Int} {u : Nat} {zs : List It} (h : ∀ p ∈ prs u zs, fitP m p = true) : roomN m u zs = zs.length ∧ roomE m u zs = 0 ∧ lastU u (prs u zs) = u + takes zs := by
  have h1 := room_all (fitK_of (k := zs.length) (m := m) (u := u) (fun p hp => h p (List.mem_of_mem_take hp)))
  refine ⟨h1.1, h1.2, ?_⟩
  have := lastU_prs (u := u) (zs := zs) (Nat.le_refl _)
  rw [List.take_of_length_le (by rw [prs_length]; exact Nat.le_refl _), List.take_of_length_le (Nat.le_refl _)] at this
  exact this
theorem pr_stop {m : Int} {u : Nat} {zs : List It} {pre : List (It × Nat)} {x : It × Nat} (hp : pre ++ [x] <+: prs u zs) (h : ∀ p ∈ pre, fitP m p = true) (hx : fitP m x = false) : roomN m u zs = pre.length ∧ (roomE m u zs = if 200 < x.1.length then 1 else 2) ∧ lastU u pre = u + takes (zs.take (roomN m u zs)) := by
  obtain ⟨t, ht⟩ := hp
  have hlen : pre.length < zs.length := by rw [← prs_length u zs, ← ht]; simp
  have e1 : (prs u zs).take pre.length = pre := by rw [← ht, List.append_assoc, List.take_left]
  obtain ⟨y, hy⟩ : ∃ y, zs[pre.length]? = some y := ⟨_, List.getElem?_eq_getElem hlen⟩
  have e2 := prs_get (u := u) hy
  rw [← ht] at e2
  simp at e2
  subst e2
  have hs := room_stop (fitK_of (k := pre.length) (m := m) (u := u) (zs := zs) (by rw [e1]; exact h)) hy (by rw [← fit_prs hy]; exact hx)
  refine ⟨hs.1, hs.2, ?_⟩
  rw [hs.1, ← lastU_prs (Nat.le_of_lt hlen), e1]
end Go.Proofs.Rng
namespace Go.Proofs.YtlafcplcjpcikaaGreatDoor
open Go.RowKit Go.Proofs.Fld Go.Proofs.Rng Go.Shelf Go.Sort

attribute [local go_sem] Oper.semAt_some

/-- A scope that no goto leaves, at the wide fence. -/
theorem wpIn_scope_wide {n : Nat} {P : Program} {c : Code} {Q : Exit → Act → World → Prop} {a : Act} {w : World} (h : c.wpIn Fence.wide n P (Exit.noGoto Q) a w) : (Code.scope c).wpIn Fence.wide n P Q a w :=
  wpIn_wide.2 (wp_scope_straight (wpIn_wide.1 h))
theorem boxed_keep {A B : World} {row : Option Nat} {b : Nat} {t : TypeId} {v : Value} (h : Boxed A b t v) (hg : A.grownBy B row) (hr : ∀ r, row = some r → ∃ o : Obj, A.heap[r]? = some o ∧ o.isCells = false) : Boxed B b t v :=
  h.kept hg fun e => by
    obtain ⟨o, ho, hc⟩ := hr b e.symm
    rw [show A.heap[b]? = _ from h] at ho
    cases ho
    cases hc
theorem boxed_put {W : World} {b D : Nat} {t : TypeId} {v : Value} {o : Obj} (o' : Obj) (h : Boxed W b t v) (hD : W.heap[D]? = some o) (ho : o.isCells = false) : Boxed (W.putObj D o') b t v :=
  boxed_keep h (grownBy_putObj' W D o') (fun r e => by cases e; exact ⟨o, hD, ho⟩)
theorem boxed_more {A B : World} {b : Nat} {t : TypeId} {v : Value} (h : Boxed A b t v) (k : Below A.heap.size A B) : Boxed B b t v := (k.block b h.lt).trans h
theorem boxed_other {W : World} {b b' : Nat} {t : TypeId} {v x : Value} (h : Boxed W b t v) (hne : b ≠ b') : Boxed (W.setCell ⟨b', 0, none⟩ x) b t v := (Below.heap_setCell _ _ _ _ (fun e => hne e)).trans h

/-- What room tells. -/
def RoomP (s : Sn) (m : Int) (u : Nat) (zs : List It) (w : World) (e : Ending) (w' : World) : Prop :=
  ∃ v t, ErrIs s v (roomE m u zs) ∧ t = u + takes (zs.take (roomN m u zs)) ∧ e = .returned (.tuple #[.int .i64 (roomN m u zs : Int), .int .i64 (t : Int), v]) ∧ Below w.heap.size w w'

/-- room between two rounds: the blocks of n, of what is used, of the error. -/
def RmI (s : Sn) (w : World) (m : Int) (u bn bm be : Nat) (pre : List (It × Nat)) (W : World) : Prop :=
  (Boxed W bn 3 (.int .i64 (pre.length : Int)) ∧ Boxed W bm 3 (.int .i64 (lastU u pre : Int)) ∧ Boxed W be 57 .nilIface ∧ W.cell? ⟨w.heap.size, 0, none⟩ = some (.int .i64 m) ∧ Sent s W ∧ (∀ p ∈ pre, fitP m p = true) ∧ w.heap.size + 6 ≤ W.heap.size) ∧ Below w.heap.size w W
/-- .. when a round has left. -/
def RmX (s : Sn) (w : World) (m : Int) (u bn bm be : Nat) (c : Code) (pre : List (It × Nat)) (W : World) : Prop :=
  (c = .exit 0 ∧ ∃ p x v, pre = p ++ [x] ∧ (∀ y ∈ p, fitP m y = true) ∧ fitP m x = false ∧ ErrIs s v (if 200 < x.1.length then 1 else 2) ∧ Boxed W bn 3 (.int .i64 (p.length : Int)) ∧ Boxed W bm 3 (.int .i64 (lastU u p : Int)) ∧ Boxed W be 57 v) ∧ Below w.heap.size w W

theorem Sent.set_own {s : Sn} {w A : World} {X : Nat} {v : Value} (h : Sent s A) (hb : Sent s w ∧ Below w.heap.size w A) (hX : w.heap.size ≤ X) : Sent s (A.setCell ⟨X, 0, none⟩ v) := by
  have _ := h
  exact hb.1.more (hb.2.setCell (p := ⟨X, 0, none⟩) hX _)
theorem RmI.own {s : Sn} {w : World} {m : Int} {u bn bm be n0 : Nat} (hs : Sent s w) (hn : w.heap.size ≤ n0) : OwnFrom n0 (RmI s w m u bn bm be) := by
  rintro pre A B row ⟨⟨b0, b1, b2, q0, _, hp, hz⟩, hB⟩ hg hr
  have hb := ownFrom_below (β := List (It × Nat)) (n₀ := w.heap.size) (w₀ := w) (Nat.le_refl _) hn pre A B row hB hg hr
  exact ⟨⟨boxed_keep b0 hg (fun r e => (hr r e).2), boxed_keep b1 hg (fun r e => (hr r e).2), boxed_keep b2 hg (fun r e => (hr r e).2), cell_kept q0 hg (fun r e => (hr r e).2), hs.more hb, hp, Nat.le_trans hz hg.size⟩, hb⟩
theorem RmX.own {s : Sn} {w : World} {m : Int} {u bn bm be n0 : Nat} {c : Code} (hn : w.heap.size ≤ n0) : OwnFrom n0 (RmX s w m u bn bm be c) := by
  rintro pre A B row ⟨⟨hc, p, x, v, e1, e2, e3, e4, b0, b1, b2⟩, hB⟩ hg hr
  have hb := ownFrom_below (β := List (It × Nat)) (n₀ := w.heap.size) (w₀ := w) (Nat.le_refl _) hn pre A B row hB hg hr
  exact ⟨⟨hc, p, x, v, e1, e2, e3, e4, boxed_keep b0 hg (fun r e => (hr r e).2), boxed_keep b1 hg (fun r e => (hr r e).2), boxed_keep b2 hg (fun r e => (hr r e).2)⟩, hb⟩
theorem heap_drewN (W : World) (k : Nat) : (W.drewN k).heap = W.heap := by simp
/-- The iterator, and what its boxes hold. -/
def ComingP (u : Nat) (ao : Option Addr) (len cap : Nat) (w : World) (e : Ending) (w' : World) : Prop :=
  e = .returned (.func (.func 114) #[] #[.pointer (some ⟨w.heap.size, 0, none⟩), .pointer (some ⟨w.heap.size + 1, 0, none⟩)]) ∧ w'.cell? ⟨w.heap.size, 2, none⟩ = some (.int .i64 (u : Int)) ∧ w'.cell? ⟨w.heap.size + 1, 0, none⟩ = some (.slice ao len cap) ∧ w'.heap.size = w.heap.size + 2 ∧ Below w.heap.size w w'
theorem comingP (v0 v1 : Value) (u : Nat) (h0 : v0.oneCell' = true) (h1 : v1.oneCell' = true) (ao : Option Addr) (len cap : Nat) (w : World) :
    Calls Tryz.prog 111 #[.agg #[v0, v1, .int .i64 (u : Int)], .slice ao len cap] w (ComingP u ao len cap w) := by
  refine (coming_any v0 v1 (.int .i64 (u : Int)) h0 h1 rfl ao len cap w).mono ?_
  rintro e w' ⟨rfl, rfl⟩
  refine ⟨rfl, ?_, ?_, ?_, ?_⟩
  · go_simp
  · go_simp
  · simp
  · exact (Below.new w _).alloc (by simp) _
theorem Txs.apart3 {w W : World} {ao : Option Addr} {len cap : Nat} {zs : List It} (h : Txs w ao len cap zs) (k : Below w.heap.size w W) {lo hi : Nat} (hX : w.heap.size ≤ lo) : 0 < len → ∀ a, ao = some a → a.block < W.heap.size ∧ (a.block < lo ∨ hi ≤ a.block) := by
  intro hp a e
  obtain ⟨b, off, e', hb, _⟩ := h.at hp
  rw [e] at e'
  obtain rfl := Option.some.inj e'
  have := k.size
  exact ⟨Nat.lt_of_lt_of_le hb this, .inl (Nat.lt_of_lt_of_le hb hX)⟩

set_option maxRecDepth 100000 in
set_option maxHeartbeats 4000000 in
theorem room_in (n : Nat) (hn : 3 ≤ n) (s : Sn) (m : Int) (u : Nat) (vL : Value) (hvL : vL.oneCell' = true) (ao : Option Addr) (len cap : Nat) (zs : List It) (hreach : len ≤ 1000000) (hsum : u + takes zs ≤ 1000000) (w : World) (hL : Txs w ao len cap zs) (hs : Sent s w) :
    CallsIn Fence.wide n Tryz.prog 108 #[.agg #[.int .i64 m, vL, .int .i64 (u : Int)], .slice ao len cap] w (RoomP s m u zs w) := by
  have hn1 : 1 ≤ n := by omega
  refine callsIn_of_wp_marks Tryz.func108 rfl trivial ?_ rfl
  simp only [Tryz.ntmps108, List.size_toArray, List.length_cons, List.length_nil, Nat.reduceAdd, Nat.reduceSub, Array.replicate_succ, Array.replicate_zero, List.push_toArray, List.append_toArray, List.nil_append, List.cons_append]
  have HL := Lib.hid hL
  have HS := Lib.hid hs
  clear hL hs
  gi_wp2
  refine wpIn_scope_wide ?_
  gi_wp2
  refine wpIn_wide.2 ?_
  go_region
  · have hB1 : Below w.heap.size w ((((w.alloc (.cells #[.int .i64 m, vL, .int .i64 (u : Int)] 159)).alloc (.cells #[.int .i64 0] 3)).alloc (.cells #[.int .i64 (u : Int)] 3)).drew) := (((Below.new w _).alloc (by simp) _).alloc (by simp; omega) _).drew
    have x1 : Boxed ((((w.alloc (.cells #[.int .i64 m, vL, .int .i64 (u : Int)] 159)).alloc (.cells #[.int .i64 0] 3)).alloc (.cells #[.int .i64 (u : Int)] 3)).drew) (w.heap.size + 1) 3 (.int .i64 0) := by
      have := (Boxed.new (w.alloc (.cells #[.int .i64 m, vL, .int .i64 (u : Int)] 159)) 3 (.int .i64 0)).alloc (.cells #[.int .i64 (u : Int)] 3)
      rw [World.size_alloc] at this
      exact this
    have x2 : Boxed ((((w.alloc (.cells #[.int .i64 m, vL, .int .i64 (u : Int)] 159)).alloc (.cells #[.int .i64 0] 3)).alloc (.cells #[.int .i64 (u : Int)] 3)).drew) (w.heap.size + 1 + 1) 3 (.int .i64 (u : Int)) := by
      have := Boxed.new ((w.alloc (.cells #[.int .i64 m, vL, .int .i64 (u : Int)] 159)).alloc (.cells #[.int .i64 0] 3)) 3 (.int .i64 (u : Int))
      rw [World.size_alloc, World.size_alloc] at this
      exact this
    have c0 : ((((w.alloc (.cells #[.int .i64 m, vL, .int .i64 (u : Int)] 159)).alloc (.cells #[.int .i64 0] 3)).alloc (.cells #[.int .i64 (u : Int)] 3)).drew).cell? ⟨w.heap.size, 0, none⟩ = some (.int .i64 m) := by rw [World.cell?_drew]; go_simp
    have c1 : ((((w.alloc (.cells #[.int .i64 m, vL, .int .i64 (u : Int)] 159)).alloc (.cells #[.int .i64 0] 3)).alloc (.cells #[.int .i64 (u : Int)] 3)).drew).cell? ⟨w.heap.size, 1, none⟩ = some vL := by rw [World.cell?_drew]; go_simp
    have c2 : ((((w.alloc (.cells #[.int .i64 m, vL, .int .i64 (u : Int)] 159)).alloc (.cells #[.int .i64 0] 3)).alloc (.cells #[.int .i64 (u : Int)] 3)).drew).cell? ⟨w.heap.size, 2, none⟩ = some (.int .i64 (u : Int)) := by rw [World.cell?_drew]; go_simp
    have hz1 : ((((w.alloc (.cells #[.int .i64 m, vL, .int .i64 (u : Int)] 159)).alloc (.cells #[.int .i64 0] 3)).alloc (.cells #[.int .i64 (u : Int)] 3)).drew).heap.size = w.heap.size + 3 := by simp [World.drew]
    obtain ⟨W1, hW1⟩ : ∃ W1, ((((w.alloc (.cells #[.int .i64 m, vL, .int .i64 (u : Int)] 159)).alloc (.cells #[.int .i64 0] 3)).alloc (.cells #[.int .i64 (u : Int)] 3)).drew) = W1 := ⟨_, rfl⟩
    rw [hW1] at hB1 x1 x2 c0 c1 c2 hz1
    have hB2 := Below.new W1 (.cells #[.nilIface] 57)
    have d0 := cell_later hB2 c0
    have d1 := cell_later hB2 c1
    have d2 := cell_later hB2 c2
    have x3 : Boxed (W1.alloc (.cells #[.nilIface] 57)) (w.heap.size + 3) 57 .nilIface := by
      have := Boxed.new W1 57 .nilIface
      rw [hz1] at this
      exact this
    have hz2 : (W1.alloc (.cells #[.nilIface] 57)).heap.size = w.heap.size + 4 := by rw [World.size_alloc, hz1]
    obtain ⟨W2, hW2⟩ : ∃ W2, W1.alloc (.cells #[.nilIface] 57) = W2 := ⟨_, rfl⟩
    have x1' := boxed_more x1 hB2
    have x2' := boxed_more x2 hB2
    have hB3 := below_more hB1 hB2
    rw [hW2] at d0 d1 d2 x3 hz2 x1' x2' hB3
    have HX := Lib.hid (And.intro x1' (And.intro x2' (And.intro x3 (And.intro hz2 hB3))))
    clear hB1 x1 x2 hB2 x1' x2' x3 hB3 c0 c1 c2
    gi_wp2
    refine wpIn_label ?_
    gi_wp2_with (refine ⟨trivial, ?_⟩; gi_at_call 111; refine (callsIn_wide.2 (comingP (.int .i64 m) vL u rfl hvL ao len cap W2)).mono ?_)
    rintro e W0 ⟨rfl, e1, e2, hz0, hb0⟩
    rw [HX.out.2.2.2.1] at e1 e2 hz0
    rw [HX.out.2.2.2.1]
    have HA := Lib.hid (And.intro e1 (And.intro e2 (And.intro hz0 (And.intro (below_more HX.out.2.2.2.2 hb0) (And.intro (boxed_more HX.out.1 hb0) (And.intro (boxed_more HX.out.2.1 hb0) (And.intro (boxed_more HX.out.2.2.1 hb0) (cell_later hb0 d0))))))))
    clear e1 e2 hb0 d0 d1 d2 HX
    gi_wp2
    refine wpIn_rangeFunc_ownG rfl hn1 (gf := 114) (lb := #[.pointer (some ⟨w.heap.size + 4, 0, none⟩), .pointer (some ⟨w.heap.size + 4 + 1, 0, none⟩)]) rfl trivial (enters_of Tryz.func114 (by kernel_rfl) rfl)
      (coming_stops (n - 1) (by omega) (w.heap.size + 1) (w.heap.size + 4) W0.heap.size _ _ u len cap ao zs hreach hsum W0 (Nat.le_refl _) HA.out.1 HA.out.2.1 (HL.out.more HA.out.2.2.2.1) (HL.out.apart3 HA.out.2.2.2.1 (by omega))) KR.trans (krK_b (Nat.le_refl _)) (Below.refl _ _) (fun _ => rfl)
      (RmI s w m u (w.heap.size + 1) (w.heap.size + 1 + 1) (w.heap.size + 3)) (RmX s w m u (w.heap.size + 1) (w.heap.size + 1 + 1) (w.heap.size + 3)) ?hI ?hIx ?h0
      (fun x => { tmps := #[.agg #[.int .i64 m, vL, .int .i64 (u : Int)], .slice ao len cap, .pointer (some ⟨w.heap.size, 0, none⟩), undef, .int .i64 0, .int .i64 0, .nilIface, .pointer (some ⟨w.heap.size + 1, 0, none⟩), .pointer (some ⟨w.heap.size + 1 + 1, 0, none⟩), .pointer (some ⟨w.heap.size + 3, 0, none⟩), .string (bs x.1), .int .i64 (x.2 : Int), .pointer (some ⟨w.heap.size, 2, none⟩), .int .i64 (u : Int), .agg #[.int .i64 m, vL, .int .i64 (u : Int)], .slice ao len cap, .func (.func 114) #[] #[.pointer (some ⟨w.heap.size + 4, 0, none⟩), .pointer (some ⟨w.heap.size + 4 + 1, 0, none⟩)], .string (bs x.1), .int .i64 (x.2 : Int), undef, undef, undef, undef, undef, undef, undef, undef, undef, undef, undef, undef, undef, undef, undef, undef, undef, undef], defers := [] })
      ?assign ?body ?done ?stop
    case hI => exact RmI.own HS.out HA.out.2.2.2.1.size
    case hIx => intro c; exact RmX.own HA.out.2.2.2.1.size
    case h0 => exact ⟨⟨HA.out.2.2.2.2.1, HA.out.2.2.2.2.2.1, HA.out.2.2.2.2.2.2.1, HA.out.2.2.2.2.2.2.2, HS.out.more HA.out.2.2.2.1, (fun y hy => by cases hy), by have := HA.out.2.2.1; omega⟩, HA.out.2.2.2.1⟩
    case assign =>
      intro l x W K hK
      have HK := Lib.hid hK
      clear hK
      simp only [prv]
      gi_wp2
      exact HK.out
    case body =>
      rintro l pre x W ⟨⟨b0, b1, b2, q0, hsW, hp, hz⟩, hB⟩ hlt
      rw [prs_length, HL.out.hlen] at hlt
      have f0 := b0.frozen
      have f1 := b1.frozen
      have f2 := b2.frozen
      have g0 := b0.cell
      have g1 := b1.cell
      have g2 := b2.cell
      have k0 := hsW.cw
      have k1 := hsW.cf
      have hsx := bs_size x.1
      have HP := Lib.hid (And.intro b0 (And.intro b1 (And.intro b2 (And.intro hsW (And.intro hp (And.intro hB q0))))))
      clear b0 b1 b2 hsW hp hB
      by_cases h1 : 200 < x.1.length
      · have hd : decide ((x.1.length : Int) > 200) = true := decide_eq_true (by omega)
        have hfx : fitP m x = false := by unfold fitP; rw [decide_eq_false (by omega)]; rfl
        have HF := Lib.hid hfx
        clear hfx
        gi_wp2
        refine ⟨(KeepsOthers.setCell _ _ _).from _, ⟨rfl, pre, x, _, rfl, HP.out.2.2.2.2.1, HF.out, ?_, boxed_other HP.out.1 (by omega), boxed_other HP.out.2.1 (by omega), HP.out.2.2.1.set _⟩, HP.out.2.2.2.2.2.1.setCell (p := ⟨w.heap.size + 3, 0, none⟩) (by simp) _⟩
        rw [if_pos h1]
        exact .wrong
      · have hd : decide ((x.1.length : Int) > 200) = false := decide_eq_false (by omega)
        by_cases h2 : m < (x.2 : Int)
        · have hd2 : decide ((x.2 : Int) > m) = true := decide_eq_true (by omega)
          have hfx : fitP m x = false := by unfold fitP; rw [decide_eq_false (p := (x.2 : Int) ≤ m) (by omega), Bool.and_false]
          have HF := Lib.hid hfx
          clear hfx
          gi_wp2
          refine ⟨(KeepsOthers.setCell _ _ _).from _, ⟨rfl, pre, x, _, rfl, HP.out.2.2.2.2.1, HF.out, ?_, boxed_other HP.out.1 (by omega), boxed_other HP.out.2.1 (by omega), HP.out.2.2.1.set _⟩, HP.out.2.2.2.2.2.1.setCell (p := ⟨w.heap.size + 3, 0, none⟩) (by simp) _⟩
          rw [if_neg h1]
          exact .full
        · have hd2 : decide ((x.2 : Int) > m) = false := decide_eq_false (by omega)
          have hfx : fitP m x = true := by unfold fitP; rw [decide_eq_true (p := (x.2 : Int) ≤ m) (by omega), decide_eq_true (by omega)]; rfl
          have hwr : IntKind.i64.wrap ((pre.length : Int) + 1) = (pre.length : Int) + 1 := by rw [IntKind.wrap_i64]; omega
          have g3 : (W.setCell ⟨w.heap.size + 1, 0, none⟩ (.int .i64 ((pre.length : Int) + 1))).cell? ⟨w.heap.size + 1 + 1, 0, none⟩ = some (.int .i64 (lastU u pre : Int)) := setO g1 (ne_blk (by omega))
          have f3 : (W.setCell ⟨w.heap.size + 1, 0, none⟩ (.int .i64 ((pre.length : Int) + 1))).frozen? ⟨w.heap.size + 1 + 1, 0, none⟩ = false := setF f1
          have HF := Lib.hid hfx
          clear hfx
          gi_wp2
          refine ⟨((KeepsOthers.setCell _ _ _).trans (KeepsOthers.setCell _ _ _)).from _, (KR.set _ _ _ _ (by omega) (by omega)).trans (KR.set _ _ _ _ (by omega) (by omega)), ⟨?_, ?_, boxed_other (boxed_other HP.out.2.2.1 (by omega)) (by omega), setO (setO HP.out.2.2.2.2.2.2 (ne_blk (by omega))) (ne_blk (by omega)), (HP.out.2.2.2.1.set_own (X := w.heap.size + 1) (w := w) ?_ (by omega)).set_own (X := w.heap.size + 1 + 1) (w := w) ?_ (by omega), ?_, ?_⟩, (HP.out.2.2.2.2.2.1.setCell (p := ⟨w.heap.size + 1, 0, none⟩) (by simp; try omega) _).setCell (p := ⟨w.heap.size + 1 + 1, 0, none⟩) (by simp; try omega) _⟩
          · have := boxed_other (b' := w.heap.size + 1 + 1) (x := .int .i64 (x.2 : Int)) (HP.out.1.set (.int .i64 ((pre.length : Int) + 1))) (by omega)
            simpa using this
          · rw [lastU_snoc]
            exact (boxed_other HP.out.2.1 (by omega)).set _
          · exact ⟨HS.out, HP.out.2.2.2.2.2.1⟩
          · exact ⟨HS.out, HP.out.2.2.2.2.2.1.setCell (p := ⟨w.heap.size + 1, 0, none⟩) (by simp; try omega) _⟩
          · intro y hy
            rcases List.mem_append.1 hy with h | h
            · exact HP.out.2.2.2.2.1 y h
            · obtain rfl : y = x := by simpa using h
              exact HF.out
          · simp [World.setCell]
            omega
    case done =>
      rintro D ys W hD rfl ⟨⟨b0, b1, b2, q0, hsW, hp, hz⟩, hB⟩ hK
      have hpa := pr_all hp
      obtain ⟨t, ht⟩ : ∃ t, u + takes zs = t := ⟨_, rfl⟩
      rw [hpa.2.2, ht] at b1
      rw [prs_length] at b0
      have g0 := b0.cell
      have g1 := b1.cell
      have g2 := b2.cell
      have HU := Lib.hid (And.intro hpa.1 (And.intro hpa.2.1 (And.intro hB (And.intro hK ht))))
      clear hpa ht hp hB hK b0 b1 b2 hsW
      have hD2 : w.heap.size ≤ D := by have := HA.out.2.2.1; omega
      gi_wp2
      refine wpIn_wide.2 ?_
      go_quiet (fail)
      gi_wp2
      rw [Exit.noGoto_ret]
      refine ⟨by simp, .inl ⟨_, _, rfl, run_takeDeferred (by rw [heap_drewN]; exact HU.out.2.2.2.1), ?_⟩⟩
      refine ⟨.tuple #[.int .i64 (zs.length : Int), .int .i64 (t : Int), .nilIface], by simp [results, Tryz.results108, go_sem], .nilIface, t, by rw [HU.out.2.1]; exact .ok, ?_, ?_, ?_⟩
      · rw [HU.out.1, List.take_of_length_le (Nat.le_refl _)]
        exact HU.out.2.2.2.2.symm
      · rw [HU.out.1]
      · exact (below_drewN HU.out.2.2.1 _).trans (belowK_b (w := w) (Nat.le_refl _) _ D _ _ hD2 (by rw [heap_drewN]; exact HU.out.2.2.2.1) rfl rfl)
    case stop =>
      rintro D c pre W hD hpre ⟨⟨rfl, p, x, v, rfl, hp, hxa, hv, b0, b1, b2⟩, hB⟩ hK
      have hps := pr_stop hpre hp hxa
      obtain ⟨t, ht⟩ : ∃ t, u + takes (zs.take (roomN m u zs)) = t := ⟨_, rfl⟩
      rw [hps.2.2, ht] at b1
      have g0 := b0.cell
      have g1 := b1.cell
      have g2 := b2.cell
      have HU := Lib.hid (And.intro hps.1 (And.intro hps.2.1 (And.intro hB (And.intro hK (And.intro hv ht)))))
      clear hps ht hp hB hK b0 b1 b2 hpre hxa hv
      have hD2 : w.heap.size ≤ D := by have := HA.out.2.2.1; omega
      gi_wp2
      refine wpIn_wide.2 ?_
      go_quiet (fail)
      gi_wp2
      rw [Exit.noGoto_ret]
      refine ⟨by simp, .inl ⟨_, _, rfl, run_takeDeferred (by rw [heap_drewN]; exact HU.out.2.2.2.1), ?_⟩⟩
      refine ⟨.tuple #[.int .i64 (p.length : Int), .int .i64 (t : Int), v], by simp [results, Tryz.results108, go_sem], v, t, by rw [HU.out.2.1]; exact HU.out.2.2.2.2.1, HU.out.2.2.2.2.2.symm, ?_, ?_⟩
      · rw [HU.out.1]
      · exact (below_drewN HU.out.2.2.1 _).trans (belowK_b (w := w) (Nat.le_refl _) _ D _ _ hD2 (by rw [heap_drewN]; exact HU.out.2.2.2.1) rfl rfl)
  · have hB1 : Below w.heap.size w ((((w.alloc (.cells #[.int .i64 m, vL, .int .i64 (u : Int)] 159)).alloc (.cells #[.int .i64 (u : Int)] 3)).alloc (.cells #[.int .i64 0] 3)).drew) := (((Below.new w _).alloc (by simp) _).alloc (by simp; omega) _).drew
    have x1 : Boxed ((((w.alloc (.cells #[.int .i64 m, vL, .int .i64 (u : Int)] 159)).alloc (.cells #[.int .i64 (u : Int)] 3)).alloc (.cells #[.int .i64 0] 3)).drew) (w.heap.size + 1) 3 (.int .i64 (u : Int)) := by
      have := (Boxed.new (w.alloc (.cells #[.int .i64 m, vL, .int .i64 (u : Int)] 159)) 3 (.int .i64 (u : Int))).alloc (.cells #[.int .i64 0] 3)
      rw [World.size_alloc] at this
      exact this
    have x2 : Boxed ((((w.alloc (.cells #[.int .i64 m, vL, .int .i64 (u : Int)] 159)).alloc (.cells #[.int .i64 (u : Int)] 3)).alloc (.cells #[.int .i64 0] 3)).drew) (w.heap.size + 1 + 1) 3 (.int .i64 0) := by
      have := Boxed.new ((w.alloc (.cells #[.int .i64 m, vL, .int .i64 (u : Int)] 159)).alloc (.cells #[.int .i64 (u : Int)] 3)) 3 (.int .i64 0)
      rw [World.size_alloc, World.size_alloc] at this
      exact this
    have c0 : ((((w.alloc (.cells #[.int .i64 m, vL, .int .i64 (u : Int)] 159)).alloc (.cells #[.int .i64 (u : Int)] 3)).alloc (.cells #[.int .i64 0] 3)).drew).cell? ⟨w.heap.size, 0, none⟩ = some (.int .i64 m) := by rw [World.cell?_drew]; go_simp
    have c1 : ((((w.alloc (.cells #[.int .i64 m, vL, .int .i64 (u : Int)] 159)).alloc (.cells #[.int .i64 (u : Int)] 3)).alloc (.cells #[.int .i64 0] 3)).drew).cell? ⟨w.heap.size, 1, none⟩ = some vL := by rw [World.cell?_drew]; go_simp
    have c2 : ((((w.alloc (.cells #[.int .i64 m, vL, .int .i64 (u : Int)] 159)).alloc (.cells #[.int .i64 (u : Int)] 3)).alloc (.cells #[.int .i64 0] 3)).drew).cell? ⟨w.heap.size, 2, none⟩ = some (.int .i64 (u : Int)) := by rw [World.cell?_drew]; go_simp
    have hz1 : ((((w.alloc (.cells #[.int .i64 m, vL, .int .i64 (u : Int)] 159)).alloc (.cells #[.int .i64 (u : Int)] 3)).alloc (.cells #[.int .i64 0] 3)).drew).heap.size = w.heap.size + 3 := by simp [World.drew]
    obtain ⟨W1, hW1⟩ : ∃ W1, ((((w.alloc (.cells #[.int .i64 m, vL, .int .i64 (u : Int)] 159)).alloc (.cells #[.int .i64 (u : Int)] 3)).alloc (.cells #[.int .i64 0] 3)).drew) = W1 := ⟨_, rfl⟩
    rw [hW1] at hB1 x1 x2 c0 c1 c2 hz1
    have hB2 := Below.new W1 (.cells #[.nilIface] 57)
    have d0 := cell_later hB2 c0
    have d1 := cell_later hB2 c1
    have d2 := cell_later hB2 c2
    have x3 : Boxed (W1.alloc (.cells #[.nilIface] 57)) (w.heap.size + 3) 57 .nilIface := by
      have := Boxed.new W1 57 .nilIface
      rw [hz1] at this
      exact this
    have hz2 : (W1.alloc (.cells #[.nilIface] 57)).heap.size = w.heap.size + 4 := by rw [World.size_alloc, hz1]
    obtain ⟨W2, hW2⟩ : ∃ W2, W1.alloc (.cells #[.nilIface] 57) = W2 := ⟨_, rfl⟩
    have x1' := boxed_more x1 hB2
    have x2' := boxed_more x2 hB2
    have hB3 := below_more hB1 hB2
    rw [hW2] at d0 d1 d2 x3 hz2 x1' x2' hB3
    have HX := Lib.hid (And.intro x1' (And.intro x2' (And.intro x3 (And.intro hz2 hB3))))
    clear hB1 x1 x2 hB2 x1' x2' x3 hB3 c0 c1 c2
    gi_wp2
    refine wpIn_label ?_
    gi_wp2_with (refine ⟨trivial, ?_⟩; gi_at_call 111; refine (callsIn_wide.2 (comingP (.int .i64 m) vL u rfl hvL ao len cap W2)).mono ?_)
    rintro e W0 ⟨rfl, e1, e2, hz0, hb0⟩
    rw [HX.out.2.2.2.1] at e1 e2 hz0
    rw [HX.out.2.2.2.1]
    have HA := Lib.hid (And.intro e1 (And.intro e2 (And.intro hz0 (And.intro (below_more HX.out.2.2.2.2 hb0) (And.intro (boxed_more HX.out.1 hb0) (And.intro (boxed_more HX.out.2.1 hb0) (And.intro (boxed_more HX.out.2.2.1 hb0) (cell_later hb0 d0))))))))
    clear e1 e2 hb0 d0 d1 d2 HX
    gi_wp2
    refine wpIn_rangeFunc_ownG rfl hn1 (gf := 114) (lb := #[.pointer (some ⟨w.heap.size + 4, 0, none⟩), .pointer (some ⟨w.heap.size + 4 + 1, 0, none⟩)]) rfl trivial (enters_of Tryz.func114 (by kernel_rfl) rfl)
      (coming_stops (n - 1) (by omega) (w.heap.size + 1) (w.heap.size + 4) W0.heap.size _ _ u len cap ao zs hreach hsum W0 (Nat.le_refl _) HA.out.1 HA.out.2.1 (HL.out.more HA.out.2.2.2.1) (HL.out.apart3 HA.out.2.2.2.1 (by omega))) KR.trans (krK_b (Nat.le_refl _)) (Below.refl _ _) (fun _ => rfl)
      (RmI s w m u (w.heap.size + 1 + 1) (w.heap.size + 1) (w.heap.size + 3)) (RmX s w m u (w.heap.size + 1 + 1) (w.heap.size + 1) (w.heap.size + 3)) ?hI ?hIx ?h0
      (fun x => { tmps := #[.agg #[.int .i64 m, vL, .int .i64 (u : Int)], .slice ao len cap, .pointer (some ⟨w.heap.size, 0, none⟩), undef, .int .i64 0, .int .i64 0, .nilIface, .pointer (some ⟨w.heap.size + 1 + 1, 0, none⟩), .pointer (some ⟨w.heap.size + 1, 0, none⟩), .pointer (some ⟨w.heap.size + 3, 0, none⟩), .string (bs x.1), .int .i64 (x.2 : Int), .pointer (some ⟨w.heap.size, 2, none⟩), .int .i64 (u : Int), .agg #[.int .i64 m, vL, .int .i64 (u : Int)], .slice ao len cap, .func (.func 114) #[] #[.pointer (some ⟨w.heap.size + 4, 0, none⟩), .pointer (some ⟨w.heap.size + 4 + 1, 0, none⟩)], .string (bs x.1), .int .i64 (x.2 : Int), undef, undef, undef, undef, undef, undef, undef, undef, undef, undef, undef, undef, undef, undef, undef, undef, undef, undef], defers := [] })
      ?assign ?body ?done ?stop
    case hI => exact RmI.own HS.out HA.out.2.2.2.1.size
    case hIx => intro c; exact RmX.own HA.out.2.2.2.1.size
    case h0 => exact ⟨⟨HA.out.2.2.2.2.2.1, HA.out.2.2.2.2.1, HA.out.2.2.2.2.2.2.1, HA.out.2.2.2.2.2.2.2, HS.out.more HA.out.2.2.2.1, (fun y hy => by cases hy), by have := HA.out.2.2.1; omega⟩, HA.out.2.2.2.1⟩
    case assign =>
      intro l x W K hK
      have HK := Lib.hid hK
      clear hK
      simp only [prv]
      gi_wp2
      exact HK.out
    case body =>
      rintro l pre x W ⟨⟨b0, b1, b2, q0, hsW, hp, hz⟩, hB⟩ hlt
      rw [prs_length, HL.out.hlen] at hlt
      have f0 := b0.frozen
      have f1 := b1.frozen
      have f2 := b2.frozen
      have g0 := b0.cell
      have g1 := b1.cell
      have g2 := b2.cell
      have k0 := hsW.cw
      have k1 := hsW.cf
      have hsx := bs_size x.1
      have HP := Lib.hid (And.intro b0 (And.intro b1 (And.intro b2 (And.intro hsW (And.intro hp (And.intro hB q0))))))
      clear b0 b1 b2 hsW hp hB
      by_cases h1 : 200 < x.1.length
      · have hd : decide ((x.1.length : Int) > 200) = true := decide_eq_true (by omega)
        have hfx : fitP m x = false := by unfold fitP; rw [decide_eq_false (by omega)]; rfl
        have HF := Lib.hid hfx
        clear hfx
        gi_wp2
        refine ⟨(KeepsOthers.setCell _ _ _).from _, ⟨rfl, pre, x, _, rfl, HP.out.2.2.2.2.1, HF.out, ?_, boxed_other HP.out.1 (by omega), boxed_other HP.out.2.1 (by omega), HP.out.2.2.1.set _⟩, HP.out.2.2.2.2.2.1.setCell (p := ⟨w.heap.size + 3, 0, none⟩) (by simp) _⟩
        rw [if_pos h1]
        exact .wrong
      · have hd : decide ((x.1.length : Int) > 200) = false := decide_eq_false (by omega)
        by_cases h2 : m < (x.2 : Int)
        · have hd2 : decide ((x.2 : Int) > m) = true := decide_eq_true (by omega)
          have hfx : fitP m x = false := by unfold fitP; rw [decide_eq_false (p := (x.2 : Int) ≤ m) (by omega), Bool.and_false]
          have HF := Lib.hid hfx
          clear hfx
          gi_wp2
          refine ⟨(KeepsOthers.setCell _ _ _).from _, ⟨rfl, pre, x, _, rfl, HP.out.2.2.2.2.1, HF.out, ?_, boxed_other HP.out.1 (by omega), boxed_other HP.out.2.1 (by omega), HP.out.2.2.1.set _⟩, HP.out.2.2.2.2.2.1.setCell (p := ⟨w.heap.size + 3, 0, none⟩) (by simp) _⟩
          rw [if_neg h1]
          exact .full
        · have hd2 : decide ((x.2 : Int) > m) = false := decide_eq_false (by omega)
          have hfx : fitP m x = true := by unfold fitP; rw [decide_eq_true (p := (x.2 : Int) ≤ m) (by omega), decide_eq_true (by omega)]; rfl
          have hwr : IntKind.i64.wrap ((pre.length : Int) + 1) = (pre.length : Int) + 1 := by rw [IntKind.wrap_i64]; omega
          have g3 : (W.setCell ⟨w.heap.size + 1 + 1, 0, none⟩ (.int .i64 ((pre.length : Int) + 1))).cell? ⟨w.heap.size + 1, 0, none⟩ = some (.int .i64 (lastU u pre : Int)) := setO g1 (ne_blk (by omega))
          have f3 : (W.setCell ⟨w.heap.size + 1 + 1, 0, none⟩ (.int .i64 ((pre.length : Int) + 1))).frozen? ⟨w.heap.size + 1, 0, none⟩ = false := setF f1
          have HF := Lib.hid hfx
          clear hfx
          gi_wp2
          refine ⟨((KeepsOthers.setCell _ _ _).trans (KeepsOthers.setCell _ _ _)).from _, (KR.set _ _ _ _ (by omega) (by omega)).trans (KR.set _ _ _ _ (by omega) (by omega)), ⟨?_, ?_, boxed_other (boxed_other HP.out.2.2.1 (by omega)) (by omega), setO (setO HP.out.2.2.2.2.2.2 (ne_blk (by omega))) (ne_blk (by omega)), (HP.out.2.2.2.1.set_own (X := w.heap.size + 1 + 1) (w := w) ?_ (by omega)).set_own (X := w.heap.size + 1) (w := w) ?_ (by omega), ?_, ?_⟩, (HP.out.2.2.2.2.2.1.setCell (p := ⟨w.heap.size + 1 + 1, 0, none⟩) (by simp; try omega) _).setCell (p := ⟨w.heap.size + 1, 0, none⟩) (by simp; try omega) _⟩
          · have := boxed_other (b' := w.heap.size + 1) (x := .int .i64 (x.2 : Int)) (HP.out.1.set (.int .i64 ((pre.length : Int) + 1))) (by omega)
            simpa using this
          · rw [lastU_snoc]
            exact (boxed_other HP.out.2.1 (by omega)).set _
          · exact ⟨HS.out, HP.out.2.2.2.2.2.1⟩
          · exact ⟨HS.out, HP.out.2.2.2.2.2.1.setCell (p := ⟨w.heap.size + 1 + 1, 0, none⟩) (by simp; try omega) _⟩
          · intro y hy
            rcases List.mem_append.1 hy with h | h
            · exact HP.out.2.2.2.2.1 y h
            · obtain rfl : y = x := by simpa using h
              exact HF.out
          · simp [World.setCell]
            omega
    case done =>
      rintro D ys W hD rfl ⟨⟨b0, b1, b2, q0, hsW, hp, hz⟩, hB⟩ hK
      have hpa := pr_all hp
      obtain ⟨t, ht⟩ : ∃ t, u + takes zs = t := ⟨_, rfl⟩
      rw [hpa.2.2, ht] at b1
      rw [prs_length] at b0
      have g0 := b0.cell
      have g1 := b1.cell
      have g2 := b2.cell
      have HU := Lib.hid (And.intro hpa.1 (And.intro hpa.2.1 (And.intro hB (And.intro hK ht))))
      clear hpa ht hp hB hK b0 b1 b2 hsW
      have hD2 : w.heap.size ≤ D := by have := HA.out.2.2.1; omega
      gi_wp2
      refine wpIn_wide.2 ?_
      go_quiet (fail)
      gi_wp2
      rw [Exit.noGoto_ret]
      refine ⟨by simp, .inl ⟨_, _, rfl, run_takeDeferred (by rw [heap_drewN]; exact HU.out.2.2.2.1), ?_⟩⟩
      refine ⟨.tuple #[.int .i64 (zs.length : Int), .int .i64 (t : Int), .nilIface], by simp [results, Tryz.results108, go_sem], .nilIface, t, by rw [HU.out.2.1]; exact .ok, ?_, ?_, ?_⟩
      · rw [HU.out.1, List.take_of_length_le (Nat.le_refl _)]
        exact HU.out.2.2.2.2.symm
      · rw [HU.out.1]
      · exact (below_drewN HU.out.2.2.1 _).trans (belowK_b (w := w) (Nat.le_refl _) _ D _ _ hD2 (by rw [heap_drewN]; exact HU.out.2.2.2.1) rfl rfl)
    case stop =>
      rintro D c pre W hD hpre ⟨⟨rfl, p, x, v, rfl, hp, hxa, hv, b0, b1, b2⟩, hB⟩ hK
      have hps := pr_stop hpre hp hxa
      obtain ⟨t, ht⟩ : ∃ t, u + takes (zs.take (roomN m u zs)) = t := ⟨_, rfl⟩
      rw [hps.2.2, ht] at b1
      have g0 := b0.cell
      have g1 := b1.cell
      have g2 := b2.cell
      have HU := Lib.hid (And.intro hps.1 (And.intro hps.2.1 (And.intro hB (And.intro hK (And.intro hv ht)))))
      clear hps ht hp hB hK b0 b1 b2 hpre hxa hv
      have hD2 : w.heap.size ≤ D := by have := HA.out.2.2.1; omega
      gi_wp2
      refine wpIn_wide.2 ?_
      go_quiet (fail)
      gi_wp2
      rw [Exit.noGoto_ret]
      refine ⟨by simp, .inl ⟨_, _, rfl, run_takeDeferred (by rw [heap_drewN]; exact HU.out.2.2.2.1), ?_⟩⟩
      refine ⟨.tuple #[.int .i64 (p.length : Int), .int .i64 (t : Int), v], by simp [results, Tryz.results108, go_sem], v, t, by rw [HU.out.2.1]; exact HU.out.2.2.2.2.1, HU.out.2.2.2.2.2.symm, ?_, ?_⟩
      · rw [HU.out.1]
      · exact (below_drewN HU.out.2.2.1 _).trans (belowK_b (w := w) (Nat.le_refl _) _ D _ _ hD2 (by rw [heap_drewN]; exact HU.out.2.2.2.1) rfl rfl)

end Go.Proofs.YtlafcplcjpcikaaGreatDoor

/- open: a ring that is right, and what its items take; Right, Used, New. -/
namespace Go.Proofs.YtlafcplcjpcikaaGreatDoor
open Go.RowKit Go.Proofs.Fld Go.Proofs.Rng Go.Shelf Go.Sort

/-- A struct of two cells. -/
structure R2 (W : World) (b : Nat) (u x : Value) : Prop where
  c0 : W.cell? ⟨b, 0, none⟩ = some u
  c1 : W.cell? ⟨b, 1, none⟩ = some x
  f0 : W.frozen? ⟨b, 0, none⟩ = false
  f1 : W.frozen? ⟨b, 1, none⟩ = false
theorem R2.lt {W : World} {b : Nat} {u x : Value} (h : R2 W b u x) : b < W.heap.size := World.block_lt_of_cell? W _ h.c0
theorem R2.more {W W' : World} {b : Nat} {u x : Value} (h : R2 W b u x) (hb : Below W.heap.size W W') : R2 W' b u x :=
  ⟨cell_later hb h.c0, cell_later hb h.c1, (hb.frozen (p := ⟨b, 0, none⟩) h.lt).trans h.f0, (hb.frozen (p := ⟨b, 1, none⟩) h.lt).trans h.f1⟩
theorem R2.new (W : World) (u x : Value) (T : TypeId) : R2 (W.alloc (.cells #[u, x] T)) W.heap.size u x := ⟨by simp, by simp, by simp, by simp⟩
theorem R2.set {W : World} {b : Nat} {u x : Value} (h : R2 W b u x) (u' x' : Value) : R2 ((W.setCell ⟨b, 0, none⟩ u').setCell ⟨b, 1, none⟩ x') b u' x' :=
  ⟨setO (setS _ h.c0) (ne_off (by omega)), setS _ (setO h.c1 (ne_off (by omega))), setF (setF h.f0), setF (setF h.f1)⟩
theorem set2O {W : World} {b B o : Nat} {v u x : Value} (h : W.cell? ⟨B, o, none⟩ = some v) (hne : b ≠ B) : ((W.setCell ⟨b, 0, none⟩ u).setCell ⟨b, 1, none⟩ x).cell? ⟨B, o, none⟩ = some v := setO (setO h (ne_blk hne)) (ne_blk hne)
theorem set2B {n : Nat} {w W : World} (h : Below n w W) {b : Nat} (hb : n ≤ b) (u x : Value) : Below n w ((W.setCell ⟨b, 0, none⟩ u).setCell ⟨b, 1, none⟩ x) := (h.setCell (p := ⟨b, 0, none⟩) hb _).setCell (p := ⟨b, 1, none⟩) hb _
/-- A struct of three cells. -/
structure R3 (W : World) (b : Nat) (u x y : Value) : Prop where
  c0 : W.cell? ⟨b, 0, none⟩ = some u
  c1 : W.cell? ⟨b, 1, none⟩ = some x
  c2 : W.cell? ⟨b, 2, none⟩ = some y
  f0 : W.frozen? ⟨b, 0, none⟩ = false
  f1 : W.frozen? ⟨b, 1, none⟩ = false
  f2 : W.frozen? ⟨b, 2, none⟩ = false
theorem R3.lt {W : World} {b : Nat} {u x y : Value} (h : R3 W b u x y) : b < W.heap.size := World.block_lt_of_cell? W _ h.c0
theorem R3.more {W W' : World} {b : Nat} {u x y : Value} (h : R3 W b u x y) (hb : Below W.heap.size W W') : R3 W' b u x y :=
  ⟨cell_later hb h.c0, cell_later hb h.c1, cell_later hb h.c2, (hb.frozen (p := ⟨b, 0, none⟩) h.lt).trans h.f0, (hb.frozen (p := ⟨b, 1, none⟩) h.lt).trans h.f1, (hb.frozen (p := ⟨b, 2, none⟩) h.lt).trans h.f2⟩
theorem R3.new (W : World) (u x y : Value) (T : TypeId) : R3 (W.alloc (.cells #[u, x, y] T)) W.heap.size u x y := ⟨by simp, by simp, by simp, by simp, by simp, by simp⟩
theorem R3.set {W : World} {b : Nat} {u x y : Value} (h : R3 W b u x y) (u' x' y' : Value) : R3 (((W.setCell ⟨b, 0, none⟩ u').setCell ⟨b, 1, none⟩ x').setCell ⟨b, 2, none⟩ y') b u' x' y' :=
  ⟨setO (setO (setS _ h.c0) (ne_off (by omega))) (ne_off (by omega)), setO (setS _ (setO h.c1 (ne_off (by omega)))) (ne_off (by omega)), setS _ (setO (setO h.c2 (ne_off (by omega))) (ne_off (by omega))), setF (setF (setF h.f0)), setF (setF (setF h.f1)), setF (setF (setF h.f2))⟩
theorem set3O {W : World} {b B o : Nat} {v u x y : Value} (h : W.cell? ⟨B, o, none⟩ = some v) (hne : b ≠ B) : (((W.setCell ⟨b, 0, none⟩ u).setCell ⟨b, 1, none⟩ x).setCell ⟨b, 2, none⟩ y).cell? ⟨B, o, none⟩ = some v :=
  setO (setO (setO h (ne_blk hne)) (ne_blk hne)) (ne_blk hne)
theorem set3B {n : Nat} {w W : World} (h : Below n w W) {b : Nat} (hb : n ≤ b) (u x y : Value) : Below n w (((W.setCell ⟨b, 0, none⟩ u).setCell ⟨b, 1, none⟩ x).setCell ⟨b, 2, none⟩ y) :=
  ((h.setCell (p := ⟨b, 0, none⟩) hb _).setCell (p := ⟨b, 1, none⟩) hb _).setCell (p := ⟨b, 2, none⟩) hb _

/-- What open tells. -/
def OpenP (s : Sn) (m : Int) (ao : Option Addr) (len cap : Nat) (zs : List It) (w : World) (e : Ending) (w' : World) : Prop :=
  ((rightR m zs = true ∧ ∃ t : Nat, t = takes zs ∧ e = .returned (.tuple #[.agg #[.int .i64 m, .slice ao len cap, .int .i64 (t : Int)], .nilIface])) ∨ (rightR m zs = false ∧ e = .returned (.tuple #[.agg #[.int .i64 0, .slice none 0 0, .int .i64 0], .iface 185 (.pointer (some s.w))]))) ∧ Below w.heap.size w w'

theorem room0 (s : Sn) (m : Int) (ao : Option Addr) (len cap : Nat) (zs : List It) (hreach : len ≤ 1000000) (hsum : takes zs ≤ 1000000) (w : World) (hL : Txs w ao len cap zs) (hs : Sent s w) :
    Calls Tryz.prog 108 #[.agg #[.int .i64 m, .slice none 0 0, .int .i64 0], .slice ao len cap] w (RoomP s m 0 zs w) :=
  callsIn_wide.1 (room_in 3 (Nat.le_refl _) s m 0 (.slice none 0 0) rfl ao len cap zs hreach (by omega) w hL hs)
theorem neq_err (a : Addr) (w : World) : (binOp .neq 57 (.iface 185 (.pointer (some a))) .nilIface).run Tryz.prog w = .ok (.bool true) w := by
  simp [go_sem]
theorem eql_err (a : Addr) (w : World) : (binOp .eql 57 (.iface 185 (.pointer (some a))) .nilIface).run Tryz.prog w = .ok (.bool false) w := by
  simp [go_sem]

set_option maxRecDepth 100000 in
set_option maxHeartbeats 4000000 in
theorem open_any (s : Sn) (m : Int) (ao : Option Addr) (len cap : Nat) (zs : List It) (hreach : len ≤ 1000000) (hsum : takes zs ≤ 1000000) (w : World) (hL : Txs w ao len cap zs) (hs : Sent s w) :
    Calls Tryz.prog 105 #[.agg #[.int .i64 m, .slice ao len cap]] w (OpenP s m ao len cap zs w) := by
  have hB1 := Below.new w (.cells #[.int .i64 m, .slice ao len cap] 49)
  have hB2 := below_more hB1 (Below.new _ (.cells #[.int .i64 0, .slice none 0 0, .int .i64 0] 159))
  have r1 := (R2.new w (.int .i64 m) (.slice ao len cap) 49).more (Below.new _ (.cells #[.int .i64 0, .slice none 0 0, .int .i64 0] 159))
  have r2 := R3.new (w.alloc (.cells #[.int .i64 m, .slice ao len cap] 49)) (.int .i64 0) (.slice none 0 0) (.int .i64 0) 159
  rw [World.size_alloc] at r2
  obtain ⟨W0, hW0⟩ : ∃ W0, (w.alloc (.cells #[.int .i64 m, .slice ao len cap] 49)).alloc (.cells #[.int .i64 0, .slice none 0 0, .int .i64 0] 159) = W0 := ⟨_, rfl⟩
  rw [hW0] at hB2 r1 r2
  have HL := Lib.hid (hL.more hB2)
  have HS := Lib.hid (hs.more hB2)
  have HB := Lib.hid hB2
  have hgl := World.block_lt_of_cell? _ _ hs.cw
  simp only at hgl
  clear hB1 hB2 hL hs
  by_cases hm : m < 0 ∨ 2000 < m
  · have hR : rightR m zs = false := by
      cases e : rightR m zs
      · rfl
      · have := rightR_iff.1 e; omega
    obtain ⟨c0, c1, _, _⟩ := r1
    have k0 := HS.out.cw
    have r3 := r2.set (.int .i64 0) (.slice none 0 0) (.int .i64 0)
    obtain ⟨y0, y1, y2, _, _, _⟩ := r3
    obtain ⟨d0, d1, d2, f0, f1, f2⟩ := r2
    have z2 : ∀ u x y, (((W0.setCell ⟨w.heap.size + 1, 0, none⟩ u).setCell ⟨w.heap.size + 1, 1, none⟩ x).setCell ⟨w.heap.size + 1, 2, none⟩ y).cell? ⟨1, 0, none⟩ = some (.iface 185 (.pointer (some s.w))) := fun u x y => set3O k0 (by omega)
    have YB := Lib.hid (set3B HB.out (b := w.heap.size + 1) (by omega) (.int .i64 0) (.slice none 0 0) (.int .i64 0))
    have HR := Lib.hid hR
    clear hR hgl
    rcases hm with h1 | h1
    · go_enter Tryz.func105, Tryz.ntmps105
      go_wp2
      go_region_held3 (fun w' => w'.cell? ⟨1, 0, none⟩ = some (.iface 185 (.pointer (some s.w))))
        (first | (simp only [World.cell?_drew, k0, z2]; done)) (fail)
      all_goals go_wp2
      all_goals
        generalize hW : (((W0.setCell ⟨w.heap.size + 1, 0, none⟩ (.int .i64 0)).setCell ⟨w.heap.size + 1, 1, none⟩ (.slice none 0 0)).setCell ⟨w.heap.size + 1, 2, none⟩ (.int .i64 0)) = WF at y0 y1 y2 YB ⊢
        refine bodyPost_ret (v := .tuple #[.agg #[.int .i64 0, .slice none 0 0, .int .i64 0], .iface 185 (.pointer (some s.w))]) (by simp [results, Tryz.results105, go_sem, y0, y1, y2]) rfl ?_
        exact ⟨.inr ⟨HR.out, rfl⟩, YB.out.drew⟩
    · have h0 : ¬ m < 0 := by omega
      go_enter Tryz.func105, Tryz.ntmps105
      go_wp2
      go_region_held3 (fun w' => w'.cell? ⟨1, 0, none⟩ = some (.iface 185 (.pointer (some s.w))))
        (first | (simp only [World.cell?_drew, k0, z2]; done)) (fail)
      all_goals go_wp2
      all_goals
        generalize hW : (((W0.setCell ⟨w.heap.size + 1, 0, none⟩ (.int .i64 0)).setCell ⟨w.heap.size + 1, 1, none⟩ (.slice none 0 0)).setCell ⟨w.heap.size + 1, 2, none⟩ (.int .i64 0)) = WF at y0 y1 y2 YB ⊢
        refine bodyPost_ret (v := .tuple #[.agg #[.int .i64 0, .slice none 0 0, .int .i64 0], .iface 185 (.pointer (some s.w))]) (by simp [results, Tryz.results105, go_sem, y0, y1, y2]) rfl ?_
        exact ⟨.inr ⟨HR.out, rfl⟩, YB.out.drew⟩
  · have h0 : ¬ m < 0 := by omega
    have h1 : ¬ m > 2000 := by omega
    have hR := right_room (m := m) (l := zs) (by omega) (by omega)
    obtain ⟨c0, c1, _, _⟩ := id r1
    have HR1 := Lib.hid (And.intro r1 r2)
    have HR := Lib.hid hR
    clear r1 r2 hR
    go_enter Tryz.func105, Tryz.ntmps105
    go_wp2_with (go_at_call 108; refine (room0 s m ao len cap zs hreach hsum W0 HL.out HS.out).mono ?_)
    rintro e w1 ⟨v, t, hv, ht, rfl, hb1⟩
    have HB1 := Lib.hid (below_more HB.out hb1)
    have HQ := Lib.hid (And.intro (HR1.out.1.more hb1) (HR1.out.2.more hb1))
    have k0 := (HS.out.more hb1).cw
    clear hb1 c0 c1
    obtain ⟨en, hen⟩ : ∃ en, roomE m 0 zs = en := ⟨_, rfl⟩
    rw [hen] at hv HR
    by_cases hz : en = 0
    · subst hz
      have hfull := room_full hen
      cases hv
      have ht' : t = takes zs := by rw [ht, hfull, List.take_of_length_le (Nat.le_refl _), Nat.zero_add]
      have HT := Lib.hid ht'
      obtain ⟨c0, c1, _, _⟩ := HQ.out.1
      obtain ⟨y0, y1, y2, _, _, _⟩ := HQ.out.2.set (.int .i64 m) (.slice ao len cap) (.int .i64 (t : Int))
      obtain ⟨d0, d1, d2, f0, f1, f2⟩ := HQ.out.2
      have YB := Lib.hid (set3B HB1.out (b := w.heap.size + 1) (by omega) (.int .i64 m) (.slice ao len cap) (.int .i64 (t : Int)))
      clear ht ht' hfull hen
      go_wp2
      generalize hW : (((w1.setCell ⟨w.heap.size + 1, 0, none⟩ (.int .i64 m)).setCell ⟨w.heap.size + 1, 1, none⟩ (.slice ao len cap)).setCell ⟨w.heap.size + 1, 2, none⟩ (.int .i64 (t : Int))) = WF at y0 y1 y2 YB ⊢
      refine bodyPost_ret (v := .tuple #[.agg #[.int .i64 m, .slice ao len cap, .int .i64 (t : Int)], .nilIface]) (by simp [results, Tryz.results105, go_sem, y0, y1, y2]) rfl ?_
      exact ⟨.inl ⟨by rw [HR.out]; rfl, t, HT.out, rfl⟩, YB.out⟩
    · have hR2 : rightR m zs = false := by rw [HR.out]; exact decide_eq_false hz
      have hve : ∃ a, v = .iface 185 (.pointer (some a)) := by
        cases hv
        · exact absurd rfl hz
        · exact ⟨_, rfl⟩
        · exact ⟨_, rfl⟩
        · exact ⟨_, rfl⟩
      obtain ⟨a, rfl⟩ := hve
      have HR2 := Lib.hid hR2
      have q1 := neq_err a
      obtain ⟨y0, y1, y2, _, _, _⟩ := HQ.out.2.set (.int .i64 0) (.slice none 0 0) (.int .i64 0)
      obtain ⟨d0, d1, d2, f0, f1, f2⟩ := HQ.out.2
      have z2 : ∀ u x y, (((w1.setCell ⟨w.heap.size + 1, 0, none⟩ u).setCell ⟨w.heap.size + 1, 1, none⟩ x).setCell ⟨w.heap.size + 1, 2, none⟩ y).cell? ⟨1, 0, none⟩ = some (.iface 185 (.pointer (some s.w))) := fun u x y => set3O k0 (by omega)
      have YB := Lib.hid (set3B HB1.out (b := w.heap.size + 1) (by omega) (.int .i64 0) (.slice none 0 0) (.int .i64 0))
      clear hv ht hen hR2 hgl
      go_wp2
      go_region_held3 (fun w' => w'.cell? ⟨1, 0, none⟩ = some (.iface 185 (.pointer (some s.w))))
        (first | (simp only [World.cell?_drew, k0, z2]; done)) (fail)
      all_goals go_wp2
      all_goals
        generalize hW : (((w1.setCell ⟨w.heap.size + 1, 0, none⟩ (.int .i64 0)).setCell ⟨w.heap.size + 1, 1, none⟩ (.slice none 0 0)).setCell ⟨w.heap.size + 1, 2, none⟩ (.int .i64 0)) = WF at y0 y1 y2 YB ⊢
        refine bodyPost_ret (v := .tuple #[.agg #[.int .i64 0, .slice none 0 0, .int .i64 0], .iface 185 (.pointer (some s.w))]) (by simp [results, Tryz.results105, go_sem, y0, y1, y2]) rfl ?_
        exact ⟨.inr ⟨HR2.out, rfl⟩, YB.out.drew⟩

end Go.Proofs.YtlafcplcjpcikaaGreatDoor

/- with, rest: rings in new memory. -/
namespace Go.Proofs.YtlafcplcjpcikaaGreatDoor
open Go.RowKit Go.Proofs.Fld Go.Proofs.Rng Go.Shelf Go.Sort









theorem add_zero' (x : Addr) : x.add 0 = x := by simp [Addr.add]
/-- The address of what is behind e. -/
def fromA (ao : Option Addr) (e cap : Nat) : Option Addr := if cap = e then ao else ao.map (·.add e)














theorem Txs.from {W : World} {ao : Option Addr} {len cap : Nat} {zs : List It} (h : Txs W ao len cap zs) (e : Nat) (he : e ≤ len) : Txs W (fromA ao e len) (len - e) (len - e) (zs.drop e) := by
  have hm := h.hmax
  have hle := h.hle
  refine ⟨by rw [List.length_drop, h.hlen], Nat.le_refl _, by omega, fun q => ?_, fun x hx => h.hfits x (List.mem_of_mem_drop hx), fun hz => ?_⟩
  · unfold fromA at q
    by_cases e1 : len = e
    · omega
    · rw [if_neg e1] at q
      cases ao with
      | none => have := h.hnone rfl; omega
      | some x => simp at q
  · have hlt : e < len := by
      rcases Nat.lt_or_ge e len with q | q
      · exact q
      · exact absurd (List.drop_eq_nil_of_le (by rw [h.hlen]; exact q)) hz
    obtain ⟨b, off, rfl, hc⟩ := h.hcells (fun q => hz (by rw [q]; simp))
    refine ⟨b, off + e, ?_, fun j x hj => ?_⟩
    · unfold fromA
      rw [if_neg (by omega)]
      simp [add_at]
    · rw [List.getElem?_drop] at hj
      have := hc _ x hj
      rw [show off + e + j = off + (e + j) by omega]
      exact this

















theorem OwnT.set1 {n0 b i : Nat} {W : World} {v x : Value} {l : List It} (h : OwnT n0 W v l) (hb : b < n0) : OwnT n0 (W.setCell ⟨b, i, none⟩ x) v l := by
  refine ⟨h.1, ?_⟩
  rcases h.2 with ⟨e, h0⟩ | ⟨g, cap, cur, e, hg0, hg, rest⟩
  · exact .inl ⟨e, h0⟩
  · exact .inr ⟨g, cap, cur, e, hg0, (Below.heap_setCell _ _ _ _ (fun q => by have q' : g = b := q; omega)).trans hg, rest⟩
end Go.Proofs.YtlafcplcjpcikaaGreatDoor
