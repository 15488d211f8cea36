/- Merged texts: LcMath, LcSent, LcAs, LcErr, LcTold, LcCode, LcIter, LcWrite, LcPut -/
import Derived.Test.YtfpjbefhfkembaaDoorLabA
import Derived.Test.YtfpjbefhfkembaaDoorFldA
import Derived.LaidEql
import Derived.Stop.Asserts
import Derived.RowKitTokens
import Derived.Test.YtfpjbefhfkembaaDoorFldB
import Derived.Test.YtfpjbefhfkembaaDoorFldD
import Derived.Deep.RegionHeld3
import Derived.Test.YtfpjbefhfkembaaDoorFldC
/- Labels and their bytes: plain facts. -/
namespace Go.Proofs.Lcd
open Go.Proofs.Cats Go.Proofs.Fld

/-- A label's ten bytes. -/
def labB (a : Lab) : List UInt8 := enc 1 a.l.toNat ++ (enc 1 a.i.toNat ++ enc 8 a.c)
/-- The label of ten bytes. -/
def labOf (s : List UInt8) : Lab := ⟨(dec 0 (s.take 1) : Nat), dec 0 ((s.drop 2).take 8), (dec 0 ((s.drop 1).take 1) : Nat)⟩

theorem labB_length (a : Lab) : (labB a).length = 10 := by simp [labB, enc_length]
theorem labOf_fits (s : List UInt8) : (labOf s).fits := by
  unfold Lab.fits U64
  have h := dec_lt ((s.drop 2).take 8)
  have h2 : ((s.drop 2).take 8).length ≤ 8 := by rw [List.length_take]; omega
  have h3 : 256 ^ ((s.drop 2).take 8).length ≤ 256 ^ 8 := Nat.pow_le_pow_right (by decide) h2
  simp only [labOf]
  omega
theorem right_nat {a : Lab} (h : a.right = true) : ∃ l i : Nat, a.l = (l : Int) ∧ a.i = (i : Int) ∧ l < 256 ∧ i < 256 := by
  rw [Lab.right_iff] at h
  exact ⟨a.l.toNat, a.i.toNat, by omega, by omega, by omega, by omega⟩
theorem labOf_labB {a : Lab} (hf : a.fits) (h : a.right = true) (s : List UInt8) : labOf (labB a ++ s) = a := by
  obtain ⟨l, c, i⟩ := a
  obtain ⟨l', i', h1, h2, h3, h4⟩ := right_nat h
  simp only at h1 h2
  subst h1 h2
  have e1 : ((labB ⟨l', c, i'⟩ ++ s).take 1) = enc 1 l' := by simp [labB, enc]
  have e2 : (((labB ⟨l', c, i'⟩ ++ s).drop 1).take 1) = enc 1 i' := by simp [labB, enc]
  have e3 : (((labB ⟨l', c, i'⟩ ++ s).drop 2).take 8) = enc 8 c := by
    have hl := enc_length 8 c
    have e : (labB ⟨l', c, i'⟩ ++ s).drop 2 = enc 8 c ++ s := by simp [labB, enc]
    rw [e, List.take_append_of_le_length (by omega), List.take_of_length_le (by omega)]
  unfold labOf
  rw [e1, e2, e3, dec_enc_lt (k := 1) (by simpa using h3), dec_enc_lt (k := 1) (by simpa using h4), dec_enc_lt (k := 8) hf]
theorem labB_drop (a : Lab) (s : List UInt8) : (labB a ++ s).drop 10 = s := by
  rw [List.drop_append_of_le_length (by rw [labB_length]; omega), List.drop_of_length_le (by rw [labB_length]; omega)]; rfl
theorem labB_labOf {s : List UInt8} (h : 10 ≤ s.length) : labB (labOf s) = s.take 10 := by
  have l1 : (s.take 1).length = 1 := by rw [List.length_take]; omega
  have l2 : ((s.drop 1).take 1).length = 1 := by rw [List.length_take, List.length_drop]; omega
  have l3 : ((s.drop 2).take 8).length = 8 := by rw [List.length_take, List.length_drop]; omega
  have e1 := enc_dec (s.take 1)
  have e2 := enc_dec ((s.drop 1).take 1)
  have e3 := enc_dec ((s.drop 2).take 8)
  rw [l1] at e1
  rw [l2] at e2
  rw [l3] at e3
  simp only [labB, labOf, Int.toNat_natCast]
  rw [e1, e2, e3, ← List.append_assoc]
  have f1 : s.take 1 ++ (s.drop 1).take 1 = s.take 2 := by rw [← List.take_add]
  have f2 : s.take 2 ++ (s.drop 2).take 8 = s.take 10 := by rw [← List.take_add]
  rw [f1, f2]
theorem labB_back {s : List UInt8} (h : 10 ≤ s.length) : labB (labOf s) ++ s.drop 10 = s := by rw [labB_labOf h, List.take_append_drop]

/-- Put. -/
def putR (a : Lab) : List UInt8 × Int := if a.right = true then (labB a, 0) else ([], 20)
/-- Get. -/
def getR (s : List UInt8) : Lab × List UInt8 × Int := if s.length < 10 then (Lab.zero, [], 30) else if (labOf s).right = true then (labOf s, s.drop 10, 0) else (Lab.zero, [], 40)
theorem putR_ok {a : Lab} (h : a.right = true) : putR a = (labB a, 0) := by unfold putR; rw [if_pos h]
theorem putR_no {a : Lab} (h : a.right = false) : putR a = ([], 20) := by unfold putR; rw [if_neg (by rw [h]; decide)]
theorem getR_few {s : List UInt8} (h : s.length < 10) : getR s = (Lab.zero, [], 30) := by unfold getR; rw [if_pos h]
theorem getR_bad {s : List UInt8} (h : 10 ≤ s.length) (k : (labOf s).right = false) : getR s = (Lab.zero, [], 40) := by unfold getR; rw [if_neg (by omega), if_neg (by rw [k]; decide)]
theorem getR_ok {s : List UInt8} (h : 10 ≤ s.length) (k : (labOf s).right = true) : getR s = (labOf s, s.drop 10, 0) := by unfold getR; rw [if_neg (by omega), if_pos k]
/-- The three ways Get goes. -/
theorem getR_cases (s : List UInt8) : (s.length < 10 ∧ getR s = (Lab.zero, [], 30)) ∨ (10 ≤ s.length ∧ (labOf s).right = false ∧ getR s = (Lab.zero, [], 40)) ∨ (10 ≤ s.length ∧ (labOf s).right = true ∧ getR s = (labOf s, s.drop 10, 0)) := by
  by_cases h : s.length < 10
  · exact .inl ⟨h, getR_few h⟩
  · cases k : (labOf s).right
    · exact .inr (.inl ⟨by omega, rfl, getR_bad (by omega) k⟩)
    · exact .inr (.inr ⟨by omega, rfl, getR_ok (by omega) k⟩)
theorem getR_fits (s : List UInt8) : (getR s).1.fits := by
  have hz : Lab.zero.fits := by unfold Lab.fits Lab.zero U64; decide
  rcases getR_cases s with ⟨_, e⟩ | ⟨_, _, e⟩ | ⟨_, _, e⟩ <;> rw [e]
  · exact hz
  · exact hz
  · exact labOf_fits s
theorem getR_labB {a : Lab} (hf : a.fits) (h : a.right = true) (s : List UInt8) : getR (labB a ++ s) = (a, s, 0) := by
  rw [getR_ok (by rw [List.length_append, labB_length]; omega) (by rw [labOf_labB hf h]; exact h), labOf_labB hf h, labB_drop]
theorem getR_zero {s : List UInt8} (h : (getR s).2.2 = 0) : 10 ≤ s.length ∧ (labOf s).right = true ∧ getR s = (labOf s, s.drop 10, 0) := by
  rcases getR_cases s with ⟨_, e⟩ | ⟨_, _, e⟩ | ⟨h1, h2, e⟩
  · rw [e] at h; exact absurd h (by decide)
  · rw [e] at h; exact absurd h (by decide)
  · exact ⟨h1, h2, e⟩
theorem getR_err {s : List UInt8} (h : (getR s).2.2 ≠ 0) : getR s = (Lab.zero, [], (getR s).2.2) := by
  rcases getR_cases s with ⟨_, e⟩ | ⟨_, _, e⟩ | ⟨_, _, e⟩
  · rw [e]
  · rw [e]
  · rw [e] at h; exact absurd rfl h
/-- PutRange. -/
def putRangeR (a b : Lab) : List UInt8 × Int := if (a.right && b.right) = true then (if a.under b = true then (labB a ++ labB b, 0) else ([], 40)) else ([], 20)
/-- GetRange. -/
def getRangeR (s : List UInt8) : Lab × Lab × List UInt8 × Int :=
  if (getR s).2.2 = 0 then (if (getR (getR s).2.1).2.2 = 0 then (if (getR s).1.under (getR (getR s).2.1).1 = true then ((getR s).1, (getR (getR s).2.1).1, (getR (getR s).2.1).2.1, 0) else (Lab.zero, Lab.zero, [], 40)) else (Lab.zero, Lab.zero, [], (getR (getR s).2.1).2.2)) else (Lab.zero, Lab.zero, [], (getR s).2.2)

/-- The bytes of some labels. -/
def listB : List Lab → List UInt8
  | [] => []
  | a :: r => labB a ++ listB r
theorem listB_append (l m : List Lab) : listB (l ++ m) = listB l ++ listB m := by
  induction l with
  | nil => rfl
  | cons a r ih => simp [listB, ih]
theorem listB_length (l : List Lab) : (listB l).length = 10 * l.length := by
  induction l with
  | nil => rfl
  | cons a r ih => simp only [listB, List.length_append, labB_length, ih, List.length_cons]; omega
/-- PutList. -/
def putListR (zs : List Lab) : List UInt8 × Int := if zs.all Lab.right = true then (listB zs, 0) else ([], 20)
theorem putListR_ok {zs : List Lab} (h : zs.all Lab.right = true) : putListR zs = (listB zs, 0) := by unfold putListR; rw [if_pos h]
theorem putListR_no {zs : List Lab} (h : zs.all Lab.right = false) : putListR zs = ([], 20) := by unfold putListR; rw [if_neg (by rw [h]; decide)]

/-- GetList's code: the first error, as long as something is left. -/
def listC (s : List UInt8) : Int :=
  if _h : s = [] then 0 else if (getR s).2.2 = 0 then listC (s.drop 10) else (getR s).2.2
  termination_by s.length
  decreasing_by
  rw [List.length_drop]
  have := List.length_pos_iff.2 _h
  omega
/-- GetList's labels. -/
def listL (s : List UInt8) : List Lab :=
  if _h : s = [] then [] else if (getR s).2.2 = 0 then labOf s :: listL (s.drop 10) else []
  termination_by s.length
  decreasing_by
  rw [List.length_drop]
  have := List.length_pos_iff.2 _h
  omega
theorem listC_nil : listC [] = 0 := by rw [listC]; rfl
theorem listL_nil : listL [] = [] := by rw [listL]; rfl
theorem listC_ok {s : List UInt8} (h0 : s ≠ []) (h : (getR s).2.2 = 0) : listC s = listC (s.drop 10) := by rw [listC, dif_neg h0, if_pos h]
theorem listL_ok {s : List UInt8} (h0 : s ≠ []) (h : (getR s).2.2 = 0) : listL s = labOf s :: listL (s.drop 10) := by rw [listL, dif_neg h0, if_pos h]
theorem listC_bad {s : List UInt8} (h0 : s ≠ []) (h : (getR s).2.2 ≠ 0) : listC s = (getR s).2.2 := by rw [listC, dif_neg h0, if_neg h]
/-- GetList. -/
def getListR (s : List UInt8) : List Lab × Int := if listC s = 0 then (listL s, 0) else ([], listC s)
theorem getListR_ok {s : List UInt8} (h : listC s = 0) : getListR s = (listL s, 0) := by unfold getListR; rw [if_pos h]
theorem getListR_no {s : List UInt8} (h : listC s ≠ 0) : getListR s = ([], listC s) := by unfold getListR; rw [if_neg h]
theorem list_len (n : Nat) : ∀ s : List UInt8, s.length ≤ n → (listL s).length ≤ n := by
  induction n with
  | zero =>
    intro s hs
    obtain rfl : s = [] := List.eq_nil_of_length_eq_zero (by omega)
    rw [listL_nil]; exact Nat.le_refl _
  | succ n ih =>
    intro s hs
    by_cases h0 : s = []
    · subst h0; rw [listL_nil]; exact Nat.zero_le _
    · by_cases h : (getR s).2.2 = 0
      · rw [listL_ok h0 h, List.length_cons]
        have := ih (s.drop 10) (by rw [List.length_drop]; have := (getR_zero h).1; omega)
        omega
      · rw [listL, dif_neg h0, if_neg h]; exact Nat.zero_le _
theorem listL_right (n : Nat) : ∀ s : List UInt8, s.length ≤ n → (listL s).all Lab.right = true ∧ ∀ x ∈ listL s, x.fits := by
  induction n with
  | zero =>
    intro s hs
    obtain rfl : s = [] := List.eq_nil_of_length_eq_zero (by omega)
    rw [listL_nil]; exact ⟨rfl, fun _ h => by cases h⟩
  | succ n ih =>
    intro s hs
    by_cases h0 : s = []
    · subst h0; rw [listL_nil]; exact ⟨rfl, fun _ h => by cases h⟩
    · by_cases h : (getR s).2.2 = 0
      · obtain ⟨h1, h2, _⟩ := getR_zero h
        obtain ⟨i1, i2⟩ := ih (s.drop 10) (by rw [List.length_drop]; omega)
        rw [listL_ok h0 h]
        refine ⟨by rw [List.all_cons, h2, i1]; rfl, fun x hx => ?_⟩
        rcases List.mem_cons.1 hx with rfl | hx
        · exact labOf_fits s
        · exact i2 x hx
      · rw [listL, dif_neg h0, if_neg h]; exact ⟨rfl, fun _ h => by cases h⟩
theorem listB_back (n : Nat) : ∀ s : List UInt8, s.length ≤ n → listC s = 0 → listB (listL s) = s := by
  induction n with
  | zero =>
    intro s hs _
    obtain rfl : s = [] := List.eq_nil_of_length_eq_zero (by omega)
    rw [listL_nil]; rfl
  | succ n ih =>
    intro s hs hc
    by_cases h0 : s = []
    · subst h0; rw [listL_nil]; rfl
    · by_cases h : (getR s).2.2 = 0
      · obtain ⟨h1, h2, _⟩ := getR_zero h
        rw [listC_ok h0 h] at hc
        rw [listL_ok h0 h, listB, ih (s.drop 10) (by rw [List.length_drop]; omega) hc, labB_back h1]
      · rw [listC_bad h0 h] at hc; exact absurd hc h
theorem list_listB : ∀ zs : List Lab, zs.all Lab.right = true → (∀ x ∈ zs, x.fits) → listC (listB zs) = 0 ∧ listL (listB zs) = zs
  | [], _, _ => ⟨listC_nil, listL_nil⟩
  | a :: r, h, hf => by
    rw [List.all_cons, Bool.and_eq_true] at h
    have hfa := hf a (List.mem_cons_self ..)
    obtain ⟨i1, i2⟩ := list_listB r h.2 (fun x hx => hf x (List.mem_cons_of_mem _ hx))
    have hne : listB (a :: r) ≠ [] := fun e => by
      have := congrArg List.length e
      rw [listB_length] at this
      simp at this
    have hg : getR (listB (a :: r)) = (a, listB r, 0) := getR_labB hfa h.1 _
    have hz : (getR (listB (a :: r))).2.2 = 0 := by rw [hg]
    have hd : (listB (a :: r)).drop 10 = listB r := labB_drop a _
    have ho : labOf (listB (a :: r)) = a := labOf_labB hfa h.1 _
    rw [listC_ok hne hz, listL_ok hne hz, hd, ho, i1, i2]
    exact ⟨rfl, rfl⟩

end Go.Proofs.Lcd

/- The sentinels of labcode, beside those of field. -/
namespace Go.Proofs.YtfpjbefhfkembaaDoor
open Go.RowKit

/-- Where they lie: no label, too few, no label's bytes, not under the next one; whether the last one is listed. -/
structure SnL where
  n : Addr
  f : Addr
  b : Addr
  o : Addr
  q : Bool

structure SentL (s : Sn) (t : SnL) (w : World) : Prop where
  fld : Sent s w
  cn : w.cell? ⟨0, 0, none⟩ = some (.iface 161 (.pointer (some t.n)))
  cf : w.cell? ⟨1, 0, none⟩ = some (.iface 161 (.pointer (some t.f)))
  cb : w.cell? ⟨2, 0, none⟩ = some (.iface 161 (.pointer (some t.b)))
  co : t.q = true → w.cell? ⟨3, 0, none⟩ = some (.iface 161 (.pointer (some t.o)))
  bn : Blk0 w t.n
  bf : Blk0 w t.f
  bb : Blk0 w t.b
  bo : t.q = true → Blk0 w t.o
  nf : t.n ≠ t.f
  nb : t.n ≠ t.b
  no : t.q = true → t.n ≠ t.o
  fb : t.f ≠ t.b
  fo : t.q = true → t.f ≠ t.o

theorem blk0_below {n : Nat} {A B : World} {a : Addr} (h : Blk0 A a) (hn : A.heap.size ≤ n) (hb : Below n A B) : Blk0 B a := by
  have := h.lt
  obtain ⟨c, t, e⟩ := h
  exact ⟨c, t, (hb.block _ (by omega)).trans e⟩
theorem cell_below {n : Nat} {A B : World} {b o : Nat} {v : Value} (h : A.cell? ⟨b, o, none⟩ = some v) (hn : A.heap.size ≤ n) (hb : Below n A B) : B.cell? ⟨b, o, none⟩ = some v := by
  have := World.block_lt_of_cell? A _ h
  exact (hb.cell (p := ⟨b, o, none⟩) (by simp at this ⊢; omega)).trans h
theorem SentL.below {s : Sn} {t : SnL} {n : Nat} {A B : World} (h : SentL s t A) (hn : A.heap.size ≤ n) (hb : Below n A B) : SentL s t B :=
  ⟨h.fld.below hn hb, cell_below h.cn hn hb, cell_below h.cf hn hb, cell_below h.cb hn hb, fun hq => cell_below (h.co hq) hn hb, blk0_below h.bn hn hb, blk0_below h.bf hn hb, blk0_below h.bb hn hb, fun hq => blk0_below (h.bo hq) hn hb, h.nf, h.nb, h.no, h.fb, h.fo⟩
theorem SentL.more {s : Sn} {t : SnL} {A B : World} (h : SentL s t A) (hb : Below A.heap.size A B) : SentL s t B := h.below (Nat.le_refl _) hb
theorem SentL.alloc {s : Sn} {t : SnL} {A : World} (h : SentL s t A) (o : Obj) : SentL s t (A.alloc o) := h.more (Below.new A o)

/-- A fault behind so many labels, for the reason at a. -/
def faultL (k : Int) (a : Addr) : Value := .iface 84 (.agg #[.int .i64 k, .iface 161 (.pointer (some a))])

/-- What callers are told, by what went wrong. -/
inductive ErrL (t : SnL) : Value → Int → Prop
  | ok : ErrL t .nilIface 0
  | none (k : Int) : ErrL t (faultL k t.n) 20
  | few (k : Int) : ErrL t (faultL k t.f) 30
  | bytes (k : Int) : ErrL t (faultL k t.b) 40
  | order (k : Int) (h : t.q = true) : ErrL t (faultL k t.o) 40
theorem errL_zero {t : SnL} {v : Value} (h : ErrL t v 0) : v = .nilIface := by
  generalize hc : (0 : Int) = c at h
  cases h with
  | ok => rfl
  | none k => exact absurd hc (by decide)
  | few k => exact absurd hc (by decide)
  | bytes k => exact absurd hc (by decide)
  | order k _ => exact absurd hc (by decide)
theorem errL_some {t : SnL} {v : Value} {c : Int} (h : ErrL t v c) (hc : c ≠ 0) : ∃ x, v = .iface 84 x := by
  cases h with
  | ok => exact absurd rfl hc
  | none k => exact ⟨_, rfl⟩
  | few k => exact ⟨_, rfl⟩
  | bytes k => exact ⟨_, rfl⟩
  | order k _ => exact ⟨_, rfl⟩

end Go.Proofs.YtfpjbefhfkembaaDoor

/- errors.As at the one target, a variable of type labcode.fault: nil, and a fault. -/
namespace Go.Proofs.YtfpjbefhfkembaaDoor.Lc
open Go.RowKit Go.Extern.Stop Go.Stop Go.Extern

/-- errors.As(nil, target). -/
theorem as_nil (t : Value) (w : World) :
    Calls Tryd.prog 42 #[.nilIface, t] w fun e w' => e = .returned (.bool false) ∧ w = w' := by
  go_enter Tryd.func42, Tryd.ntmps42
  go_wp2
  go_ret
  exact ⟨rfl, rfl⟩

theorem asV (t : Addr) (w : World) : (ReflectliteValue.unpack (.iface 86 (.pointer (some t)))).run Tryd.prog w
    = .ok (.agg #[.pointer (some ⟨8, 86, none⟩), .pointer (some ⟨w.heap.size, 0, none⟩), .int .u64 150]) (w.alloc (.cells #[.pointer (some t)] 86)) := by kernel_rfl
theorem asT (a : Addr) (w : World) : (ReflectliteValue.methodAny (ReflectliteValue.valueError "reflectlite.Value.Type" 0) (fun t _ _ _ => ReflectliteType.toType t) #[.agg #[.pointer (some ⟨8, 86, none⟩), .pointer (some a), .int .u64 150]]).run Tryd.prog w
    = .ok (.iface 131 (.agg #[.pointer (some ⟨8, 86, none⟩)])) w := by kernel_rfl
theorem asMK (h : Value) (w : World) : (Go.method 294 131 (.agg #[h]) "Kind").run Tryd.prog w = .ok (96, h) w := by kernel_rfl
theorem asKp (w : World) : ((ReflectliteType.abiMethod fun t => (fun a : Nat => Value.int IntKind.u8 (a : Int)) <$> Rtype.kind t) #[.pointer (some ⟨8, 86, none⟩)]).run Tryd.prog w = .ok (.int .u8 22) w := by kernel_rfl
theorem asKs (w : World) : ((ReflectliteType.abiMethod fun t => (fun a : Nat => Value.int IntKind.u8 (a : Int)) <$> Rtype.kind t) #[.pointer (some ⟨8, 84, none⟩)]).run Tryd.prog w = .ok (.int .u8 25) w := by kernel_rfl

theorem asPartsP (a : Addr) (w : World) : (ReflectliteValue.parts (.agg #[.pointer (some ⟨8, 86, none⟩), .pointer (some a), .int .u64 150])).run Tryd.prog w = .ok (some (86, a, 150)) w := by kernel_rfl
theorem asIsNil (a p : Addr) (W : World) (ha : W.cell? a = some (.pointer (some p))) :
    (ReflectliteValue.method (ReflectliteValue.valueError "reflectlite.Value.IsNil" 0) ReflectliteValue.isNil #[.agg #[.pointer (some ⟨8, 86, none⟩), .pointer (some a), .int .u64 150]]).run Tryd.prog W = .ok (.bool false) W := by
  show (ReflectliteValue.parts (.agg #[.pointer (some ⟨8, 86, none⟩), .pointer (some a), .int .u64 150]) >>= _ : Sem Value).run Tryd.prog W = _
  simp only [Sem.run_bind, asPartsP, Result.andThen]
  simp [ReflectliteValue.isNil, loadVar, isAgg, underlying, Tryd.underlying86, ha, Result.andThen]
theorem asME (h : Value) (w : World) : (Go.method 294 131 (.agg #[h]) "Elem").run Tryd.prog w = .ok (111, .agg #[h]) w := by kernel_rfl
theorem asMI (h : Value) (w : World) : (Go.method 294 131 (.agg #[h]) "Implements").run Tryd.prog w = .ok (112, .agg #[h]) w := by kernel_rfl
theorem asMA (h : Value) (w : World) : (Go.method 294 131 (.agg #[h]) "AssignableTo").run Tryd.prog w = .ok (109, .agg #[h]) w := by kernel_rfl
theorem asElemT (w : World) : (ReflectliteType.method ReflectliteType.elem #[.agg #[.pointer (some ⟨8, 86, none⟩)]]).run Tryd.prog w = .ok (.iface 131 (.agg #[.pointer (some ⟨8, 84, none⟩)])) w := by kernel_rfl
theorem asImpl (w : World) : (ReflectliteType.relation "Implements" ReflectliteType.implements_ #[.agg #[.pointer (some ⟨8, 84, none⟩)], .iface 131 (.agg #[.pointer (some ⟨8, 46, none⟩)])]).run Tryd.prog w = .ok (.bool true) w := by kernel_rfl
theorem asTypeOf (v : Value) (w : World) : (ReflectliteType.typeOf #[.iface 84 v]).run Tryd.prog w = .ok (.iface 131 (.agg #[.pointer (some ⟨8, 84, none⟩)])) w := by kernel_rfl
theorem asAssign (w : World) : (ReflectliteType.relation "AssignableTo" ReflectliteType.assignableTo #[.agg #[.pointer (some ⟨8, 84, none⟩)], .iface 131 (.agg #[.pointer (some ⟨8, 84, none⟩)])]).run Tryd.prog w = .ok (.bool true) w := by kernel_rfl
theorem asVs (l c : Value) (w : World) : (ReflectliteValue.unpack (.iface 84 (.agg #[l, c]))).run Tryd.prog w
    = .ok (.agg #[.pointer (some ⟨8, 84, none⟩), .pointer (some ⟨w.heap.size, 0, none⟩), .int .u64 153]) (w.alloc (.cells #[l, c] 84)) := by kernel_rfl
theorem asElemOf (w : World) : (Rtype.elem? 86).run Tryd.prog w = .ok (some 84) w := by kernel_rfl
theorem asMk (p : Addr) (w : World) : (ReflectliteValue.mk 84 p ReflectliteValue.flagAddr).run Tryd.prog w = .ok (.agg #[.pointer (some ⟨8, 84, none⟩), .pointer (some p), .int .u64 409]) w := by kernel_rfl
theorem asElemV (a p : Addr) (W : World) (ha : W.cell? a = some (.pointer (some p))) :
    (ReflectliteValue.method (ReflectliteValue.valueError "reflectlite.Value.Elem" 0) ReflectliteValue.elem #[.agg #[.pointer (some ⟨8, 86, none⟩), .pointer (some a), .int .u64 150]]).run Tryd.prog W
      = .ok (.agg #[.pointer (some ⟨8, 84, none⟩), .pointer (some p), .int .u64 409]) W := by
  show (ReflectliteValue.parts (.agg #[.pointer (some ⟨8, 86, none⟩), .pointer (some a), .int .u64 150]) >>= _ : Sem Value).run Tryd.prog W = _
  simp only [Sem.run_bind, asPartsP, Result.andThen]
  simp [ReflectliteValue.elem, loadVar, isAgg, underlying, Tryd.underlying86, ha, Result.andThen, asElemOf, asMk]
theorem asPartsA (a : Addr) (w : World) : (ReflectliteValue.parts (.agg #[.pointer (some ⟨8, 84, none⟩), .pointer (some a), .int .u64 409])).run Tryd.prog w = .ok (some (84, a, 409)) w := by kernel_rfl
theorem asPartsS (a : Addr) (w : World) : (ReflectliteValue.parts (.agg #[.pointer (some ⟨8, 84, none⟩), .pointer (some a), .int .u64 153])).run Tryd.prog w = .ok (some (84, a, 153)) w := by kernel_rfl
theorem asDirect (w : World) : (Rtype.directlyAssignable 84 84).run Tryd.prog w = .ok true w := by kernel_rfl
theorem asSize (w : World) : (sizeOf 84).run Tryd.prog w = .ok 2 w := by kernel_rfl


/-- (Value).Set: the variable at block t gets what the Value's own variable at block b holds. -/
theorem asSet (t b : Nat) (l : Int) (ty : TypeId) (c o0 o1 : Value) (W : World) (h0 : W.cell? ⟨b, 0, none⟩ = some (.int .i64 l)) (h1 : W.cell? ⟨b, 1, none⟩ = some (.iface ty c))
    (t0 : W.cell? ⟨t, 0, none⟩ = some o0) (t1 : W.cell? ⟨t, 1, none⟩ = some o1)
    (f0 : W.frozen? ⟨t, 0, none⟩ = false) (f1 : W.frozen? ⟨t, 1, none⟩ = false) :
    (ReflectliteValue.set #[.agg #[.pointer (some ⟨8, 84, none⟩), .pointer (some ⟨t, 0, none⟩), .int .u64 409], .agg #[.pointer (some ⟨8, 84, none⟩), .pointer (some ⟨b, 0, none⟩), .int .u64 153]]).run Tryd.prog W
      = .ok (.tuple #[]) ((W.setCell ⟨t, 0, none⟩ (.int .i64 l)).setCell ⟨t, 1, none⟩ (.iface ty c)) := by
  have u1 : (W.setCell ⟨t, 0, none⟩ (.int .i64 l)).cell? ⟨t, 1, none⟩ = some o1 := (World.cell?_setCell_other _ _ _ _ (by simp)).trans t1
  have hl := run_loadCells_list (P := Tryd.prog) W ⟨b, 0, none⟩ [.int .i64 l, .iface ty c] (fun j v hj => by
    match j with
    | 0 => obtain rfl := Option.some.inj hj; exact h0
    | 1 => obtain rfl := Option.some.inj hj; exact h1
    | n + 2 => simp at hj)
  simp only [List.length_cons, List.length_nil, Nat.reduceAdd] at hl
  show (ReflectliteValue.parts (.agg #[.pointer (some ⟨8, 84, none⟩), .pointer (some ⟨t, 0, none⟩), .int .u64 409]) >>= fun _ => ReflectliteValue.parts (.agg #[.pointer (some ⟨8, 84, none⟩), .pointer (some ⟨b, 0, none⟩), .int .u64 153]) >>= fun _ => _ : Sem Value).run Tryd.prog W = _
  simp only [Sem.run_bind, asPartsA, asPartsS, Result.andThen]
  simp [ReflectliteValue.flagAddr, loadVar, isAgg, underlying, Tryd.underlying84, hl, Result.andThen, asDirect, storeVar, Value.cells, storeCells, Addr.add]
  rw [run_store_int]
  simp [stored, t0, f0]
  rw [run_store _ _ _ (.iface ty c) _ rfl]
  simp [u1, f1, World.frozen?_setCell]

set_option maxRecDepth 100000 in
set_option maxHeartbeats 4000000 in
theorem as_hit (l : Int) (ty : TypeId) (c : Value) (t : Nat) (o0 o1 : Value) (w : World) (hg : w.cell? ⟨4, 0, none⟩ = some (.iface 131 (.agg #[.pointer (some ⟨8, 46, none⟩)])))
    (t0 : w.cell? ⟨t, 0, none⟩ = some o0) (t1 : w.cell? ⟨t, 1, none⟩ = some o1)
    (f0 : w.frozen? ⟨t, 0, none⟩ = false) (f1 : w.frozen? ⟨t, 1, none⟩ = false) :
    Calls Tryd.prog 42 #[.iface 84 (.agg #[.int .i64 l, .iface ty c]), .iface 86 (.pointer (some ⟨t, 0, none⟩))] w fun ev w' => ev = .returned (.bool true) ∧ w'.cell? ⟨t, 0, none⟩ = some (.int .i64 l) ∧ w'.cell? ⟨t, 1, none⟩ = some (.iface ty c) ∧ Below t w w' := by
  have h6 := @run_callFunc_extern Tryd.prog 57 _ (fun args => ReflectliteValue.unpack (args.getD 0 (.tuple #[]))) Tryd.func57 (by kernel_rfl) (by kernel_rfl) (by kernel_rfl) (by kernel_rfl)
  have h7 := @run_callFunc_extern Tryd.prog 58 _ (ReflectliteValue.methodAny (ReflectliteValue.valueError "reflectlite.Value.Type" 0) (fun t _ _ _ => ReflectliteType.toType t)) Tryd.func58 (by kernel_rfl) (by kernel_rfl) (by kernel_rfl) (by kernel_rfl)
  have h8 := @run_callFunc_extern Tryd.prog 59 _ (ReflectliteValue.method (ReflectliteValue.valueError "reflectlite.Value.IsNil" 0) ReflectliteValue.isNil) Tryd.func59 (by kernel_rfl) (by kernel_rfl) (by kernel_rfl) (by kernel_rfl)
  have h27 := @run_callFunc_extern Tryd.prog 96 _ (ReflectliteType.abiMethod fun t => do pure (.int .u8 (← Rtype.kind t))) Tryd.func96 (by kernel_rfl) (by kernel_rfl) (by kernel_rfl) (by kernel_rfl)
  have h37 := @run_callFunc_extern Tryd.prog 111 _ (ReflectliteType.method ReflectliteType.elem) Tryd.func111 (by kernel_rfl) (by kernel_rfl) (by kernel_rfl) (by kernel_rfl)
  have h38 := @run_callFunc_extern Tryd.prog 112 _ (ReflectliteType.relation "Implements" ReflectliteType.implements_) Tryd.func112 (by kernel_rfl) (by kernel_rfl) (by kernel_rfl) (by kernel_rfl)
  have h10 := @run_callFunc_extern Tryd.prog 61 _ ReflectliteType.typeOf Tryd.func61 (by kernel_rfl) (by kernel_rfl) (by kernel_rfl) (by kernel_rfl)
  have h35 := @run_callFunc_extern Tryd.prog 109 _ (ReflectliteType.relation "AssignableTo" ReflectliteType.assignableTo) Tryd.func109 (by kernel_rfl) (by kernel_rfl) (by kernel_rfl) (by kernel_rfl)
  have h11 := @run_callFunc_extern Tryd.prog 72 _ (ReflectliteValue.method (ReflectliteValue.valueError "reflectlite.Value.Elem" 0) ReflectliteValue.elem) Tryd.func72 (by kernel_rfl) (by kernel_rfl) (by kernel_rfl) (by kernel_rfl)
  have h12 := @run_callFunc_extern Tryd.prog 73 _ ReflectliteValue.set Tryd.func73 (by kernel_rfl) (by kernel_rfl) (by kernel_rfl) (by kernel_rfl)
  have tO := asTypeOf
  have mA := asMA
  have a25 := asAssign
  have v25 := asVs (.int .i64 l) (.iface ty c)
  have f6 := asV
  have f7 := asT
  have mK := asMK
  have mE := asME
  have mI := asMI
  have k27 := asKp
  have k25 := asKs
  have e27 := asElemT
  have i25 := asImpl
  have hlt : 4 < w.heap.size := World.block_lt_of_cell? w _ hg
  have htl : t < w.heap.size := World.block_lt_of_cell? w _ t0
  have hB2 : Below w.heap.size w ((w.alloc (.cells #[.pointer (some ⟨t, 0, none⟩)] 86)).alloc (.cells #[.pointer (some ⟨8, 86, none⟩), .pointer (some ⟨w.heap.size, 0, none⟩), .int .u64 150] 105)) := ((Below.refl _ w).alloc (Nat.le_refl _) _).alloc (by simp) _
  have hB4 := ((hB2.alloc (by simp; omega) (.cells #[.pointer (some ⟨8, 86, none⟩), .pointer (some ⟨w.heap.size, 0, none⟩), .int .u64 150] 105)).alloc (by simp; omega) (.cells #[.int .i64 l, .iface ty c] 84))
  have n8 := asIsNil ⟨w.heap.size, 0, none⟩ ⟨t, 0, none⟩ ((w.alloc (.cells #[.pointer (some ⟨t, 0, none⟩)] 86)).alloc (.cells #[.pointer (some ⟨8, 86, none⟩), .pointer (some ⟨w.heap.size, 0, none⟩), .int .u64 150] 105)) (by simp)
  have hg2 := (hB2.cell (p := ⟨4, 0, none⟩) hlt).trans hg
  have el := asElemV ⟨w.heap.size, 0, none⟩ ⟨t, 0, none⟩ (((w.alloc (.cells #[.pointer (some ⟨t, 0, none⟩)] 86)).alloc (.cells #[.pointer (some ⟨8, 86, none⟩), .pointer (some ⟨w.heap.size, 0, none⟩), .int .u64 150] 105)).alloc (.cells #[.pointer (some ⟨8, 86, none⟩), .pointer (some ⟨w.heap.size, 0, none⟩), .int .u64 150] 105)) (by rw [World.cell?_alloc_lt _ _ ⟨w.heap.size, 0, none⟩ (by simp; omega)]; simp)
  have st := asSet t (w.heap.size + 1 + 1 + 1) l ty c o0 o1 _ (by rw [World.cell?_alloc_at _ _ _ _ (by simp)]; rfl) (by rw [World.cell?_alloc_at _ _ _ _ (by simp)]; rfl)
    ((hB4.cell (p := ⟨t, 0, none⟩) htl).trans t0) ((hB4.cell (p := ⟨t, 1, none⟩) htl).trans t1)
    ((hB4.frozen (p := ⟨t, 0, none⟩) htl).trans f0) ((hB4.frozen (p := ⟨t, 1, none⟩) htl).trans f1)
  go_enter Tryd.func42, Tryd.ntmps42
  go_wp2
  refine wp_loop_rounds 1 ?_
  rw [rounds_succ]
  go_wp2
  go_ret
  have k0 := (hB4.cell (p := ⟨t, 0, none⟩) htl).trans t0
  have k1 := (hB4.cell (p := ⟨t, 1, none⟩) htl).trans t1
  generalize hW4 : World.alloc (World.alloc (World.alloc (World.alloc w _) _) _) _ = W4 at hB4 k0 k1 ⊢
  refine ⟨rfl, ?_, ?_, ((hB4.mono (Nat.le_of_lt htl)).setCell (p := ⟨t, 0, none⟩) (Nat.le_refl _) _).setCell (p := ⟨t, 1, none⟩) (Nat.le_refl _) _⟩
  · rw [World.cell?_setCell_other _ _ _ _ (by simp)]
    exact World.cell?_setCell_same' _ _ _ (by rw [k0]; rfl)
  · exact World.cell?_setCell_same' _ _ _ (by rw [World.cell?_setCell_other _ _ _ _ (by simp), k1]; rfl)
end Go.Proofs.YtfpjbefhfkembaaDoor.Lc

/- errors.Is at a fault, and what callers are told. -/
namespace Go.Proofs.YtfpjbefhfkembaaDoor.Lc
open Go.RowKit Go.Extern.Stop Go.Stop Go.Extern

theorem isTypeOf (v : Value) (w : World) : (Extern.ReflectliteType.typeOf #[.iface 161 v]).run Tryd.prog w = .ok (.iface 131 (.agg #[.pointer (some ⟨8, 161, none⟩)])) w := by kernel_rfl
noncomputable def cmpE : Array Value → Sem Value := (Extern.find Tryd.f110).getD fun _ => pure .nilIface
theorem isComparable (w : World) : (cmpE #[.agg #[.pointer (some ⟨8, 161, none⟩)]]).run Tryd.prog w = .ok (.bool true) w := by kernel_rfl
theorem isMethodComparable (v : Value) (w : World) : (Go.method 294 131 v "Comparable").run Tryd.prog w = .ok (110, v) w := by kernel_rfl
theorem isComp : (Tryd.prog.info? 161).map (·.comparable) = some true := by kernel_rfl
theorem isSize : (Tryd.prog.info? 182).map (·.size) = some 1 := by kernel_rfl
theorem noIsF (v : Value) (xT : TypeId) (w : World) : (Instr.typeAssert (.iface 84 v) xT 142 true).run Tryd.prog w = .ok (.tuple #[.nilIface, .bool false]) w := run_typeAssert_lacksB Tryd.underlying142 (by kernel_rfl) (by kernel_rfl) v xT w
theorem hasUnF (v : Value) (xT : TypeId) (w : World) : (Instr.typeAssert (.iface 84 v) xT 138 true).run Tryd.prog w = .ok (.tuple #[.iface 84 v, .bool true]) w := run_typeAssert_hasB Tryd.underlying138 (by kernel_rfl) v xT w
theorem noIsE (v : Value) (xT : TypeId) (w : World) : (Instr.typeAssert (.iface 161 v) xT 142 true).run Tryd.prog w = .ok (.tuple #[.nilIface, .bool false]) w := run_typeAssert_lacksB Tryd.underlying142 (by kernel_rfl) (by kernel_rfl) v xT w
theorem noUnE (v : Value) (xT : TypeId) (w : World) : (Instr.typeAssert (.iface 161 v) xT 138 true).run Tryd.prog w = .ok (.tuple #[.nilIface, .bool false]) w := run_typeAssert_lacksB Tryd.underlying138 (by kernel_rfl) (by kernel_rfl) v xT w
theorem noUnsE (v : Value) (xT : TypeId) (w : World) : (Instr.typeAssert (.iface 161 v) xT 139 true).run Tryd.prog w = .ok (.tuple #[.nilIface, .bool false]) w := run_typeAssert_lacksB Tryd.underlying139 (by kernel_rfl) (by kernel_rfl) v xT w
theorem eqFE (v u : Value) (w : World) : (binOp .eql 46 (.iface 84 v) (.iface 161 u)).run Tryd.prog w = .ok (.bool false) w := by kernel_rfl
theorem isMU (v : Value) (w : World) : (Go.method 294 84 v "Unwrap").run Tryd.prog w = .ok (102, v) w := by kernel_rfl

set_option maxHeartbeats 400000 in
theorem unwrap_any (k : Int) (t : TypeId) (v : Value) (w : World) :
    Calls Tryd.prog 102 #[.agg #[.int .i64 k, .iface t v]] w fun e w' => e = .returned (.iface t v) ∧ Below w.heap.size w w' := by
  go_enter Tryd.func102, Tryd.ntmps102
  go_wp2
  go_ret
  exact ⟨rfl, Below.new _ _⟩

set_option maxRecDepth 100000 in
set_option maxHeartbeats 2000000 in
theorem is_hit (k : Int) (a : Addr) (w : World) :
    Calls Tryd.prog 43 #[.iface 84 (.agg #[.int .i64 k, .iface 161 (.pointer (some a))]), .iface 161 (.pointer (some a))] w fun e w' => e = .returned (.bool true) ∧ Below w.heap.size w w' := by
  obtain ⟨i, hi, hcmp⟩ := Option.map_eq_some_iff.1 isComp
  obtain ⟨j, hj, hjs⟩ := Option.map_eq_some_iff.1 isSize
  have h8 := @run_callFunc_extern Tryd.prog 61 _ Extern.ReflectliteType.typeOf Tryd.func61 (by kernel_rfl) (by kernel_rfl) (by kernel_rfl) (by kernel_rfl)
  have h32 := @run_callFunc_extern Tryd.prog 110 _ cmpE Tryd.func110 (by kernel_rfl) (by kernel_rfl) (by kernel_rfl) (by kernel_rfl)
  have tT := isTypeOf
  have cT := isComparable
  have mR := isMethodComparable
  have mU := isMU
  have t1 := noIsF
  have t2 := hasUnF
  have e1 := eqFE
  have heq := fun w => run_eql_iface_ptr_same (P := Tryd.prog) w a Tryd.underlying46 Tryd.underlying161 hi hcmp hj
  go_enter Tryd.func43, Tryd.ntmps43
  go_wp2
  refine wp_loop_rounds 2 ?_
  rw [rounds_succ]
  go_wp2_with (go_at_call 102; refine (unwrap_any _ _ _ _).mono ?_)
  rintro e w1 ⟨rfl, b1⟩
  go_wp2
  rw [rounds_succ]
  go_wp2
  go_ret
  exact ⟨rfl, b1⟩

set_option maxRecDepth 100000 in
set_option maxHeartbeats 2000000 in
theorem is_miss (k : Int) (a b : Addr) (w : World) (hne : a ≠ b) (ha : Blk0 w a) (hb : Blk0 w b) :
    Calls Tryd.prog 43 #[.iface 84 (.agg #[.int .i64 k, .iface 161 (.pointer (some a))]), .iface 161 (.pointer (some b))] w fun e w' => e = .returned (.bool false) ∧ Below w.heap.size w w' := by
  obtain ⟨i, hi, hcmp⟩ := Option.map_eq_some_iff.1 isComp
  obtain ⟨j, hj, hjs⟩ := Option.map_eq_some_iff.1 isSize
  have h8 := @run_callFunc_extern Tryd.prog 61 _ Extern.ReflectliteType.typeOf Tryd.func61 (by kernel_rfl) (by kernel_rfl) (by kernel_rfl) (by kernel_rfl)
  have h32 := @run_callFunc_extern Tryd.prog 110 _ cmpE Tryd.func110 (by kernel_rfl) (by kernel_rfl) (by kernel_rfl) (by kernel_rfl)
  have tT := isTypeOf
  have cT := isComparable
  have mR := isMethodComparable
  have mU := isMU
  have t1 := noIsF
  have t2 := hasUnF
  have t3 := noIsE
  have t4 := noUnE
  have t5 := noUnsE
  have e1 := eqFE
  have la := ha.lt
  have lb := hb.lt
  obtain ⟨ca, ta, ha⟩ := ha
  obtain ⟨cb, tb, hb⟩ := hb
  go_enter Tryd.func43, Tryd.ntmps43
  go_wp2
  refine wp_loop_rounds 2 ?_
  rw [rounds_succ]
  go_wp2_with (go_at_call 102; refine (unwrap_any _ _ _ _).mono ?_)
  rintro e w1 ⟨rfl, b1⟩
  have heq := run_eql_iface_ptr_other (P := Tryd.prog) w1 Tryd.underlying46 Tryd.underlying161 hi hcmp hj (by rw [hjs]; decide) hne ((b1.block _ la).trans ha) ((b1.block _ lb).trans hb)
  go_wp2
  rw [rounds_succ]
  go_wp2
  go_ret
  exact ⟨rfl, b1⟩

end Go.Proofs.YtfpjbefhfkembaaDoor.Lc

/- What callers of labcode are told. -/
namespace Go.Proofs.YtfpjbefhfkembaaDoor.Lc
open Go.RowKit

theorem as_nil_any (t : Value) (w : World) : Calls Tryd.prog 42 #[.nilIface, t] w fun e w' => e = .returned (.bool false) ∧ Below w.heap.size w w' :=
  (as_nil t w).mono fun _ _ ⟨h, hw⟩ => ⟨h, hw ▸ Below.refl _ _⟩

set_option maxHeartbeats 1000000 in
theorem told_nil (w : World) : Calls Tryd.prog 27 #[.nilIface] w fun e w' => e = .returned (.int .i64 0) ∧ Below w.heap.size w w' := by
  go_enter Tryd.func27, Tryd.ntmps27
  go_wp2_with (go_at_call 42; refine (as_nil_any _ _).mono ?_)
  rintro e w1 ⟨rfl, b1⟩
  go_wp2
  go_ret
  exact ⟨rfl, below_more (Below.new _ _) b1⟩

theorem new2 (w : World) (v0 v1 : Value) (t : TypeId) : (w.alloc (.cells #[v0, v1] t)).cell? ⟨w.heap.size, 0, none⟩ = some v0 ∧ (w.alloc (.cells #[v0, v1] t)).cell? ⟨w.heap.size, 1, none⟩ = some v1 ∧
    (w.alloc (.cells #[v0, v1] t)).frozen? ⟨w.heap.size, 0, none⟩ = false ∧ (w.alloc (.cells #[v0, v1] t)).frozen? ⟨w.heap.size, 1, none⟩ = false := by
  refine ⟨?_, ?_, ?_, ?_⟩
  · rw [World.cell?_alloc_at _ _ _ _ rfl]; rfl
  · rw [World.cell?_alloc_at _ _ _ _ rfl]; rfl
  · simp
  · simp

set_option maxHeartbeats 1000000 in
theorem told_n (s : Sn) (t : SnL) (k : Int) (w : World) (hs : SentL s t w) : Calls Tryd.prog 27 #[faultL k t.n] w fun e w' => e = .returned (.int .i64 20) ∧ Below w.heap.size w w' := by
  unfold faultL
  obtain ⟨n0, n1, n2, n3⟩ := new2 w (.int .i64 0) .nilIface 84
  have s1 := Lib.hid (hs.alloc (.cells #[.int .i64 0, .nilIface] 84))
  go_enter Tryd.func27, Tryd.ntmps27
  go_wp2_with (go_at_call 42; refine (as_hit k 161 (.pointer (some t.n)) w.heap.size _ _ _ s1.out.fld.ct n0 n1 n2 n3).mono ?_)
  rintro e w1 ⟨rfl, c0, c1, b1⟩
  have b2 : Below w.heap.size w w1 := (Below.new w _).trans b1
  have s2 := hs.more b2
  have l1 : w.heap.size < w1.heap.size := World.block_lt_of_cell? w1 _ c0
  have g1 := s2.cn
  have S2 := Lib.hid s2
  clear n0 n1 n2 n3 s1 s2
  go_wp2_with (go_at_call 43; refine (is_hit k t.n w1).mono ?_)
  rintro e w2 ⟨rfl, b3⟩
  go_wp2
  go_ret
  exact ⟨rfl, below_more b2 b3⟩

set_option maxHeartbeats 1000000 in
theorem told_f (s : Sn) (t : SnL) (k : Int) (w : World) (hs : SentL s t w) : Calls Tryd.prog 27 #[faultL k t.f] w fun e w' => e = .returned (.int .i64 30) ∧ Below w.heap.size w w' := by
  unfold faultL
  obtain ⟨n0, n1, n2, n3⟩ := new2 w (.int .i64 0) .nilIface 84
  have s1 := Lib.hid (hs.alloc (.cells #[.int .i64 0, .nilIface] 84))
  go_enter Tryd.func27, Tryd.ntmps27
  go_wp2_with (go_at_call 42; refine (as_hit k 161 (.pointer (some t.f)) w.heap.size _ _ _ s1.out.fld.ct n0 n1 n2 n3).mono ?_)
  rintro e w1 ⟨rfl, c0, c1, b1⟩
  have b2 : Below w.heap.size w w1 := (Below.new w _).trans b1
  have s2 := hs.more b2
  have l1 : w.heap.size < w1.heap.size := World.block_lt_of_cell? w1 _ c0
  have g1 := s2.cn
  have S2 := Lib.hid s2
  clear n0 n1 n2 n3 s1 s2
  go_wp2_with (go_at_call 43; refine (is_miss k t.f t.n w1 (Ne.symm S2.out.nf) S2.out.bf S2.out.bn).mono ?_)
  rintro e w2 ⟨rfl, b3⟩
  have d0 := (b3.cell (p := ⟨w.heap.size, 0, none⟩) l1).trans c0
  have d1 := (b3.cell (p := ⟨w.heap.size, 1, none⟩) l1).trans c1
  have S3 := Lib.hid (S2.out.more b3)
  have g2 := S3.out.cf
  clear c0 c1 g1
  go_wp2_with (go_at_call 43; refine (is_hit k t.f w2).mono ?_)
  rintro e w3 ⟨rfl, b4⟩
  go_wp2
  go_ret
  exact ⟨rfl, below_more (below_more b2 b3) b4⟩

set_option maxHeartbeats 1000000 in
theorem told_x (s : Sn) (t : SnL) (k : Int) (x : Addr) (w : World) (hs : SentL s t w) (hx : Blk0 w x) (hn : x ≠ t.n) (hf : x ≠ t.f) : Calls Tryd.prog 27 #[faultL k x] w fun e w' => e = .returned (.int .i64 40) ∧ Below w.heap.size w w' := by
  unfold faultL
  obtain ⟨n0, n1, n2, n3⟩ := new2 w (.int .i64 0) .nilIface 84
  have s1 := Lib.hid (hs.alloc (.cells #[.int .i64 0, .nilIface] 84))
  go_enter Tryd.func27, Tryd.ntmps27
  go_wp2_with (go_at_call 42; refine (as_hit k 161 (.pointer (some x)) w.heap.size _ _ _ s1.out.fld.ct n0 n1 n2 n3).mono ?_)
  rintro e w1 ⟨rfl, c0, c1, b1⟩
  have b2 : Below w.heap.size w w1 := (Below.new w _).trans b1
  have s2 := hs.more b2
  have l1 : w.heap.size < w1.heap.size := World.block_lt_of_cell? w1 _ c0
  have g1 := s2.cn
  have S2 := Lib.hid s2
  clear n0 n1 n2 n3 s1 s2
  have x1 := blk0_below hx (Nat.le_refl _) b2
  go_wp2_with (go_at_call 43; refine (is_miss k x t.n w1 hn x1 S2.out.bn).mono ?_)
  rintro e w2 ⟨rfl, b3⟩
  have d0 := (b3.cell (p := ⟨w.heap.size, 0, none⟩) l1).trans c0
  have d1 := (b3.cell (p := ⟨w.heap.size, 1, none⟩) l1).trans c1
  have S3 := Lib.hid (S2.out.more b3)
  have g2 := S3.out.cf
  clear c0 c1 g1
  have x2 := blk0_below x1 (Nat.le_refl _) b3
  go_wp2_with (go_at_call 43; refine (is_miss k x t.f w2 hf x2 S3.out.bf).mono ?_)
  rintro e w3 ⟨rfl, b4⟩
  go_wp2
  go_ret
  exact ⟨rfl, below_more (below_more b2 b3) b4⟩

theorem toldL_any (s : Sn) (t : SnL) {v : Value} {c : Int} (h : ErrL t v c) (w : World) (hs : SentL s t w) : Calls Tryd.prog 27 #[v] w fun e w' => e = .returned (.int .i64 c) ∧ Below w.heap.size w w' := by
  cases h with
  | ok => exact told_nil w
  | none k => exact told_n s t k w hs
  | few k => exact told_f s t k w hs
  | bytes k => exact told_x s t k t.b w hs hs.bb (Ne.symm hs.nb) (Ne.symm hs.fb)
  | order k hq => exact told_x s t k t.o w hs (hs.bo hq) (Ne.symm (hs.no hq)) (Ne.symm (hs.fo hq))

end Go.Proofs.YtfpjbefhfkembaaDoor.Lc

/- The widths of a label's numbers; a label's bytes. -/
namespace Go.Proofs.YtfpjbefhfkembaaDoor
open Go.RowKit Go.Shelf Go.Proofs.Fld Go.Proofs.Cats Go.Proofs.Lcd

set_option maxHeartbeats 400000 in
theorem widths_at (w : World) : Calls Tryd.prog 46 #[] w fun e w' => e = .returned (.slice (some ⟨w.heap.size, 0, none⟩) 3 3) ∧ w.alloc (.cells #[.int .i64 1, .int .i64 1, .int .i64 8] 3) = w' := by
  go_enter Tryd.func46, Tryd.ntmps46
  go_wp2
  go_ret
  exact ⟨rfl, rfl⟩

theorem slI3 {q : IntKind} {B : Nat} {W : World} {g : Nat} {x y z : Int} (hg : g < B) (h0 : W.cell? ⟨g, 0, none⟩ = some (.int q x)) (h1 : W.cell? ⟨g, 1, none⟩ = some (.int q y)) (h2 : W.cell? ⟨g, 2, none⟩ = some (.int q z)) : SlI q B W (some ⟨g, 0, none⟩) [x, y, z] := by
  intro j hj
  refine ⟨g, 0, rfl, hg, ?_⟩
  match j, hj with
  | 0, _ => exact h0
  | 1, _ => exact h1
  | 2, _ => exact h2
theorem slI3_inv {q : IntKind} {B : Nat} {W : World} {a : Option Addr} {x y z : Int} (h : SlI q B W a [x, y, z]) : ∃ g o, a = some ⟨g, o, none⟩ ∧ g < B ∧ W.cell? ⟨g, o, none⟩ = some (.int q x) ∧ W.cell? ⟨g, o + 1, none⟩ = some (.int q y) ∧ W.cell? ⟨g, o + 2, none⟩ = some (.int q z) := by
  obtain ⟨g, o, e, hg, h0⟩ := h 0 (by simp)
  obtain ⟨g1, o1, e1, _, h1⟩ := h 1 (by simp)
  obtain ⟨g2, o2, e2, _, h2⟩ := h 2 (by simp)
  subst e
  simp only [Option.some.injEq, Addr.mk.injEq, and_true] at e1 e2
  obtain ⟨rfl, rfl⟩ := e1
  obtain ⟨rfl, rfl⟩ := e2
  exact ⟨g, o, rfl, hg, h0, h1, h2⟩

theorem isW1 : isW 1 := .inl rfl
theorem isW8 : isW 8 := .inr (.inr (.inr rfl))
theorem packRes_lab {l i c : Nat} (hl : l < 256) (hi : i < 256) (hc : c < 18446744073709551616) : packRes [1, 1, 8] [l, i, c] = (enc 1 l ++ (enc 1 i ++ enc 8 c), 0) := by
  have p1 : putC 1 l = 0 := by unfold putC; rw [if_pos isW1, if_pos (by simpa using hl)]
  have p2 : putC 1 i = 0 := by unfold putC; rw [if_pos isW1, if_pos (by simpa using hi)]
  have p3 : putC 8 c = 0 := by unfold putC; rw [if_pos isW8, if_pos (by simpa using hc)]
  simp [packRes, packC, packB, p1, p2, p3]
theorem wfs118 : ∀ k ∈ ([1, 1, 8] : List Int), (Lit.int .i64 k).wf = true := by decide

theorem packLab (s : Sn) (l i c : Nat) (hl : l < 256) (hi : i < 256) (hc : c < 18446744073709551616) (ga gb : Nat) (w : World) (hs : Sent s w)
    (hga : ga < w.heap.size) (a0 : w.cell? ⟨ga, 0, none⟩ = some (.int .i64 1)) (a1 : w.cell? ⟨ga, 1, none⟩ = some (.int .i64 1)) (a2 : w.cell? ⟨ga, 2, none⟩ = some (.int .i64 8))
    (hgb : gb < w.heap.size) (b0 : w.cell? ⟨gb, 0, none⟩ = some (.int .u64 l)) (b1 : w.cell? ⟨gb, 1, none⟩ = some (.int .u64 i)) (b2 : w.cell? ⟨gb, 2, none⟩ = some (.int .u64 c)) :
    Calls Tryd.prog 70 #[.slice (some ⟨ga, 0, none⟩) 3 3, .slice (some ⟨gb, 0, none⟩) 3 3] w fun e w' => e = .returned (.tuple #[.string (bs (enc 1 l ++ (enc 1 i ++ enc 8 c))), .int .i64 0]) ∧ Below w.heap.size w w' := by
  have h := packE_any s [1, 1, 8] [l, i, c] (by simp) wfs118 (by
    intro x hx
    simp at hx
    omega) (some ⟨ga, 0, none⟩) (some ⟨gb, 0, none⟩) 3 3 w hs (slI3 hga a0 a1 a2) (slI3 hgb b0 b1 b2)
  rw [packRes_lab hl hi hc] at h
  exact h

/-- What code tells of a label's worth. -/
def errC (t : SnL) (k : Int) (a : Lab) : Value := if a.right = true then .nilIface else faultL k t.n
theorem errC_ok {t : SnL} {k : Int} {a : Lab} (h : a.right = true) : errC t k a = .nilIface := by unfold errC; rw [if_pos h]
theorem errC_no {t : SnL} {k : Int} {a : Lab} (h : a.right = false) : errC t k a = faultL k t.n := by unfold errC; rw [if_neg (by rw [h]; decide)]

theorem wrapU (l : Nat) (h : l < 256) : IntKind.u64.wrap (l : Int) = (l : Int) := by rw [IntKind.wrap_u64]; omega

theorem pack1 (s : Sn) (l i c : Nat) (HB : Hid (l < 256 ∧ i < 256 ∧ c < 18446744073709551616)) (w1 : World) (hs : Hid (Sent s w1)) :
    Calls Tryd.prog 70 #[.slice (some ⟨w1.heap.size, 0, none⟩) 3 3, .slice (some ⟨w1.heap.size + 1, 0, none⟩) 3 3] ((w1.alloc (.cells #[.int .i64 1, .int .i64 1, .int .i64 8] 3)).alloc (.cells #[.int .u64 (l : Int), .int .u64 (i : Int), .int .u64 (c : Int)] 22)).drew fun e w' => e = .returned (.tuple #[.string (bs (enc 1 l ++ (enc 1 i ++ enc 8 c))), .int .i64 0]) ∧ Below w1.heap.size w1 w' := by
  have hB : Below w1.heap.size w1 ((w1.alloc (.cells #[.int .i64 1, .int .i64 1, .int .i64 8] 3)).alloc (.cells #[.int .u64 (l : Int), .int .u64 (i : Int), .int .u64 (c : Int)] 22)).drew := ((Below.new w1 _).alloc (by simp) _).drew
  refine (packLab s l i c HB.out.1 HB.out.2.1 HB.out.2.2 (w1.heap.size) (w1.heap.size + 1) _ (hs.out.more hB) ?_ ?_ ?_ ?_ ?_ ?_ ?_ ?_).mono fun e w' ⟨he, hb⟩ => ⟨he, below_more hB hb⟩
  all_goals first | (go_simp; done) | (simp; done) | (simp; omega)
theorem pack2 (s : Sn) (l i c : Nat) (HB : Hid (l < 256 ∧ i < 256 ∧ c < 18446744073709551616)) (w1 : World) (hs : Hid (Sent s w1)) :
    Calls Tryd.prog 70 #[.slice (some ⟨w1.heap.size + 1, 0, none⟩) 3 3, .slice (some ⟨w1.heap.size, 0, none⟩) 3 3] ((w1.alloc (.cells #[.int .u64 (l : Int), .int .u64 (i : Int), .int .u64 (c : Int)] 22)).alloc (.cells #[.int .i64 1, .int .i64 1, .int .i64 8] 3)).drew fun e w' => e = .returned (.tuple #[.string (bs (enc 1 l ++ (enc 1 i ++ enc 8 c))), .int .i64 0]) ∧ Below w1.heap.size w1 w' := by
  have hB : Below w1.heap.size w1 ((w1.alloc (.cells #[.int .u64 (l : Int), .int .u64 (i : Int), .int .u64 (c : Int)] 22)).alloc (.cells #[.int .i64 1, .int .i64 1, .int .i64 8] 3)).drew := ((Below.new w1 _).alloc (by simp) _).drew
  refine (packLab s l i c HB.out.1 HB.out.2.1 HB.out.2.2 (w1.heap.size + 1) (w1.heap.size) _ (hs.out.more hB) ?_ ?_ ?_ ?_ ?_ ?_ ?_ ?_).mono fun e w' ⟨he, hb⟩ => ⟨he, below_more hB hb⟩
  all_goals first | (go_simp; done) | (simp; done) | (simp; omega)

set_option maxRecDepth 100000 in
set_option maxHeartbeats 1000000 in
theorem code_ok (s : Sn) (t : SnL) (k : Int) (l i c : Nat) (hl : l < 256) (hi : i < 256) (hc : c < 18446744073709551616) (hr : Hid (Lab.right ⟨l, c, i⟩ = true)) (w : World) (hs : SentL s t w) :
    Calls Tryd.prog 55 #[.int .i64 k, .agg #[.int .i64 (l : Int), .int .u64 (c : Int), .int .i64 (i : Int)]] w fun e w' => e = .returned (.tuple #[.string (bs (enc 1 l ++ (enc 1 i ++ enc 8 c))), .nilIface]) ∧ Below w.heap.size w w' := by
  have HS := Lib.hid hs
  have HB := Lib.hid (And.intro hl (And.intro hi hc))
  have u1 := wrapU l hl
  have u2 := wrapU i hi
  clear hs hl hi hc
  go_enter Tryd.func55, Tryd.ntmps55
  go_wp2_with fail
  refine (Lb.right_any ⟨l, c, i⟩ HB.out.2.2 _).mono ?_
  rintro e w1 ⟨he, hb⟩
  rw [hr.out] at he
  subst he
  have c0 : w1.cell? ⟨w.heap.size, 0, none⟩ = some (.int .i64 (l : Int)) := cell_later hb (by simp)
  have c1 : w1.cell? ⟨w.heap.size, 1, none⟩ = some (.int .u64 (c : Int)) := cell_later hb (by simp)
  have c2 : w1.cell? ⟨w.heap.size, 2, none⟩ = some (.int .i64 (i : Int)) := cell_later hb (by simp)
  have hB1 := below_more (Below.new w _) hb
  have S1 := Lib.hid (HS.out.fld.more hB1)
  clear hb
  have q0 : ∀ o, (w1.alloc o).cell? ⟨w.heap.size, 0, none⟩ = some (.int .i64 (l : Int)) := fun o => cell_later (Below.new w1 o) c0
  have q1 : ∀ o, (w1.alloc o).cell? ⟨w.heap.size, 1, none⟩ = some (.int .u64 (c : Int)) := fun o => cell_later (Below.new w1 o) c1
  have q2 : ∀ o, (w1.alloc o).cell? ⟨w.heap.size, 2, none⟩ = some (.int .i64 (i : Int)) := fun o => cell_later (Below.new w1 o) c2
  have p0 : ∀ o o', ((w1.alloc o).alloc o').cell? ⟨w.heap.size, 0, none⟩ = some (.int .i64 (l : Int)) := fun o o' => cell_later (Below.new _ o') (q0 o)
  have p1 : ∀ o o', ((w1.alloc o).alloc o').cell? ⟨w.heap.size, 1, none⟩ = some (.int .u64 (c : Int)) := fun o o' => cell_later (Below.new _ o') (q1 o)
  have p2 : ∀ o o', ((w1.alloc o).alloc o').cell? ⟨w.heap.size, 2, none⟩ = some (.int .i64 (i : Int)) := fun o o' => cell_later (Below.new _ o') (q2 o)
  go_wp2
  go_region_held3 (fun w' => w'.cell? ⟨w.heap.size, 0, none⟩ = some (.int .i64 (l : Int)) ∧ w'.cell? ⟨w.heap.size, 1, none⟩ = some (.int .u64 (c : Int)) ∧ w'.cell? ⟨w.heap.size, 2, none⟩ = some (.int .i64 (i : Int)))
    (first | (with_reducible exact ⟨cell_later hb c0, cell_later hb c1, cell_later hb c2⟩) | (simp only [World.cell?_drew, c0, c1, c2, q0, q1, q2, p0, p1, p2, and_self]; done))
    (first
    | (go_at_call 46; ((with_reducible refine (widths_at _).mono ?_); rintro e w' ⟨rfl, rfl⟩))
    | (go_at_call 70; ((with_reducible refine (pack1 s l i c HB w1 S1).mono ?_); rintro e w' ⟨rfl, hb⟩))
    | (go_at_call 70; ((with_reducible refine (pack2 s l i c HB w1 S1).mono ?_); rintro e w' ⟨rfl, hb⟩)))
  all_goals go_wp2
  all_goals go_ret2
  all_goals exact ⟨rfl, below_more hB1 hb⟩

set_option maxRecDepth 100000 in
set_option maxHeartbeats 1000000 in
theorem code_no (s : Sn) (t : SnL) (k : Int) (a : Lab) (ha : a.fits) (hr : Hid (a.right = false)) (w : World) (hs : SentL s t w) :
    Calls Tryd.prog 55 #[.int .i64 k, .agg #[.int .i64 a.l, .int .u64 a.c, .int .i64 a.i]] w fun e w' => e = .returned (.tuple #[.string (bs []), faultL k t.n]) ∧ Below w.heap.size w w' := by
  have HS := Lib.hid hs
  clear hs
  go_enter Tryd.func55, Tryd.ntmps55
  go_wp2_with fail
  refine (Lb.right_any a ha _).mono ?_
  rintro e w1 ⟨he, hb⟩
  rw [hr.out] at he
  subst he
  have hB1 := below_more (Below.new w _) hb
  have g := (HS.out.more hB1).cn
  clear hb
  go_wp2
  go_region
  all_goals go_wp2
  all_goals go_ret2
  all_goals exact ⟨rfl, below_drew hB1⟩

theorem code_any (s : Sn) (t : SnL) (k : Int) (a : Lab) (ha : a.fits) (w : World) (hs : SentL s t w) :
    Calls Tryd.prog 55 #[.int .i64 k, .agg #[.int .i64 a.l, .int .u64 a.c, .int .i64 a.i]] w fun e w' => e = .returned (.tuple #[.string (bs (putR a).1), errC t k a]) ∧ Below w.heap.size w w' := by
  cases h : a.right
  · rw [putR_no h, errC_no h]
    exact code_no s t k a ha (Lib.hid h) w hs
  · rw [putR_ok h, errC_ok h]
    obtain ⟨l, c, i⟩ := a
    obtain ⟨l', i', h1, h2, h3, h4⟩ := right_nat h
    simp only at h1 h2
    subst h1 h2
    have := code_ok s t k l' i' c h3 h4 ha (Lib.hid h) w hs
    simpa only [labB, Int.toNat_natCast] using this

end Go.Proofs.YtfpjbefhfkembaaDoor

/- The iterator over labels' bytes. -/
namespace Go.Proofs.YtfpjbefhfkembaaDoor
open Go.RowKit Go.Shelf Go.Proofs.Fld Go.Proofs.Cats Go.Proofs.Lcd

attribute [local go_sem] Oper.semAt_some

/-- What a round is handed: how many are ahead, and a label. -/
def NLab : Type := Nat × { x : Lab // x.fits }
def NLab.lab (x : NLab) : Lab := x.2.1
def NLab.of (k : Nat) (x : Lab) (h : x.fits) : NLab := (k, ⟨x, h⟩)
/-- What a round tells: whether to go on. -/
def ToldN (J Jx : List NLab → World → Prop) (pre : List NLab) (x : NLab) (n₀ : Nat) (W W' : World) (b : Bool) : Prop :=
  (b = true → J (pre ++ [x]) W' ∧ Below n₀ W W') ∧ (b = false → Jx (pre ++ [x]) W')

set_option maxRecDepth 100000 in
set_option maxHeartbeats 2000000 in
theorem coded1_in (n : Nat) (hn : 1 ≤ n) (s : Sn) (t : SnL) (w0 : World) (hs : SentL s t w0) (l Bs b off len cap : Nat) (zs : List Lab) (hlen : zs.length = len) (hreach : len * 24 ≤ 140737488351232) (hb : b < w0.heap.size) (J Jx : List NLab → World → Prop)
    (W : World) (hW0 : Below w0.heap.size w0 W) (hJ : AbidesFrom W.heap.size J)
    (hY : ∀ pre x W, J pre W → pre.length < len → YieldAt Fence.wide (n - 1) Tryd.prog l #[.string (bs (putR x.2.1).1), errC t (x.1 : Int) x.2.1] W fun e W' =>
      ∃ g, e = .returned (.bool g) ∧ ToldN J Jx pre x w0.heap.size W W' g)
    (hBs : W.cell? ⟨Bs, 0, none⟩ = some (.slice (some ⟨b, off, none⟩) len cap)) (hc : ∀ j x, zs[j]? = some x → x.fits ∧ Lb.LabAt W b (off + j * 3) x)
    (h0 : J [] W) :
    CallsIn Fence.wide n Tryd.prog 54 #[.func (.yield l) #[] #[], .pointer (some ⟨Bs, 0, none⟩)] W fun e W' => (∃ v, e = .returned v) ∧
      ((∃ ys : List NLab, ys.map NLab.lab = zs ∧ J ys W') ∨ (∃ pre : List NLab, (∃ k, k ≤ len ∧ pre.map NLab.lab = zs.take k) ∧ Jx pre W')) := by
  refine callsIn_of_wp Tryd.func54 rfl trivial ?_ rfl
  simp only [Tryd.ntmps54, List.size_toArray, List.length_cons, List.length_nil, Nat.reduceAdd, Nat.reduceSub, Array.replicate_succ, Array.replicate_zero, List.push_toArray, List.append_toArray, List.nil_append, List.cons_append]
  gi_wp2
  have HL := Lib.hid hlen
  have HS := Lib.hid hs
  have HC := Lib.hid hc
  clear hc hs hlen
  have hz0 := hW0.size
  gi_loopw [9] (fun i wr => ∃ (k : Nat) (pre : List NLab), k ≤ len ∧ i = .int .i64 k ∧ pre.map NLab.lab = zs.take k ∧ J pre wr ∧ Below w0.heap.size W wr)
    (fun i _ => len - (intOf i).toNat)
  case atStart => exact ⟨0, [], Nat.zero_le _, rfl, rfl, h0, Below.refl _ _⟩
  case round =>
    obtain ⟨k, pre, hk, rfl, hpre, hJs, hnx⟩ := hrel
    have hsz := hnx.size
    have HP := Lib.hid hpre
    clear hpre
    by_cases hlt : k < len
    · obtain ⟨x, hx⟩ : ∃ x, zs[k]? = some x := ⟨_, List.getElem?_eq_getElem (by rw [HL.out]; exact hlt)⟩
      obtain ⟨hfit, hat⟩ := HC.out k x hx
      obtain ⟨q0, q1, q2⟩ := hat.below hnx hb
      have HT := Lib.hid (Lb.take_next zs k x hx)
      clear hx hat
      have HJ := Lib.hid hJs
      have HJ0 := Lib.hid hJ
      have HY := Lib.hid hY
      clear hJs
      clear hJ hY
      have hkl : pre.length < len := by
        have := congrArg List.length HP.out
        rw [List.length_map, List.length_take, HL.out] at this
        omega
      have S1 := Lib.hid (HS.out.below (Nat.le_refl _) ((hW0.trans hnx).alloc (by omega) (.cells #[.int .i64 x.l, .int .u64 x.c, .int .i64 x.i] 24)))
      gi_wp2_with (refine ⟨trivial, ?_⟩; gi_at_call 55; refine (callsIn_wide.2 (code_any s t (k : Int) x hfit _ S1.out)).mono ?_)
      rintro e w' ⟨rfl, hbw⟩
      have hbr := below_more (Below.new wr (.cells #[.int .i64 x.l, .int .u64 x.c, .int .i64 x.i] 24)) hbw
      obtain ⟨fn, tmps, assign, body, hy, hR⟩ := HY.out pre (NLab.of k x hfit) w' (HJ0.out _ _ _ none HJ.out (Lb.below_grown hbr) (fun r e => by cases e)) hkl
      clear q0 q1 q2
      simp only [NLab.of] at hy
      gi_wp2
      refine hR.mono ?_
      rintro e W3 ⟨g, rfl, htold⟩
      have hm : (pre ++ [NLab.of k x hfit]).map NLab.lab = zs.take (k + 1) := by
        rw [List.map_append, HP.out, HT.out]; rfl
      have HM := Lib.hid hm
      clear hm
      cases g with
      | true =>
        obtain ⟨hJ3, hk3⟩ := htold.1 rfl
        have hw3 := (hnx.trans (hbr.mono (by omega))).trans hk3
        clear htold hbr hbw hR hy
        gi_wp2
        go_roundw
        case rel => exact ⟨k + 1, _, by omega, by simp, HM.out, hJ3, hw3⟩
        case measure => simp [intOf]; omega
      | false =>
        have hx3 := htold.2 rfl
        clear htold hbr hbw hR hy
        gi_wp2
        refine bodyPost_ret (results_none rfl _ _ _) rfl ?_
        exact ⟨⟨_, rfl⟩, .inr ⟨_, ⟨k + 1, by omega, HM.out⟩, hx3⟩⟩
    · obtain rfl : k = len := by omega
      gi_wp2
      go_end0
      exact ⟨⟨_, rfl⟩, .inl ⟨pre, by rw [HP.out, List.take_of_length_le (by rw [HL.out]; exact Nat.le_refl _)], hJs⟩⟩

set_option maxRecDepth 100000 in
set_option maxHeartbeats 1000000 in
theorem coded1_nil_in (n : Nat) (l Bs : Nat) (ao : Option Addr) (cap : Nat) (J : List NLab → World → Prop) (W : World) (hBs : W.cell? ⟨Bs, 0, none⟩ = some (.slice ao 0 cap)) (h0 : J [] W) :
    CallsIn Fence.wide n Tryd.prog 54 #[.func (.yield l) #[] #[], .pointer (some ⟨Bs, 0, none⟩)] W fun e W' => (∃ v, e = .returned v) ∧ J [] W' := by
  refine callsIn_of_wp Tryd.func54 rfl trivial ?_ rfl
  simp only [Tryd.ntmps54, List.size_toArray, List.length_cons, List.length_nil, Nat.reduceAdd, Nat.reduceSub, Array.replicate_succ, Array.replicate_zero, List.push_toArray, List.append_toArray, List.nil_append, List.cons_append]
  gi_wp2
  gi_loopw [9] (fun i wr => i = .int .i64 0 ∧ J [] wr) (fun _ _ => 0)
  case atStart => exact ⟨rfl, h0⟩
  case round =>
    obtain ⟨rfl, hJs⟩ := hrel
    gi_wp2
    go_end0
    exact ⟨⟨_, rfl⟩, hJs⟩

set_option maxHeartbeats 1000000 in
theorem coded_in (n : Nat) (a : Option Addr) (len cap : Nat) (w : World) :
    CallsIn Fence.wide n Tryd.prog 39 #[.slice a len cap] w fun e w' => e = .returned (.func (.func 54) #[] #[.pointer (some ⟨w.heap.size, 0, none⟩)]) ∧ w' = w.alloc (.cells #[.slice a len cap] 36) := by
  refine callsIn_of_wp Tryd.func39 rfl trivial ?_ rfl
  simp only [Tryd.ntmps39, List.size_toArray, List.length_cons, List.length_nil, Nat.reduceAdd, Nat.reduceSub, Array.replicate_succ, Array.replicate_zero, List.push_toArray, List.append_toArray, List.nil_append, List.cons_append]
  gi_wp2
  go_ret
  exact ⟨rfl, rfl⟩

theorem coded_stops (n : Nat) (hn : 1 ≤ n) (s : Sn) (t : SnL) (w0 : World) (hs : SentL s t w0) (Bs : Nat) (sv : Value) (zs : List Lab) (hreach : zs.length * 24 ≤ 140737488351232) (w : World) (hBs : Bs < w.heap.size) (hw0 : Below w0.heap.size w0 w)
    (hc : w.cell? ⟨Bs, 0, none⟩ = some sv) (hI : Lb.Labs w0.heap.size w sv zs) :
    SeqStopsK Fence.wide n Tryd.prog 54 #[.pointer (some ⟨Bs, 0, none⟩)] (fun x : NLab => #[Value.string (bs (putR x.2.1).1), errC t (x.1 : Int) x.2.1]) (Below w0.heap.size) (fun ys => ys.map NLab.lab = zs) (fun pre => pre.map NLab.lab <+: zs) zs.length w := fun l J Jx W hW hJ hJx hY h0 => by
  have hc' := (hW.cell (p := ⟨Bs, 0, none⟩) hBs).trans hc
  obtain ⟨ao, cap, rfl, hk⟩ := hI.below (hW.mono hw0.size)
  by_cases hz : zs = []
  · subst hz
    exact (coded1_nil_in n l Bs ao cap (fun pre W => pre = [] ∧ J [] W) W hc' ⟨rfl, h0⟩).mono fun e W' ⟨he, hj⟩ => ⟨he, .inl ⟨[], rfl, hj.2⟩⟩
  · obtain ⟨b, off, rfl, hb, hcs⟩ := hk hz
    refine (coded1_in n hn s t w0 hs l Bs b off zs.length cap zs rfl hreach hb J Jx W (hw0.trans (hW.mono hw0.size)) hJ ?_ hc' hcs h0).mono ?_
    · intro pre x W1 hp hlt
      refine (hY pre x W1 hp hlt).mono ?_
      rintro e W' (⟨rfl, h1, h2⟩ | ⟨rfl, h1⟩)
      · exact ⟨true, rfl, fun _ => ⟨h1, h2⟩, fun h => by cases h⟩
      · exact ⟨false, rfl, fun h => (by cases h), fun _ => h1⟩
    · rintro e W' ⟨he, ⟨ys, hys, hj⟩ | ⟨pre, ⟨k, hk, hp⟩, hj⟩⟩
      · exact ⟨he, .inl ⟨ys, hys, hj⟩⟩
      · exact ⟨he, .inr ⟨pre, by show pre.map NLab.lab <+: zs; rw [hp]; exact List.take_prefix _ _, hj⟩⟩

end Go.Proofs.YtfpjbefhfkembaaDoor

/- strings.Builder's WriteString at this program. -/
namespace Go.Proofs.YtfpjbefhfkembaaDoor
open Go.RowKit Go.Shelf

set_option maxHeartbeats 2000000 in
set_option maxRecDepth 100000 in
theorem writeString_k (B b : Nat) (bs : List Value) (s : ByteArray) (w : World) (h : Lib.IsBuilderF 76 5 B b bs w) (hlen : bs.length + s.size ≤ 140737488355328) (hBw : B ≤ w.heap.size) :
    Calls Tryd.prog 40 #[.pointer (some ⟨b, 0, none⟩), .string s] w fun e w' => e = .returned (.tuple #[.int .i64 s.size, .nilIface]) ∧ (Lib.IsBuilderF 76 5 B b (bs ++ Lib.strCells s) w' ∧ Below B w w' ∧ Lib.OthersKept 5 (some b) w w') := by
  obtain ⟨i0, hi, hz0, hz1, hz2⟩ := info_parts infoB
  go_enter Tryd.func40, Tryd.ntmps40
  go_wp2_with (go_at_call 56; refine (copyCheck_k B b bs _ h).mono ?_)
  rintro e w1 ⟨rfl, h1, hb1, hk1⟩
  obtain ⟨hB, v, hbk, hown, hne⟩ := h1
  have c0 : w1.cell? ⟨b, 0, none⟩ = some (.pointer (some ⟨b, 0, none⟩)) := by rw [Lib.cell_of_heap hbk]; rfl
  have c1 : w1.cell? ⟨b, 1, none⟩ = some v := by rw [Lib.cell_of_heap hbk]; rfl
  go_wp2_with (at_builtin; refine Lib.wpList_append_own_stringF _ rfl _ _ 74 9 rfl B 5 i0 Tryd.underlying74 Tryd.underlying9 hi hz0 hz1 hz2 _ _ _ rfl hown s rfl ?c3 ?c4 ?c5 ?_)
  case c3 => unfold maxLen; omega
  case c4 => omega
  case c5 => have := hb1.size; omega
  intro v' w2 hown' hgrow _
  have hlt : b < w1.heap.size := by
    rcases Nat.lt_or_ge b w1.heap.size with h' | h'
    · exact h'
    · simp [Array.getElem?_eq_none h'] at hbk
  have hb2 : w2.heap[b]? = some (.cells #[.pointer (some ⟨b, 0, none⟩), v] 76 (0, 0)) := by
    rw [hgrow.block b hlt (fun e => hne e.symm)]
    exact hbk
  have d0 : w2.cell? ⟨b, 0, none⟩ = some (.pointer (some ⟨b, 0, none⟩)) := by rw [Lib.cell_of_heap hb2]; rfl
  have d1 : w2.cell? ⟨b, 1, none⟩ = some v := by rw [Lib.cell_of_heap hb2]; rfl
  have f1 : w2.frozen? ⟨b, 1, none⟩ = false := Lib.frozen_of_heap hb2 1
  obtain ⟨ao, n', cap, rfl⟩ : ∃ ao n' cap, v' = .slice ao n' cap := by
    rcases hown'.2 with ⟨hv, _⟩ | ⟨g, cap, cur, fz, hv, _⟩
    · exact ⟨_, _, _, hv⟩
    · exact ⟨_, _, _, hv⟩
  go_wp2
  go_ret2
  refine ⟨rfl, Or.inr ?_, ?_, (hk1.grown hgrow (Lib.ownsRowF_kind hown)).setCell ⟨b, 1, none⟩ rfl _⟩
  · exact Lib.BuilderAtF.put (T := 76) (e := 5) hB hb2 (bs' := bs ++ Lib.strCells s) (by simpa [Lib.strCells_length] using hown') (by decide)
  · exact (hb1.grown hgrow (by have := hb1.size; omega) (fun k hk => (hown.lt k hk).1)).setCell (p := ⟨b, 1, none⟩) hB _

end Go.Proofs.YtfpjbefhfkembaaDoor

/- put: some labels' bytes. -/
namespace Go.Proofs.YtfpjbefhfkembaaDoor
open Go.RowKit Go.Shelf Go.Proofs.Fld Go.Proofs.Cats Go.Proofs.Lcd

attribute [local go_sem] Oper.semAt_some

def nlabs (pre : List NLab) : List Lab := pre.map NLab.lab
theorem nlabs_snoc (pre : List NLab) (x : NLab) : nlabs (pre ++ [x]) = nlabs pre ++ [x.2.1] := by simp [nlabs, NLab.lab]
theorem nlabs_length (pre : List NLab) : (nlabs pre).length = pre.length := by simp [nlabs]

theorem isB_ownG {β : Type} {T e : TypeId} {B b : Nat} (f : β → List Value) : Own (fun (pre : β) W => Lib.IsBuilderF T e B b (f pre) W) := fun pre W W' row hs hg hr =>
  isB_kept hs fun k c t fz hk => (hg.block k (Array.getElem?_eq_some_iff.1 hk).1 (fun e => by
    obtain ⟨o, ho, hc⟩ := hr k e.symm
    rw [hk] at ho
    cases ho
    cases hc)).trans hk

/-- put's word between two rounds. -/
def PutI (w : World) (pre : List NLab) (W : World) : Prop :=
  ((nlabs pre).all Lab.right = true ∧ (Lib.IsBuilderF 76 5 w.heap.size w.heap.size (Lib.byteCells (listB (nlabs pre))) W ∧ Boxed W (w.heap.size + 1) 46 .nilIface)) ∧ Below w.heap.size w W
/-- .. when a round has left. -/
def PutX (t : SnL) (w : World) (c : Code) (pre : List NLab) (W : World) : Prop :=
  ((c = .exit 0 ∧ (nlabs pre).all Lab.right = false) ∧ (∃ k : Int, Boxed W (w.heap.size + 1) 46 (faultL k t.n))) ∧ Below w.heap.size w W
/-- What put tells. -/
def PutPost (t : SnL) (zs : List Lab) (w : World) (e : Ending) (w' : World) : Prop :=
  ∃ ev, ErrL t ev (putListR zs).2 ∧ e = .returned (.tuple #[.string (bs (putListR zs).1), ev]) ∧ Below w.heap.size w w'

theorem putX_own (t : SnL) (w : World) (c : Code) {B : Nat} (hB : w.heap.size ≤ B) : OwnFrom B (PutX t w c) := fun pre W W' row hs hg hr => by
  obtain ⟨⟨h1, k, hk⟩, h3⟩ := hs
  exact ⟨⟨h1, k, (Own.from (boxed_own (β := Unit) _ _ (fun _ => faultL k t.n)) B) () W W' row hk hg hr⟩, ownFrom_below (β := Unit) (Nat.le_refl _) hB () W W' row h3 hg hr⟩

set_option maxRecDepth 100000 in
set_option maxHeartbeats 2000000 in
theorem put_in (n : Nat) (hn : 3 ≤ n) (s : Sn) (t : SnL) (a : Option Addr) (len cap : Nat) (zs : List Lab) (hreach : zs.length * 24 ≤ 140737488351232) (w : World) (hs : SentL s t w) (hI : Lb.Labs w.heap.size w (.slice a len cap) zs) :
    CallsIn Fence.wide n Tryd.prog 26 #[.slice a len cap] w (PutPost t zs w) := by
  have h1 : 1 ≤ n := by omega
  have HS := Lib.hid hs
  have HI := Lib.hid hI
  clear hs hI
  refine callsIn_of_wp_marks Tryd.func26 rfl trivial ?_ rfl
  simp only [Tryd.ntmps26, List.size_toArray, List.length_cons, List.length_nil, Nat.reduceAdd, Nat.reduceSub, Array.replicate_succ, Array.replicate_zero, List.push_toArray, List.append_toArray, List.nil_append, List.cons_append]
  gi_wp2
  refine wpIn_scope_wide ?_
  gi_wp2
  refine wpIn_label ?_
  gi_wp2_with (refine ⟨trivial, ?_⟩; gi_at_call 39; refine (coded_in (n - 1) _ _ _ _).mono ?_; rintro e w' ⟨rfl, rfl⟩)
  have bE := Boxed.new (w.alloc (.cells #[.pointer none, .slice none 0 0] 76)) 46 .nilIface
  have bN := Boxed.new ((w.alloc (.cells #[.pointer none, .slice none 0 0] 76)).alloc (.cells #[.nilIface] 46)) 36 (.slice a len cap)
  simp only [World.size_alloc] at bE bN
  have hB1 : Below w.heap.size w (((w.alloc (.cells #[.pointer none, .slice none 0 0] 76)).alloc (.cells #[.nilIface] 46)).alloc (.cells #[.slice a len cap] 36)) :=
    (((Below.refl _ w).alloc (Nat.le_refl _) _).alloc (by simp) _).alloc (by simp; omega) _
  have hB0 : Below (w.alloc (.cells #[.pointer none, .slice none 0 0] 76)).heap.size (w.alloc (.cells #[.pointer none, .slice none 0 0] 76)) (((w.alloc (.cells #[.pointer none, .slice none 0 0] 76)).alloc (.cells #[.nilIface] 46)).alloc (.cells #[.slice a len cap] 36)) :=
    ((Below.refl _ _).alloc (Nat.le_refl _) _).alloc (by simp) _
  have hisB := isB_below (Lib.IsBuilderF.of (Lib.fresh_isBuilder 76 5 w)) hB0
  refine wpIn_rangeFunc_ownG rfl h1 (gf := 54) (lb := #[.pointer (some ⟨w.heap.size + 1 + 1, 0, none⟩)]) rfl trivial (enters_of Tryd.func54 (by kernel_rfl) rfl)
    (coded_stops (n - 1) (by omega) s t w HS.out (w.heap.size + 1 + 1) _ zs hreach _ (by simp) hB1 bN.cell (HI.out.below hB1)) belowK_t (belowK_b (by simp; omega)) (Below.refl _ _) (fun _ => rfl)
    (PutI w) (PutX t w) ?hI ?hIx ?h0
    (fun x => { tmps := #[.slice a len cap, undef, .string { data := #[] }, .nilIface, .pointer (some ⟨w.heap.size, 0, none⟩), .pointer (some ⟨w.heap.size + 1, 0, none⟩), .string (bs (putR x.2.1).1), errC t (x.1 : Int) x.2.1, .slice a len cap, .func (.func 54) #[] #[.pointer (some ⟨w.heap.size + 1 + 1, 0, none⟩)], .string (bs (putR x.2.1).1), errC t (x.1 : Int) x.2.1, undef, undef, undef, undef, undef, undef, undef, undef, undef, undef], defers := [] }) ?assign ?body ?done ?stop
  case hI =>
    exact OwnFrom.and (OwnFrom.and (ownFrom_pure _ _) (OwnFrom.and (Own.from (isB_ownG (fun pre : List NLab => Lib.byteCells (listB (nlabs pre)))) _) (Own.from (boxed_own _ _ _) _))) (ownFrom_below (Nat.le_refl _) (by simp; omega))
  case hIx => exact fun c => putX_own t w c (by simp; omega)
  case h0 => exact ⟨⟨rfl, hisB, bE.alloc _⟩, hB1⟩
  case assign =>
    intro l x W K hK
    gi_wp2
    exact hK
  case body =>
    rintro l pre x W ⟨⟨hall, hIB, hE⟩, hB⟩ hlt
    have HA := Lib.hid hall
    have hsW := hB.size
    cases hx : x.2.1.right
    · have hxe := errC_no (t := t) (k := (x.1 : Int)) hx
      unfold faultL at hxe
      have HX := Lib.hid hx
      have hcE := hE.cell
      have hfE := hE.frozen
      clear hx hall bE bN hB1 hB0 hisB hIB
      gi_wp2
      refine ⟨(KeepsOthers.setCell _ _ _).from _, ⟨⟨rfl, ?_⟩, _, hE.set _⟩, hB.setCell (p := ⟨w.heap.size + 1, 0, none⟩) (by simp) _⟩
      rw [nlabs_snoc, List.all_append, HA.out, Bool.true_and, List.all_cons, HX.out, Bool.false_and]
    · have hxe := errC_ok (t := t) (k := (x.1 : Int)) hx
      have hxp : (putR x.2.1).1 = labB x.2.1 := by rw [putR_ok hx]
      have HX := Lib.hid hx
      have hn2 : 1 ≤ n - 1 - 1 := by omega
      have hlen : (Lib.byteCells (listB (nlabs pre))).length + (bs (putR x.2.1).1).size ≤ 140737488355328 := by
        rw [Lib.byteCells_length, listB_length, bs_size, hxp, labB_length, nlabs_length]; omega
      obtain ⟨cb, fz, hbb⟩ := isB_block hIB
      have HBB := Lib.hid (And.intro hbb (And.intro hE hxp))
      clear hx hall hbb bE bN hB1 hB0 hisB hE hxp
      gi_wp2_with (refine ⟨trivial, ?_⟩; gi_at_call 40; refine (CallsIn.inRound l (callsIn_wide.2 (writeString_k w.heap.size w.heap.size _ _ _ hIB hlen hsW))).mono ?_)
      rintro e W3 ⟨rfl, i3, b3, k3⟩
      gi_wp2
      refine ⟨keeps_others k3 b3.size HBB.out.1 _, b3, ⟨?_, ?_, boxed_others HBB.out.2.1 k3 (by omega) (by decide)⟩, hB.trans b3⟩
      · rw [nlabs_snoc, List.all_append, HA.out, Bool.true_and, List.all_cons, HX.out]; rfl
      · rw [nlabs_snoc, listB_append, Lib.byteCells_append]
        have e : listB [x.2.1] = labB x.2.1 := by simp [listB]
        rw [e, ← HBB.out.2.2]
        exact i3
  case done =>
    rintro D ys W hD hys ⟨⟨hall, hIB, hE⟩, hB⟩ hK
    replace hys : nlabs ys = zs := hys
    rw [hys] at hall hIB
    have HA := Lib.hid hall
    have hcE := hE.cell
    have hsW := hB.size
    have HK := Lib.hid hK
    obtain ⟨cb, fz, hbb⟩ := isB_block hIB
    have HBB := Lib.hid hbb
    clear hall hys hK hbb bE bN hB1 hB0 hisB hE
    gi_wp2_with (refine ⟨trivial, ?_⟩; gi_at_call 41; refine (callsIn_wide.2 (builderString_k w.heap.size w.heap.size _ W hIB hsW)).mono ?_)
    rintro e w1 ⟨rfl, _, b1, k1⟩
    have hm1 : w1.heap[D]? = some (.deferred (some [])) := k1 D _ HK.out (fun e => by injection e with e; subst e; rw [HK.out] at HBB; have := HBB.out; cases this) (fun _ _ e => by cases e)
    gi_wp2
    rw [Exit.noGoto_ret]
    refine ⟨by simp, .inl ⟨_, _, rfl, run_takeDeferred hm1, ?_⟩⟩
    refine ⟨_, results_tmp2 rfl _ _ _, .nilIface, ?_, ?_, (hB.trans b1).trans (belowK_b (w := w) (Nat.le_refl _) w1 D _ _ (by simp at hD; omega) hm1 rfl rfl)⟩
    · rw [putListR_ok HA.out]; exact .ok
    · rw [putListR_ok HA.out]; rfl
  case stop =>
    rintro D c pre W hD hpre ⟨⟨⟨rfl, hall⟩, k, hE⟩, hB⟩ hK
    have hz : zs.all Lab.right = false := by
      obtain ⟨r, rfl⟩ := hpre
      rw [List.all_append]
      replace hall : (pre.map NLab.lab).all Lab.right = false := hall
      rw [hall, Bool.false_and]
    have HZ := Lib.hid hz
    have hcE := hE.cell
    have HK := Lib.hid hK
    unfold faultL at hcE
    clear hz hall hK bE bN hB1 hB0 hisB hE hpre
    gi_wp2
    refine wpIn_wide.2 ?_
    go_region_held3 (fun w' => w'.cell? ⟨w.heap.size + 1, 0, none⟩ = some (.iface 84 (.agg #[.int .i64 k, .iface 161 (.pointer (some t.n))]))) (go_keep) (fail)
    gi_wp2
    rw [Exit.noGoto_ret]
    refine ⟨by simp, .inl ⟨_, _, rfl, run_takeDeferred (w := W.drew) HK.out, ?_⟩⟩
    refine ⟨_, results_tmp2 rfl _ _ _, faultL k t.n, ?_, ?_, (below_drew hB).trans (belowK_b (w := w) (Nat.le_refl _) W.drew D _ _ (by simp at hD; omega) HK.out rfl rfl)⟩
    · rw [putListR_no HZ.out]; exact .none k
    · rw [putListR_no HZ.out]; rfl

theorem put_any (s : Sn) (t : SnL) (a : Option Addr) (len cap : Nat) (zs : List Lab) (hreach : zs.length * 24 ≤ 140737488351232) (w : World) (hs : SentL s t w) (hI : Lb.Labs w.heap.size w (.slice a len cap) zs) :
    Calls Tryd.prog 26 #[.slice a len cap] w (PutPost t zs w) := (callsIn_wide (n := 3)).1 (put_in 3 (by omega) s t a len cap zs hreach w hs hI)

end Go.Proofs.YtfpjbefhfkembaaDoor
