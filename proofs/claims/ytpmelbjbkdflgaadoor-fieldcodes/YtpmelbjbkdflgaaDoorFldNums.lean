/- numbers. -/
import Derived.Test.YtpmelbjbkdflgaaDoorFldBytes
import Derived.Test.YtpmelbjbkdflgaaDoorFldPure
import Derived.Maps.AppendAt
namespace Go.Proofs.YtpmelbjbkdflgaaDoor
open Go.RowKit Go.Shelf Go.Proofs.Fld

attribute [local go_sem] Oper.semAt_some

/-- A scope that no goto leaves, at the wide fence. -/
theorem wpIn_scope_wide {n : Nat} {P : Program} {c : Code} {Q : Exit → Act → World → Prop} {a : Act} {w : World} (h : c.wpIn Fence.wide n P (Exit.noGoto Q) a w) : (Code.scope c).wpIn Fence.wide n P Q a w :=
  wpIn_wide.2 (wp_scope_straight (wpIn_wide.1 h))
theorem infoU : (Tryd.prog.info? 22).map (fun i => (i.zero, i.size, i.bytes)) = some (some (.int .u64 0), 1, 8) := by kernel_rfl

theorem only_trans {a b c : World} {R : Nat} (h : a.grownBy b (some R)) (k : b.grownBy c (some R)) : a.grownBy c (some R) :=
  ⟨k.os.trans h.os, k.tape.trans h.tape, k.output.trans h.output, Nat.le_trans h.size k.size, fun i hi hn => (k.block i (Nat.lt_of_lt_of_le hi h.size) hn).trans (h.block i hi hn)⟩
theorem only_below {a b c : World} {R n : Nat} (h : a.grownBy b (some R)) (k : Below n b c) (hn : a.heap.size ≤ n) : a.grownBy c (some R) :=
  ⟨k.os.trans h.os, k.tape.trans h.tape, k.output.trans h.output, Nat.le_trans h.size k.size, fun i hi hne => (k.block i (by omega)).trans (h.block i hi hne)⟩
theorem only_of {a b : World} (R : Nat) (h : Below a.heap.size a b) : a.grownBy b (some R) := only_below (World.grownBy.refl a _) h (Nat.le_refl _)
theorem only_cell {a b : World} {R : Nat} (h : a.grownBy b (some R)) {p : Addr} (hp : p.block < a.heap.size) (hne : p.block ≠ R) : b.cell? p = a.cell? p :=
  World.cell?_of_block (h.block _ hp (fun e => hne (by injection e)))
theorem own_only {β : Type} {w : World} {R B : Nat} (hB : w.heap.size ≤ B) : OwnFrom B (fun (_ : β) W => w.grownBy W (some R)) := fun _ W W' row hs hg hr =>
  ⟨hg.os.trans hs.os, hg.tape.trans hs.tape, hg.output.trans hs.output, Nat.le_trans hs.size hg.size, fun i hi hn => (hg.block i (Nat.lt_of_lt_of_le hi hs.size) (fun e => by have := (hr i e.symm).1; omega)).trans (hs.block i hi hn)⟩
theorem own_row {β : Type} {base e size n : Nat} {v : Value} {xs : List Value} : Own (fun (_ : β) W => W.ownsRow base e size v n xs) := fun _ W W' row hs hg hr => by
  rcases hs.2 with ⟨rfl, _⟩ | ⟨g, cap, cur, rfl, _, hgb, _⟩
  · exact hs.kept hg (Or.inl rfl)
  · refine hs.kept hg (Or.inr (fun e => ?_))
    obtain ⟨o, ho, hc⟩ := hr g (by simpa [Value.ownBlock] using e.symm)
    rw [hgb] at ho
    cases ho
    cases hc

/-- What numbers leaves: the code, the numbers, the bytes behind. -/
def getC (k : Int) (l : List UInt8) : Int := if isW k then (if l.length < k.toNat then 30 else 0) else 2
def numsC : List Int → List UInt8 → Int
  | [], _ => 0
  | k :: ks, l => if getC k l = 0 then numsC ks (l.drop k.toNat) else getC k l
def numsL : List Int → List UInt8 → List Nat
  | [], _ => []
  | k :: ks, l => dec 0 (l.take k.toNat) :: numsL ks (l.drop k.toNat)
def numsR : List Int → List UInt8 → List UInt8
  | [], l => l
  | k :: ks, l => numsR ks (l.drop k.toNat)

def u64s (l : List Nat) : List Value := l.map fun (x : Nat) => Value.int .u64 (x : Int)
theorem u64s_length (l : List Nat) : (u64s l).length = l.length := by simp [u64s]
def NumsPost (s : Sn) (R : Nat) (ws : List Int) (l : List UInt8) (w : World) (e : Ending) (w' : World) : Prop :=
  ∃ v ev, ErrIs s ev (numsC ws l) ∧ e = .returned (.tuple #[v, ev]) ∧ w.grownBy w' (some R) ∧
    (numsC ws l = 0 → w'.ownsRow w.heap.size 22 1 v (numsL ws l).length (u64s (numsL ws l)) ∧ Rd w' R (numsR ws l))

/-- Between two widths. -/
structure NumsInv (w : World) (R B6 : Nat) (ws : List Int) (l : List UInt8) (k : Nat) (Ds : List Nat) (nums : List Nat) (rest : List UInt8) (v : Value) (wr : World) : Prop where
  box : Boxed wr B6 35 v
  row : wr.ownsRow w.heap.size 22 1 v nums.length (u64s nums)
  rd : Rd wr R rest
  only : w.grownBy wr (some R)
  marks : Marks Ds wr
  above : ∀ D ∈ Ds, w.heap.size ≤ D
  code : numsC ws l = numsC (ws.drop k) rest
  list : numsL ws l = nums ++ numsL (ws.drop k) rest
  left : numsR ws l = numsR (ws.drop k) rest
  few : nums.length = k

theorem rd_cell {w : World} {R : Nat} {l : List UInt8} (h : Rd w R l) {b o : Nat} {v : Value} (hc : w.cell? ⟨b, o, none⟩ = some v) (hv : ∀ x, v ≠ .string x) : b ≠ R := by
  rintro rfl
  have hh : w.heap[b]? = some (.cells #[.string (bs l)] 60 (0, 0)) := h
  rw [cell_of_row w b o _ _ _ hh] at hc
  cases o with
  | zero => exact hv _ (Option.some.inj hc).symm
  | succ o => simp at hc
theorem Sent.only {s : Sn} {R : Nat} {l : List UInt8} {A B : World} (h : Sent s A) (hR : Rd A R l) (hsn : s.w.block ≠ R ∧ s.f.block ≠ R ∧ s.g.block ≠ R) (hg : A.grownBy B (some R)) : Sent s B := by
  have l1 := World.block_lt_of_cell? A _ h.cw
  have l2 := World.block_lt_of_cell? A _ h.cf
  have l3 := World.block_lt_of_cell? A _ h.cg
  have l4 := World.block_lt_of_cell? A _ h.ct
  refine ⟨(only_cell hg l1 (rd_cell hR h.cw (by simp))).trans h.cw, (only_cell hg l2 (rd_cell hR h.cf (by simp))).trans h.cf, (only_cell hg l3 (rd_cell hR h.cg (by simp))).trans h.cg, (only_cell hg l4 (rd_cell hR h.ct (by simp))).trans h.ct, ?_, ?_, ?_, h.wf, h.wg, h.fg⟩
  · obtain ⟨c, t, e⟩ := h.bw
    exact ⟨c, t, (hg.block _ h.bw.lt (fun x => hsn.1 (by injection x))).trans e⟩
  · obtain ⟨c, t, e⟩ := h.bf
    exact ⟨c, t, (hg.block _ h.bf.lt (fun x => hsn.2.1 (by injection x))).trans e⟩
  · obtain ⟨c, t, e⟩ := h.bg
    exact ⟨c, t, (hg.block _ h.bg.lt (fun x => hsn.2.2 (by injection x))).trans e⟩
theorem SlI.only {q : IntKind} {R : Nat} {l : List UInt8} {B : Nat} {w w' : World} {a : Option Addr} {zs : List Int} (h : SlI q B w a zs) (hR : Rd w R l) (hg : w.grownBy w' (some R)) (hB : B ≤ w.heap.size) : SlI q B w' a zs := fun j hj => by
  obtain ⟨g, off, e, hgB, hc⟩ := h j hj
  exact ⟨g, off, e, hgB, (only_cell hg (p := ⟨g, off + j, none⟩) (by simp; omega) (rd_cell hR hc (by simp))).trans hc⟩

theorem getC_few {m : Nat} {l : List UInt8} (h : isW (m : Int)) (hl : l.length < m) : getC (m : Int) l = 30 := by
  unfold getC
  rw [if_pos h, if_pos (by simpa using hl)]
theorem getC_ok {m : Nat} {l : List UInt8} (h : isW (m : Int)) (hl : m ≤ l.length) : getC (m : Int) l = 0 := by
  unfold getC
  rw [if_pos h, if_neg (by simp; omega)]

theorem putC0 {k : Int} (h : putC k 0 ≠ 0) : ¬ isW k ∧ putC k 0 = 2 := by
  have hn : ¬ isW k := fun hw => h (by unfold putC; rw [if_pos hw, if_pos (Nat.pow_pos (by decide))])
  exact ⟨hn, by unfold putC; rw [if_neg hn]⟩
theorem numsC_stop {k : Int} {ks : List Int} {l : List UInt8} (h : ¬ isW k) : numsC (k :: ks) l = 2 := by
  have e : getC k l = 2 := by unfold getC; rw [if_neg h]
  simp [numsC, e]
theorem row_slice {w : World} {base e : Nat} {n : Nat} {v : Value} {xs : List Value} (h : w.ownsRow base e 1 v n xs) : ∃ a cap, v = .slice a n cap := by
  rcases h.2 with ⟨rfl, rfl⟩ | ⟨g, cap, cur, rfl, _⟩
  · exact ⟨none, 0, rfl⟩
  · exact ⟨_, cap, rfl⟩
theorem row_cells {W W' : World} {base e : Nat} {n : Nat} {v : Value} {xs : List Value} (h : W.ownsRow base e 1 v n xs) (hk : ∀ (k : Nat) c t fz, W.heap[k]? = some (.cells c t fz) → W'.heap[k]? = some (.cells c t fz)) : W'.ownsRow base e 1 v n xs := by
  refine ⟨h.1, ?_⟩
  rcases h.2 with h | ⟨g, cap, cur, hv, hb, hg, rest⟩
  · exact Or.inl h
  · exact Or.inr ⟨g, cap, cur, hv, hb, hk _ _ _ _ hg, rest⟩
theorem own_s {R B : Nat} (all : List UInt8) : OwnFrom B (fun (ys : List UInt8) W => ys = all ∧ Rd W R []) := fun _ W W' row hs hg hr => ⟨hs.1, (Own.from (boxed_own (β := Unit) R _ (fun _ => Value.string (bs []))) B) () W W' row hs.2 hg hr⟩
theorem own_sp {R B : Nat} (all : List UInt8) : OwnFrom B (fun (pre : List UInt8) W => ∃ rest, all = pre ++ rest ∧ Rd W R rest) := fun _ W W' row hs hg hr => by
  obtain ⟨r, e, h⟩ := hs
  exact ⟨r, e, (Own.from (boxed_own (β := Unit) R _ (fun _ => Value.string (bs r))) B) () W W' row h hg hr⟩
theorem numsC_few {m : Nat} {ks : List Int} {l : List UInt8} (h : isW (m : Int)) (hl : l.length < m) : numsC ((m : Int) :: ks) l = 30 := by
  simp [numsC, getC_few h hl]
theorem or_step (pre : List UInt8) (b : UInt8) (h : pre.length < 8) : bits .or .u64 (IntKind.u64.wrap (((dec 0 pre : Nat) : Int) * 256)) ((b.toNat : Nat) : Int) = ((dec 0 (pre ++ [b]) : Nat) : Int) := by
  have hl := dec_lt pre
  have hb : b.toNat < 256 := b.toNat_lt
  have hp : 256 ^ pre.length ≤ 256 ^ 7 := Nat.pow_le_pow_right (by decide) (by omega)
  have e : dec 0 (pre ++ [b]) = dec 0 pre * 256 + b.toNat := by
    have : ∀ acc, dec acc (pre ++ [b]) = dec acc pre * 256 + b.toNat := by
      clear hl hp h
      induction pre with
      | nil => intro acc; rfl
      | cons c r ih => intro acc; exact ih _
    exact this 0
  rw [e]
  generalize dec 0 pre = x at *
  generalize b.toNat = y at *
  have e1 : IntKind.u64.wrap ((x : Int) * 256) = ((x * 256 : Nat) : Int) := by rw [IntKind.wrap_u64]; omega
  rw [e1, u64_or_nat _ _ (by omega) (by omega)]
  congr 1
  have : x * 256 = x <<< 8 := by rw [Nat.shiftLeft_eq]
  rw [this, ← Nat.shiftLeft_add_eq_or_of_lt (show y < 2 ^ 8 by omega)]

theorem stR_others {R : Nat} (A B : World) (k : Nat) (o : Obj) (h : StR R A B) (ho : A.heap[k]? = some o) (hc : o.isCells = false) : B.heap[k]? = some o := by
  obtain ⟨hg, ⟨l, hl⟩, _⟩ := h
  refine (hg.block k (Array.getElem?_eq_some_iff.1 ho).1 (fun e => ?_)).trans ho
  injection e with e
  subst e
  rw [show A.heap[k]? = _ from hl] at ho
  cases ho
  cases hc

set_option maxRecDepth 100000 in
set_option maxHeartbeats 2000000 in
theorem nums_in (n : Nat) (hn : 3 ≤ n) (s : Sn) (N : Nat) (ws : List Int) (hwl : ws.length = N) (hN : N ≤ 1048576) (hww : ∀ k ∈ ws, (Lit.int .i64 k).wf = true)
    (R : Nat) (hsn : s.w.block ≠ R ∧ s.f.block ≠ R ∧ s.g.block ≠ R) (l : List UInt8) (aw : Option Addr) (cw : Nat) (w : World) (hs : Sent s w) (hR : Rd w R l) (hW : SlI .i64 w.heap.size w aw ws) :
    CallsIn Fence.wide n Tryd.prog 32 #[.pointer (some ⟨R, 0, none⟩), .slice aw N cw] w (NumsPost s R ws l w) := by
  have h1 : 1 ≤ n := by omega
  obtain ⟨i0, hi, hz0, hz1, hz2⟩ := info_parts infoU
  have hRl : R < w.heap.size := Boxed.lt hR
  have HH := Lib.hid (And.intro hs (And.intro hR hW))
  have HL := Lib.hid (And.intro hwl (And.intro hww hsn))
  clear hs hR hW hwl hww hsn
  refine callsIn_of_wp_marks Tryd.func32 rfl trivial ?_ rfl
  simp only [Tryd.ntmps32, List.size_toArray, List.length_cons, List.length_nil, Nat.reduceAdd, Nat.reduceSub, Array.replicate_succ, Array.replicate_zero, List.push_toArray, List.append_toArray, List.nil_append, List.cons_append]
  gi_wp2
  refine wpIn_scope_wide ?_
  gi_wp2_with (first | (gi_at_make; refine wpListIn_make_own _ rfl _ _ 35 rfl w.heap.size 22 i0 (.int .u64 0) 1 Tryd.underlying35 hi hz0 hz1 _ _ _ N rfl rfl rfl (by rw [hz2]; omega) (by unfold maxLen; omega) (Nat.le_refl _) ?_; intro w1 hrow0 hgrow0))
  refine wpIn_label ?_
  gi_wp2
  have hB1 : Below w.heap.size w w1 := (Below.refl _ w).grown hgrow0 (Nat.le_refl _) (fun k e => by cases e)
  have z1 := hB1.size
  have hR6 : R ≠ w1.heap.size := by omega
  refine wpIn_loop (fun a wr => ∃ (k : Nat) (Ds : List Nat) (nums : List Nat) (rest : List UInt8) (v : Value) (u8 u9 u10 u11 u19 u20 u21 u22 u23 u24 u25 u26 u27 u28 u29 u30 u31 u50 : Value), a = { tmps := #[.pointer (some ⟨R, 0, none⟩), .slice aw N cw, undef, undef, .slice none 0 0, .nilIface, .pointer (some ⟨w1.heap.size, 0, none⟩), undef, u8, u9, u10, u11, undef, .slice aw N cw, .int .i64 (N : Int), .slice (some ⟨w.heap.size, 0, none⟩) 0 N, .slice aw N cw, .int .i64 (N : Int), .int .i64 (k : Int), u19, u20, u21, u22, u23, u24, u25, u26, u27, u28, u29, u30, u31, undef, undef, undef, undef, undef, undef, undef, undef, undef, undef, undef, undef, undef, undef, undef, undef, undef, undef, u50, undef], defers := Ds.map mk } ∧ k ≤ N ∧ NumsInv w R w1.heap.size ws l k Ds nums rest v wr)
    (fun a _ => N - (intOf (a.tmps.getD 18 undef)).toNat) ?h0 ?round
  case h0 =>
    refine ⟨0, [], [], l, _, _, _, _, _, _, _, _, _, _, _, _, _, _, _, _, _, _, _, rfl, by omega, Boxed.new w1 _ _, hrow0.alloc _, ?_, only_of R (hB1.alloc z1 _), Marks.nil _, fun _ h => (by cases h), rfl, rfl, rfl, rfl⟩
    exact ((hB1.alloc z1 _).block R hRl).trans HH.out.2.1
  case round =>
    rintro a wr ⟨k, Ds, nums, rest, v, u8, u9, u10, u11, u19, u20, u21, u22, u23, u24, u25, u26, u27, u28, u29, u30, u31, u50, rfl, hk, hI⟩
    have HI := Lib.hid hI
    clear hI hrow0 hgrow0
    have hsz := HI.out.only.size
    have hlB : w1.heap.size < wr.heap.size := HI.out.box.lt
    have hsr : Hid (Sent s wr) := Lib.hid (HH.out.1.only HH.out.2.1 HL.out.2.2 HI.out.only)
    by_cases hlt : k < N
    · obtain ⟨kk, hkk⟩ : ∃ kk, ws[k]'(by rw [HL.out.1]; exact hlt) = kk := ⟨_, rfl⟩
      obtain ⟨gw, ow, rfl, hgw, qw⟩ := (HH.out.2.2.only HH.out.2.1 HI.out.only (Nat.le_refl _)) k (by rw [HL.out.1]; exact hlt)
      rw [hkk] at qw
      have hkw : Hid ((Lit.int .i64 kk).wf = true) := Lib.hid (HL.out.2.1 _ (hkk ▸ List.getElem_mem _))
      have hdw : Hid (ws.drop k = kk :: ws.drop (k + 1)) := Lib.hid (by rw [List.drop_eq_getElem_cons (by rw [HL.out.1]; exact hlt), hkk])
      clear hkk
      by_cases hz : putC kk 0 = 0
      · obtain ⟨hw, _⟩ := putC_zero hz
        obtain ⟨m, rfl, hm1, hm8⟩ := isW_le hw
        have HW := Lib.hid hw
        have HZ := Lib.hid hz
        clear hz hw
        gi_wp2_with (refine ⟨trivial, ?_⟩; gi_at_call 33; refine (callsIn_wide.2 (judge_any s _ hkw.out 0 wr hsr.out)).mono ?_)
        rintro e w2 ⟨he, b1⟩
        rw [judge_zero HZ.out] at he
        subst he
        have hs1 := b1.size
        clear qw
        gi_wp2_with (refine ⟨trivial, ?_⟩; gi_at_call 40; refine (callsIn_wide.2 (bytes_any _ _)).mono ?_)
        rintro e w3 ⟨rfl, rfl⟩
        have bN := Boxed.new w2 22 (.int .u64 0)
        have bM := Boxed.new (w2.alloc (.cells #[.int .u64 0] 22)) 3 (.int .i64 (m : Int))
        have bL := Boxed.new ((w2.alloc (.cells #[.int .u64 0] 22)).alloc (.cells #[.int .i64 (m : Int)] 3)) 100 (.pointer (some ⟨R, 0, none⟩))
        rw [World.size_alloc] at bM bL
        rw [World.size_alloc] at bL
        have bN3 := (bN.alloc (.cells #[.int .i64 (m : Int)] 3)).alloc (.cells #[.pointer (some ⟨R, 0, none⟩)] 100)
        have bM3 := bM.alloc (.cells #[.pointer (some ⟨R, 0, none⟩)] 100)
        have hB2 : Below w2.heap.size w2 (((w2.alloc (.cells #[.int .u64 0] 22)).alloc (.cells #[.int .i64 (m : Int)] 3)).alloc (.cells #[.pointer (some ⟨R, 0, none⟩)] 100)) := ((Below.new w2 _).alloc (by simp) _).alloc (by simp; omega) _
        have hB3 := below_more b1 hB2
        have hml := HI.out.marks.lt
        have hvr : ∀ g, v.ownBlock = some g → w.heap.size ≤ g ∧ g < wr.heap.size := HI.out.row.lt
        have HV := Lib.hid hvr
        have rd3 : Rd _ R rest := (hB3.block R (by omega)).trans HI.out.rd
        clear bN bM hB2 hvr
        gi_wp2
        refine wpIn_rangeSteps h1 (gf := 50) (lb := #[.pointer (some ⟨w2.heap.size + 1 + 1, 0, none⟩)]) rfl (enters_of Tryd.func50 (by kernel_rfl) rfl)
          (bytes_steps (n - 1) (by omega) (w2.heap.size + 1 + 1) R (by omega) rest _ bL rd3) (by rintro k (rfl | rfl) <;> simp <;> omega) (own_s rest) (own_sp rest) (Below.refl _ _) (fun _ => rfl) stR_others
          (fun (pre : List UInt8) W => (((Boxed W w2.heap.size 22 (.int .u64 ((dec 0 pre : Nat) : Int)) ∧ Boxed W (w2.heap.size + 1) 3 (.int .i64 ((m : Int) - (pre.length : Int)))) ∧ (Boxed W (w2.heap.size + 1 + 1) 100 (.pointer (some ⟨R, 0, none⟩)) ∧ Boxed W w1.heap.size 35 v)) ∧ (W.ownsRow w.heap.size 22 1 v nums.length (u64s nums) ∧ Marks Ds W)) ∧ (w.grownBy W (some R) ∧ pre.length < m))
          (fun c (pre : List UInt8) W => (c = .exit 1 ∧ pre.length = m) ∧ ((∃ v', Boxed W w1.heap.size 35 v' ∧ W.ownsRow w.heap.size 22 1 v' (nums.length + 1) (u64s (nums ++ [dec 0 pre])) ∧ True) ∧ (Marks Ds W ∧ w.grownBy W (some R))))
          (OwnFrom.and (OwnFrom.and (OwnFrom.and (OwnFrom.and (Own.from (boxed_own _ _ _) _) (Own.from (boxed_own _ _ _) _)) (OwnFrom.and (Own.from (boxed_own _ _ _) _) (Own.from (boxed_own _ _ _) _))) (OwnFrom.and (Own.from own_row _) (marks_own (fun D hD => by have := hml D hD; simp; omega)))) (OwnFrom.and (own_only (by simp; omega)) (ownFrom_pure _ _)))
          (fun c => OwnFrom.and (ownFrom_pure _ _) (OwnFrom.and (Own.from (holdsRow_own w.heap.size w1.heap.size 35 22 1 (fun _ : List UInt8 => nums.length + 1) (fun pre : List UInt8 => u64s (nums ++ [dec 0 pre])) (fun _ _ => True)) _) (OwnFrom.and (marks_own (fun D hD => by have := hml D hD; simp; omega)) (own_only (by simp; omega)))))
          ?abide ⟨⟨⟨⟨bN3, by simpa using bM3⟩, ⟨bL, (hB3.block _ hlB).trans HI.out.box⟩⟩, ⟨HI.out.row.kept (only_of R hB3) (Or.inr (fun e => by have := (HV.out R e).1; omega)), HI.out.marks.below hB3⟩⟩, ⟨only_below HI.out.only hB3 hsz, by simp; omega⟩⟩
          (fun b => { tmps := #[.pointer (some ⟨R, 0, none⟩), .slice (some ⟨gw, ow, none⟩) N cw, undef, undef, .slice none 0 0, .nilIface, .pointer (some ⟨w1.heap.size, 0, none⟩), undef, .int .i64 (m : Int), .nilIface, .pointer (some ⟨w2.heap.size, 0, none⟩), .pointer (some ⟨w2.heap.size + 1, 0, none⟩), .int .u8 (b.toNat : Int), .slice (some ⟨gw, ow, none⟩) N cw, .int .i64 (N : Int), .slice (some ⟨w.heap.size, 0, none⟩) 0 N, .slice (some ⟨gw, ow, none⟩) N cw, .int .i64 (N : Int), .int .i64 (k : Int), .bool true, .pointer (some ⟨gw, ow + k, none⟩), .int .i64 (m : Int), .int .i64 (m : Int), .nilIface, .nilIface, .bool false, u26, .int .i64 (m : Int), .pointer (some ⟨R, 0, none⟩), .pointer (some ⟨R, 0, none⟩), .pointer (some ⟨R, 0, none⟩), .func (.func 50) #[] #[.pointer (some ⟨w2.heap.size + 1 + 1, 0, none⟩)], .int .u8 (b.toNat : Int), undef, undef, undef, undef, undef, undef, undef, undef, undef, undef, undef, undef, undef, undef, undef, undef, undef, u50, undef], defers := [] }) ?assign ?body ?done ?stop
        case abide =>
          rintro pre A B ⟨⟨⟨⟨x1, x2⟩, ⟨x3, x4⟩⟩, ⟨x5, x6⟩⟩, ⟨x7, x8⟩⟩ ⟨hg, _, _⟩
          exact ⟨⟨⟨⟨x1.kept hg (fun e => by injection e; omega), x2.kept hg (fun e => by injection e; omega)⟩, ⟨x3.kept hg (fun e => by injection e; omega), x4.kept hg (fun e => by injection e; omega)⟩⟩, ⟨x5.kept hg (Or.inr (fun e => by have := (x5.lt R e).1; omega)), ⟨x6.1, fun D hD => (hg.block D (x6.lt D hD) (fun e => by have := HI.out.above D hD; injection e; omega)).trans (x6.2 D hD)⟩⟩⟩, ⟨only_trans x7 hg, x8⟩⟩
        case assign =>
          intro l b W K hK
          gi_wp2
          exact hK
        case body =>
          rintro l pre b W ⟨⟨⟨⟨x1, x2⟩, ⟨x3, x4⟩⟩, ⟨x5, x6⟩⟩, ⟨x7, x8⟩⟩
          obtain ⟨x, hx⟩ : ∃ x, dec 0 pre = x := ⟨_, rfl⟩
          obtain ⟨y, hy⟩ : ∃ y, dec 0 (pre ++ [b]) = y := ⟨_, rfl⟩
          have hor := or_step pre b (by omega : pre.length < 8)
          rw [hx] at x1 hor
          rw [hy] at hor
          have hbl : b.toNat < 256 := b.toNat_lt
          have HY := Lib.hid (And.intro hx hy)
          clear hx hy
          have c1 := x1.cell
          have c2 := x2.cell
          have c4 := x4.cell
          have f1 := x1.frozen
          have f2 := x2.frozen
          have gA := grownBy_setCell' W w2.heap.size (.int .u64 (y : Int))
          have gB := grownBy_setCell' (W.setCell ⟨w2.heap.size, 0, none⟩ (.int .u64 (y : Int))) (w2.heap.size + 1) (.int .i64 ((m : Int) - (pre.length : Int) - 1))
          have y1 := (x1.set (.int .u64 (y : Int))).kept gB (fun e => by injection e; omega)
          have y2 := (x2.kept gA (fun e => by injection e; omega)).set (.int .i64 ((m : Int) - (pre.length : Int) - 1))
          have y3 := (x3.kept gA (fun e => by injection e; omega)).kept gB (fun e => by injection e; omega)
          have y4 := (x4.kept gA (fun e => by injection e; omega)).kept gB (fun e => by injection e; omega)
          have y5 := (x5.kept gA (Or.inr (fun e => by have := (HV.out _ e).2; omega))).kept gB (Or.inr (fun e => by have := (HV.out _ e).2; omega))
          have yk : KeepsOthers W ((W.setCell ⟨w2.heap.size, 0, none⟩ (.int .u64 (y : Int))).setCell ⟨w2.heap.size + 1, 0, none⟩ (.int .i64 ((m : Int) - (pre.length : Int) - 1))) := (KeepsOthers.setCell _ _ _).trans (KeepsOthers.setCell _ _ _)
          have yB : Below w.heap.size W ((W.setCell ⟨w2.heap.size, 0, none⟩ (.int .u64 (y : Int))).setCell ⟨w2.heap.size + 1, 0, none⟩ (.int .i64 ((m : Int) - (pre.length : Int) - 1))) := ((Below.refl _ W).setCell (p := ⟨w2.heap.size, 0, none⟩) (by simp; omega) _).setCell (p := ⟨w2.heap.size + 1, 0, none⟩) (by simp; omega) _
          have hWl := x7.size
          have hRW : R < W.heap.size := by omega
          have hx1l := x1.lt
          have HX := Lib.hid (And.intro (And.intro x3 x6) (And.intro x7 x8))
          by_cases hlast : pre.length + 1 = m
          · have heq : ((m : Int) - (pre.length : Int) - 1 == 0) = true := by rw [beq_iff_eq]; omega
            have HC := Lib.hid (And.intro y3 (And.intro yk yB))
            have hc6 := y4.cell
            have hnew := cell_one_new ((W.setCell ⟨w2.heap.size, 0, none⟩ (.int .u64 (y : Int))).setCell ⟨w2.heap.size + 1, 0, none⟩ (.int .i64 ((m : Int) - (pre.length : Int) - 1))) (.int .u64 (y : Int)) 22
            rw [show ((W.setCell ⟨w2.heap.size, 0, none⟩ (.int .u64 (y : Int))).setCell ⟨w2.heap.size + 1, 0, none⟩ (.int .i64 ((m : Int) - (pre.length : Int) - 1))).heap.size = W.heap.size by simp [World.setCell]] at hnew
            have HN := Lib.hid hnew
            clear hnew
            have hnl : nums.length ≤ 1048576 := by rw [HI.out.few]; omega
            obtain ⟨va, vc, rfl⟩ := row_slice y5
            clear gA gB y1 y2 y3 yk yB x3 x6 x7 x5
            gi_wp2_with (gi_at_builtin; go_loud (refine wpListIn_append_own _ rfl _ _ 35 rfl w.heap.size 22 i0 (.int .u64 0) 1 8 Tryd.underlying35 hi hz0 hz1 hz2 rfl (by decide) _ nums.length (u64s nums) rfl (y5.alloc (.cells #[.int .u64 (y : Int)] 22)) ⟨W.heap.size, 0, none⟩ 1 1 [.int .u64 (y : Int)] rfl rfl HN.out (by simp [Value.oneCell']) (by unfold maxLen; omega) (by omega) (by simp; omega) ?_; intro v' w5 hown' hgrow _; obtain ⟨g', cap', rfl⟩ := ownsRow_succ hown'; obtain ⟨hv1, hv2, hr2, hk2, hb2⟩ := y4.appended (by decide) y5 (by simp [World.setCell]; omega) (by omega) hown' hgrow; have hc1 := hv1.cell; have hf1 := hv1.frozen))
            have k3 := ((HC.out.1.alloc _).kept hgrow (fun e => by have := (HV.out _ e.symm).2; omega)).kept (grownBy_setCell' w5 w1.heap.size (.slice (some ⟨g', 0, none⟩) (nums.length + 1) cap')) (fun e => by injection e; omega)
            have kf := HC.out.2.1.trans hk2
            have bf := HC.out.2.2.trans hb2
            refine ⟨kf.from _, ?_, ⟨rfl, by rw [List.length_append]; exact hlast⟩, ⟨_, hv2, by rw [HY.out.2]; simpa [u64s] using hr2, trivial⟩, ⟨HX.out.1.2.1, fun D hD => kf.same D _ (HX.out.1.2.2 D hD) rfl⟩, only_below HX.out.2.1 bf (Nat.le_refl _)⟩
            rintro q (rfl | rfl)
            · exact k3.trans HX.out.1.1.symm
            · exact bf.block _ (by omega)
          · have heq : ((m : Int) - (pre.length : Int) - 1 == 0) = false := by rw [beq_eq_false_iff_ne]; omega
            have HC := Lib.hid (And.intro (And.intro y1 y2) (And.intro y3 (And.intro y4 (And.intro y5 (And.intro yk yB)))))
            clear gA gB y1 y2 y3 y4 y5 yk yB x3 x6 x7 x5
            gi_wp2
            refine ⟨HC.out.2.2.2.2.1.from _, ?_, ⟨⟨⟨⟨by rw [HY.out.2]; exact HC.out.1.1, ?_⟩, ⟨HC.out.2.1, HC.out.2.2.1⟩⟩, ⟨HC.out.2.2.2.1, ⟨HX.out.1.2.1, fun D hD => HC.out.2.2.2.2.1.same D _ (HX.out.1.2.2 D hD) rfl⟩⟩⟩, ⟨only_below HX.out.2.1 HC.out.2.2.2.2.2 (Nat.le_refl _), by rw [List.length_append]; simp; omega⟩⟩⟩
            · rintro q (rfl | rfl)
              · exact HC.out.2.1.trans HX.out.1.1.symm
              · exact HC.out.2.2.2.2.2.block _ (by omega)
            · have e : (m : Int) - ((pre ++ [b]).length : Int) = (m : Int) - (pre.length : Int) - 1 := by rw [List.length_append]; simp; omega
              rw [e]
              exact HC.out.1.2
        case done =>
          rintro D ys W hD ⟨hys, hr0⟩ ⟨⟨_, ⟨x5, x6⟩⟩, ⟨x7, x8⟩⟩ hK
          have gf := (HH.out.1.only HH.out.2.1 HL.out.2.2 x7).cf
          have hdl : D ∉ Ds := fun h => by have := hml D h; simp at hD; omega
          have hm2 : Marks (D :: Ds) W := ⟨List.nodup_cons.2 ⟨hdl, x6.1⟩, fun E hE => by
            rcases List.mem_cons.1 hE with rfl | hE
            · exact hK
            · exact x6.2 E hE⟩
          have ha2 : ∀ E ∈ D :: Ds, w.heap.size ≤ E := fun E hE => by
            rcases List.mem_cons.1 hE with rfl | hE
            · simp at hD; omega
            · exact HI.out.above E hE
          have x7d : w.grownBy W.drew (some R) := ⟨x7.os, x7.tape, x7.output, x7.size, x7.block⟩
          have HM := Lib.hid (And.intro (And.intro hm2 ha2) (And.intro x7d (And.intro hys x8)))
          clear hm2 ha2 x5 x6 x7 x7d hys x8 hK bL bN3 bM3 hB3 rd3
          gi_wp2
          refine wpIn_wide.2 ?_
          go_region
          all_goals
            gi_wp2
            rw [Exit.noGoto_ret]
            refine leaves_marks (B := w.heap.size) (D :: Ds) W.drew HM.out.1.1 HM.out.1.2 (fun w' hb' _ => ⟨_, results_tmp2 rfl _ _ _, _, faultV m s.f, ?_, rfl, only_below HM.out.2.1 hb' (Nat.le_refl _), fun h => ?_⟩)
            · have hc := HI.out.code
              rw [hdw.out, numsC_few HW.out (by rw [← HM.out.2.2.1]; exact HM.out.2.2.2)] at hc
              rw [hc]
              exact .few _
            · have hc := HI.out.code
              rw [hdw.out, numsC_few HW.out (by rw [← HM.out.2.2.1]; exact HM.out.2.2.2), h] at hc
              exact absurd hc (by decide)
        case stop =>
          rintro D c pre W hD ⟨r', hr', hrd⟩ ⟨⟨rfl, hpl⟩, ⟨⟨v', x4, x5, _⟩, x6, x7⟩⟩ hK
          clear bL bN3 bM3 hB3 rd3
          gi_wp2
          have hdl : D ∉ Ds := fun h => by have := hml D h; simp at hD; omega
          have ht : rest.take m = pre := by rw [hr', ← hpl]; simp
          have hd : rest.drop m = r' := by rw [hr', ← hpl]; simp
          have hle : m ≤ rest.length := by rw [hr', List.length_append]; omega
          refine ⟨⟨k + 1, D :: Ds, nums ++ [dec 0 pre], r', v', _, _, _, _, _, _, _, _, _, _, _, _, _, _, _, _, _, _, rfl, by omega, ⟨x4, by rw [List.length_append]; exact x5, hrd, x7, ⟨List.nodup_cons.2 ⟨hdl, x6.1⟩, ?_⟩, ?_, ?_, ?_, ?_, ?_⟩⟩, ?_⟩
          · intro E hE
            rcases List.mem_cons.1 hE with rfl | hE
            · exact hK
            · exact x6.2 E hE
          · intro E hE
            rcases List.mem_cons.1 hE with rfl | hE
            · simp at hD; omega
            · exact HI.out.above E hE
          · rw [HI.out.code, hdw.out, numsC, getC_ok HW.out hle]
            simp [hd]
          · rw [HI.out.list, hdw.out, numsL]
            simp [ht, hd]
          · rw [HI.out.left, hdw.out, numsR]
            simp [hd]
          · rw [List.length_append, HI.out.few]
            rfl
          · simp [intOf]
            omega
      · have HZ := Lib.hid hz
        clear hz
        gi_wp2_with (refine ⟨trivial, ?_⟩; gi_at_call 33; refine (callsIn_wide.2 (judge_any s _ hkw.out 0 wr hsr.out)).mono ?_)
        rintro e w2 ⟨he, b1⟩
        obtain ⟨fv, hfv⟩ := judge_some (s := s) HZ.out
        have HF := Lib.hid hfv
        rw [hfv] at he
        subst he
        clear hfv
        gi_wp2
        rw [Exit.noGoto_ret]
        refine leaves_marks (B := w.heap.size) Ds w2 (HI.out.marks.below b1) HI.out.above (fun w' hb' _ => ⟨_, results_tmp2 rfl _ _ _, _, .iface 62 fv, ?_, rfl, only_below (only_below HI.out.only b1 hsz) hb' (Nat.le_refl _), fun h => ?_⟩)
        · rw [← HF.out]
          have hc := HI.out.code
          rw [hdw.out, numsC_stop (putC0 HZ.out).1] at hc
          rw [hc, ← (putC0 HZ.out).2]
          exact judge_is s kk 0
        · have hc := HI.out.code
          rw [hdw.out, numsC_stop (putC0 HZ.out).1, h] at hc
          exact absurd hc (by decide)
    · obtain rfl : k = N := by omega
      have hc := HI.out.box.cell
      have hd : ws.drop k = [] := List.drop_of_length_le (by rw [HL.out.1]; exact Nat.le_refl _)
      have HD := Lib.hid hd
      clear hd
      obtain ⟨va, vc, rfl⟩ := row_slice HI.out.row
      gi_wp2
      rw [Exit.noGoto_ret]
      refine leaves_marks (B := w.heap.size) Ds wr HI.out.marks HI.out.above (fun w' hb' hc' => ⟨_, results_tmp2 rfl _ _ _, _, .nilIface, ?_, rfl, only_below HI.out.only hb' (Nat.le_refl _), fun _ => ⟨?_, ?_⟩⟩)
      · rw [HI.out.code, HD.out]
        exact .ok
      · rw [HI.out.list, HD.out]
        simp only [numsL, List.append_nil]
        exact row_cells HI.out.row hc'
      · rw [HI.out.left, HD.out]
        exact hc' _ _ _ _ HI.out.rd
end Go.Proofs.YtpmelbjbkdflgaaDoor
