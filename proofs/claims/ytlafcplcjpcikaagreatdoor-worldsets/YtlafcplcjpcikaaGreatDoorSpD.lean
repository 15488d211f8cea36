/- Merged texts: SpJudge, SpRangeB, SpJgReg, SpCheck, SpRight -/
import Derived.Test.YtlafcplcjpcikaaGreatDoorSpB
import Derived.Test.YtlafcplcjpcikaaGreatDoorFlB
/- judge: is it an object, behind the one ahead of it? -/
namespace Go.Proofs.YtlafcplcjpcikaaGreatDoor
open Go.RowKit Go.Proofs.Fld Go.Proofs.Rng Go.Proofs.Spc Go.Shelf Go.Sort

attribute [local go_sem] bs_toList

/-- What the walks lean on: the sentinels of rings, errors.errorType. -/
structure Ev (s : Sn) (w : World) : Prop where
  sent : Sent s w
  et : Fi.ErrT w
theorem Ev.more {s : Sn} {A B : World} (h : Ev s A) (k : Below A.heap.size A B) : Ev s B := ⟨h.sent.more k, h.et.more k⟩
theorem Ev.sp {s : Sn} {w : World} (h : Ev s w) : Sp.ErrT w := h.et
/-- An object of some bound. -/
structure Bd (o : Ob) : Prop where
  t : takes o.l ≤ 100000
  n : o.n.length ≤ 100000
  d : o.d.length ≤ 100000
theorem Bd.len {o : Ob} (h : Bd o) : o.l.length ≤ 1000000 := by have := items_le_takes o.l; have := h.t; omega

theorem isFile_ok {d : It} (h : d.length ≤ 1000) : Fil.errR (Fil.readR d 0 0) = 0 := by
  have e : Fil.readR d ((0 : Nat) : Int) ((0 : Nat) : Int) = some ((d.drop 0).take 0) := Fil.readR_of (Nat.zero_le _) h
  rw [show Fil.readR d 0 0 = _ from e]
  rfl
theorem isFile_no {d : It} (h : ¬ d.length ≤ 1000) : Fil.errR (Fil.readR d 0 0) = 90 := by
  have : Fil.readR d 0 0 = none := by
    unfold Fil.readR Fil.okAt
    rw [if_neg (fun q => h q.1.1)]
  rw [this]
  rfl
set_option maxHeartbeats 1000000 in
theorem isFile_any {s : Sn} (d : It) (w : World) (hs : Ev s w) : Calls Tryz.prog 102 #[.string (bs d)] w (BoolP (decide (d.length ≤ 1000)) w) := by
  by_cases h : d.length ≤ 1000
  · have HC := Lib.hid (Fi.Read_p (s := d) (o := 0) (n := 0) rfl rfl (isFile_ok h) hs.et)
    rw [decide_eq_true h]
    clear h hs
    go_enter Tryz.func102, Tryz.ntmps102
    go_wp2_with (go_at_call 104; refine HC.out.mono ?_)
    rintro e w1 ⟨rfl, hb1⟩
    have HB := Lib.hid hb1
    clear hb1
    go_wp2
    go_ret
    exact ⟨rfl, HB.out⟩
  · have HC := Lib.hid (Fi.Read_p (s := d) (o := 0) (n := 0) rfl rfl (isFile_no h) hs.et)
    rw [decide_eq_false h]
    clear h hs
    go_enter Tryz.func102, Tryz.ntmps102
    go_wp2_with (go_at_call 104; refine HC.out.mono ?_)
    rintro e w1 ⟨rfl, hb1⟩
    have HB := Lib.hid hb1
    clear hb1
    go_wp2
    go_ret
    exact ⟨rfl, HB.out⟩

theorem whole_1 {o : Ob} (h : o.k = 1) : wholeB o = (decide (o.d.length ≤ 1000) && sameR o.m o.l 0 []) := by
  unfold wholeB
  rw [if_pos h, Bool.and_assoc]
  congr 1
  unfold sameR sameT
  cases o.l with
  | nil => simp
  | cons a r => simp
theorem whole_2 {o : Ob} (h : o.k = 2) : wholeB o = (decide (o.d = []) && rightR o.m o.l) := by
  unfold wholeB
  rw [if_neg (by omega), h]
  cases hd : o.d with
  | nil => simp
  | cons a r => simp
theorem whole_3 {o : Ob} (h1 : o.k ≠ 1) (h2 : o.k ≠ 2) : wholeB o = false := by
  unfold wholeB
  rw [if_neg h1, decide_eq_false h2]
  rfl
set_option maxHeartbeats 2000000 in
theorem whole_any {s : Sn} (x : Ov) (hb : Bd x.o) (w : World) (hs : Ev s w) (hx : Lv w x) : Calls Tryz.prog 101 #[.agg #[.string (bs x.o.n), .int .i64 x.o.k, .string (bs x.o.d), .int .i64 x.o.m, .slice x.a x.o.l.length x.c]] w (BoolP (wholeB x.o) w) := by
  have hB := Below.new w (.cells #[.string (bs x.o.n), .int .i64 x.o.k, .string (bs x.o.d), .int .i64 x.o.m, .slice x.a x.o.l.length x.c] 51)
  have hO := ObAt.new w x 51
  have HL := Lib.hid (And.intro hB (And.intro (hx.more hB) (And.intro (hs.more hB) (And.intro hb.len (And.intro hb.t hO)))))
  clear hb hs hx hB hO
  by_cases h1 : x.o.k = 1
  · have HW := Lib.hid (whole_1 h1)
    have q1 : (x.o.k == 1) = true := by rw [beq_iff_eq]; exact h1
    clear h1
    cases hd : decide (x.o.d.length ≤ 1000) with
    | false =>
      have HD := Lib.hid hd
      clear hd
      go_enter Tryz.func101, Tryz.ntmps101
      go_wp2_with (go_at_call 102; refine (isFile_any x.o.d _ HL.out.2.2.1).mono ?_)
      rintro e w1 ⟨he, hb1⟩
      rw [HD.out] at he
      subst he
      have HB := Lib.hid (below_more HL.out.1 hb1)
      clear hb1
      go_wp2
      go_ret
      exact ⟨by rw [HW.out, HD.out]; rfl, HB.out⟩
    | true =>
      have HD := Lib.hid hd
      clear hd
      go_enter Tryz.func101, Tryz.ntmps101
      go_wp2_with (go_at_call 102; refine (isFile_any x.o.d _ HL.out.2.2.1).mono ?_)
      rintro e w1 ⟨he, hb1⟩
      rw [HD.out] at he
      subst he
      obtain ⟨x0, x1, x2, x3, x4⟩ := (HL.out.2.2.2.2.2.more hb1).var
      have HB := Lib.hid (And.intro (below_more HL.out.1 hb1) (HL.out.2.1.more hb1))
      clear hb1
      go_wp2_with (go_at_call 64; refine (Same_p (m1 := x.o.m) (m2 := 0) (l := x.o.l) (l' := []) HL.out.2.2.2.1 (by decide) rfl HB.out.2.t (Txs.nil _)).mono ?_)
      rintro e w2 ⟨rfl, hb2⟩
      have HB2 := Lib.hid (below_more HB.out.1 hb2)
      clear hb2
      go_wp2
      go_ret
      exact ⟨by rw [HW.out, HD.out]; rfl, HB2.out⟩
  · have q1 : (x.o.k == 1) = false := by rw [beq_eq_false_iff_ne]; exact h1
    by_cases h2 : x.o.k = 2
    · have HW := Lib.hid (whole_2 h2)
      have q2 : (x.o.k == 2) = true := by rw [beq_iff_eq]; exact h2
      by_cases hd : x.o.d = []
      · have HD := Lib.hid hd
        have q3 : (x.o.d == []) = true := by rw [beq_iff_eq]; exact hd
        have q4 : x.o.d.isEmpty = true := by rw [hd]; rfl
        clear hd h1 h2
        obtain ⟨x0, x1, x2, x3, x4⟩ := HL.out.2.2.2.2.2.var
        go_enter Tryz.func101, Tryz.ntmps101
        go_wp2_with (go_at_call 103; refine (Right_p (m := x.o.m) (zs := x.o.l) HL.out.2.2.2.1 (by have := HL.out.2.2.2.2.1; omega) rfl HL.out.2.1.t HL.out.2.2.1.sent).mono ?_)
        rintro e w2 ⟨rfl, hb2⟩
        have HB2 := Lib.hid (below_more HL.out.1 hb2)
        clear hb2
        go_wp2
        go_ret
        exact ⟨by rw [HW.out, decide_eq_true HD.out]; rfl, HB2.out⟩
      · have HD := Lib.hid hd
        have q3 : (x.o.d == []) = false := by rw [beq_eq_false_iff_ne]; exact hd
        have q4 : x.o.d.isEmpty = false := by cases e : x.o.d with
          | nil => exact absurd e hd
          | cons a r => rfl
        clear hd h1 h2
        go_enter Tryz.func101, Tryz.ntmps101
        go_wp2
        go_ret
        exact ⟨by rw [HW.out, decide_eq_false HD.out]; rfl, HL.out.1⟩
    · have HW := Lib.hid (whole_3 h1 h2)
      have q2 : (x.o.k == 2) = false := by rw [beq_eq_false_iff_ne]; exact h2
      clear h1 h2
      go_enter Tryz.func101, Tryz.ntmps101
      go_wp2
      go_ret
      exact ⟨by rw [HW.out]; rfl, HL.out.1⟩

/-- What judge tells. -/
def JdP (b : Bool) (w : World) (e : Ending) (w' : World) : Prop := ((b = true ∧ e = .returned .nilIface) ∨ (b = false ∧ ∃ s, e = .returned (Sp.flt 110 s))) ∧ Below w.heap.size w w'
set_option maxHeartbeats 2000000 in
theorem spJudge_any {s : Sn} (x : Ov) (hb : Bd x.o) (a : It) (w : World) (hs : Ev s w) (hx : Lv w x) : Calls Tryz.prog 98 #[.agg #[.string (bs x.o.n), .int .i64 x.o.k, .string (bs x.o.d), .int .i64 x.o.m, .slice x.a x.o.l.length x.c], .string (bs a)] w (JdP (nextB a x.o) w) := by
  have hB := Below.new w (.cells #[.string (bs x.o.n), .int .i64 x.o.k, .string (bs x.o.d), .int .i64 x.o.m, .slice x.a x.o.l.length x.c] 51)
  have hO := ObAt.new w x 51
  have HL := Lib.hid (And.intro hB (And.intro (hx.more hB) (And.intro (hs.more hB) (And.intro hb hO))))
  have HN := Lib.hid (show nextB a x.o = (nameB x.o.n && ltB a x.o.n && wholeB x.o) from rfl)
  have hle := leB_not x.o.n a
  have hle2 : (Op.bytesLess x.o.n a || x.o.n == a) = !ltB a x.o.n := hle
  clear hb hs hx hB hO hle
  cases h1 : nameB x.o.n with
  | false =>
    have H1 := Lib.hid h1
    clear h1
    go_enter Tryz.func98, Tryz.ntmps98
    go_wp2_with (go_at_call 100; refine (isName_any x.o.n HL.out.2.1.hn _).mono ?_)
    rintro e w1 ⟨he, hb1⟩
    rw [H1.out] at he
    subst he
    have HB := Lib.hid (below_more HL.out.1 hb1)
    clear hb1
    go_wp2
    go_ret
    exact ⟨.inr ⟨by rw [HN.out, H1.out]; rfl, _, rfl⟩, HB.out⟩
  | true =>
    have H1 := Lib.hid h1
    clear h1
    cases h2 : ltB a x.o.n with
    | false =>
      rw [h2] at hle2
      have H2 := Lib.hid h2
      clear h2
      go_enter Tryz.func98, Tryz.ntmps98
      go_wp2_with (go_at_call 100; refine (isName_any x.o.n HL.out.2.1.hn _).mono ?_)
      rintro e w1 ⟨he, hb1⟩
      rw [H1.out] at he
      subst he
      obtain ⟨x0, x1, x2, x3, x4⟩ := (HL.out.2.2.2.2.more hb1).var
      have HB := Lib.hid (below_more HL.out.1 hb1)
      clear hb1
      go_wp2
      go_ret
      exact ⟨.inr ⟨by rw [HN.out, H1.out, H2.out]; rfl, _, rfl⟩, HB.out⟩
    | true =>
      rw [h2] at hle2
      have H2 := Lib.hid h2
      clear h2
      go_enter Tryz.func98, Tryz.ntmps98
      go_wp2_with (go_at_call 100; refine (isName_any x.o.n HL.out.2.1.hn _).mono ?_)
      rintro e w1 ⟨he, hb1⟩
      rw [H1.out] at he
      subst he
      obtain ⟨x0, x1, x2, x3, x4⟩ := (HL.out.2.2.2.2.more hb1).var
      have HB := Lib.hid (And.intro (below_more HL.out.1 hb1) (And.intro (HL.out.2.1.more hb1) (HL.out.2.2.1.more hb1)))
      clear hb1
      go_wp2_with (go_at_call 101; refine (whole_any x HL.out.2.2.2.1 _ HB.out.2.2 HB.out.2.1).mono ?_)
      rintro e w2 ⟨he, hb2⟩
      have HB2 := Lib.hid (below_more HB.out.1 hb2)
      clear hb2
      cases h3 : wholeB x.o with
      | false =>
        rw [h3] at he
        subst he
        have H3 := Lib.hid h3
        clear h3
        go_wp2
        go_ret
        exact ⟨.inr ⟨by rw [HN.out, H1.out, H2.out, H3.out]; rfl, _, rfl⟩, HB2.out⟩
      | true =>
        rw [h3] at he
        subst he
        have H3 := Lib.hid h3
        clear h3
        go_wp2
        go_ret
        exact ⟨.inl ⟨by rw [HN.out, H1.out, H2.out, H3.out]; rfl, rfl⟩, HB2.out⟩

end Go.Proofs.YtlafcplcjpcikaaGreatDoor

/- A range over a function where the iterator writes cells of its own, and whoever ranges speaks of nothing that is made within: the law of SpRange, turned. -/
namespace Go.Proofs.YtlafcplcjpcikaaGreatDoor
open Go.RowKit Go.Shelf

/-- I speaks of what lies below n alone. -/
def AbB {β : Type} (n : Nat) (I : β → World → Prop) : Prop := ∀ s A B, I s A → Below n A B → I s B
/-- The iterator's contract, where whoever ranges speaks of nothing that is made within: H tells what is sure of a value behind those that have come; Kp what a round keeps that goes on. -/
def SeqB {α : Type} (H : List α → α → Prop) (n : Nat) (P : Program) (g : Nat) (lb : Array Value) (encs : α → Array Value) (Kp : World → World → Prop) (S Sp : List α → Prop) (w : World) : Prop :=
  ∀ (l : Nat) (J Jx : List α → World → Prop) (W : World), Below w.heap.size w W → w.heap.size + 2 ≤ W.heap.size → AbB W.heap.size J → AbB W.heap.size Jx →
    (∀ pre x W1, J pre W1 → H pre x → YieldAt Fence.wide (n - 1) P l (encs x) W1 fun e W' => (e = .returned (.bool true) ∧ J (pre ++ [x]) W' ∧ Kp W1 W' ∧ KeepsFrom (w.heap.size + 2) W1 W') ∨ (e = .returned (.bool false) ∧ Jx (pre ++ [x]) W' ∧ KeepsFrom (w.heap.size + 2) W1 W')) →
    J [] W → CallsIn Fence.wide n P g (#[.func (.yield l) #[] #[]] ++ lb) W fun e W' => (∃ v, e = .returned v) ∧ ((∃ xs, S xs ∧ J xs W') ∨ (∃ pre, Sp pre ∧ Jx pre W'))

section
variable {α : Type} {P : Program} {n : Nat} {g : Operand} {ps : Array Tmp} {assign body : Code} {Q : Exit → Act → World → Prop} {a : Act} {w : World}

set_option maxHeartbeats 2000000 in
theorem wpIn_rangeB (h1 : 1 ≤ n) {gf : Nat} {lb : Array Value} (hg : a.eval g = .func (.func gf) #[] lb) (eg : ∀ args w, (callFunc gf args).run P w = .ok (.enter gf args) w)
    {encs : α → Array Value} {H : List α → α → Prop} {Kp : World → World → Prop} {S Sp : List α → Prop} (hseq : SeqB H (n - 1) P gf lb encs Kp S Sp w) (hKt : ∀ {A B C : World}, Kp A B → Kp B C → Kp A C) (hKb : ∀ (W : World) (o o' : Obj), W.heap[w.heap.size + 1]? = some o → o.isCells = false → o.isWalk = false → Kp W (W.putObj (w.heap.size + 1) o')) (hps : ∀ x, (encs x).size = ps.size)
    (I : List α → World → Prop) (Ix : Code → List α → World → Prop) (hI : AbB w.heap.size I) (hIx : ∀ c, AbB w.heap.size (Ix c)) (h0 : I [] w) (Ax : α → Act → World → Prop) (hAx : ∀ x a', OwnFrom w.heap.size (fun (_ : Unit) W => Ax x a' W))
    (hassign : ∀ (l : Nat) (pre : List α) (x : α) (W : World) (K : Act → World → Prop), I pre W → H pre x → (∀ a' W', KeepsFrom w.heap.size W W' → Kp W W' → I pre W' → Ax x a' W' → K a' W') →
      assign.wpIn (Fence.wide.inRound l) (n - 1 - 1) P (Exit.then K (fun _ _ _ => False)) { tmps := (ps.zip (encs x)).foldl (fun t (p, v) => t.setIfInBounds p v) a.tmps, defers := [] } W)
    (hbody : ∀ (l : Nat) (pre : List α) (x : α) (a' : Act) (W : World), I pre W → H pre x → Ax x a' W → body.wpIn (Fence.wide.inRound l) (n - 1 - 1) P (ownPostG w.heap.size Kp I Ix (pre ++ [x]) W) a' W)
    (hdone : ∀ (D : Nat) (xs : List α) (W : World), w.heap.size ≤ D → S xs → I xs W → W.heap[D]? = some (.deferred (some [])) → Q .normal { a with defers := mkY D :: a.defers } W)
    (hstop : ∀ (D : Nat) (c : Code) (pre : List α) (W : World), w.heap.size ≤ D → Sp pre → Ix c pre W → W.heap[D]? = some (.deferred (some [])) → c.wpIn Fence.wide n P Q { a with defers := mkY D :: a.defers } W) :
    (Code.rangeFunc g ps assign body).wpIn Fence.wide n P Q a w := by
  refine wpIn_rangeFunc ?_
  intro fn hfn
  have hro : Fence.wide.round = none := rfl
  rw [hro]
  let L (st : LoopState) (pe : Option Code) : Obj := recY fn a.tmps ps assign body w.heap.size st pe
  obtain ⟨V, hV⟩ : ∃ V, (w.alloc (.deferred (some []))).alloc (L .ready none) = V := ⟨_, rfl⟩
  have vL : V.heap[w.heap.size + 1]? = some (L .ready none) := by
    have := World.alloc_heap_new (w.alloc (.deferred (some []))) (L .ready none)
    rw [World.size_alloc] at this
    rw [← hV]
    exact this
  have vD : V.heap[w.heap.size]? = some (.deferred (some [])) := by
    rw [← hV]
    exact (Below.heap_alloc _ _ _ (by simp)).trans (World.alloc_heap_new w _)
  have vB : Below w.heap.size w V := by
    rw [← hV]
    exact (Below.new w _).alloc (by simp) _
  have vZ : V.heap.size = w.heap.size + 2 := by
    rw [← hV, World.size_alloc, World.size_alloc]
  refine ⟨w.heap.size + 1, [mkY w.heap.size], V, { target := .fn (.func gf) lb, args := #[.func (.yield (w.heap.size + 1)) #[] #[]] }, V, gf, #[.func (.yield (w.heap.size + 1)) #[] #[]] ++ lb, V, ?_, ?_, ?_, ?_, fun _ => h1, ?_⟩
  · rw [← hV]
    exact run_enterLoop_outer _ _ _ _ _
  · simp only [resolve, hg]
    simp [go_sem]
  · intro _ _
    trivial
  · simp [invoke, go_sem, eg]
  have put : ∀ (A : World) (o' : Obj), Below w.heap.size A (A.putObj (w.heap.size + 1) o') := fun A o' => ⟨rfl, rfl, rfl, by simp, fun k hk => World.putObj_heap_other (by omega)⟩
  refine (hseq (w.heap.size + 1) (fun pre W => I pre W ∧ W.heap[w.heap.size + 1]? = some (L .ready none) ∧ W.heap[w.heap.size]? = some (.deferred (some [])))
    (fun pre W => ∃ c, Ix c pre W ∧ W.heap[w.heap.size + 1]? = some (L .done (some c)) ∧ W.heap[w.heap.size]? = some (.deferred (some []))) V vB (by omega)
    (fun s A B hs hb => ⟨hI s A B hs.1 (hb.mono (by omega)), (hb.block _ (by omega)).trans hs.2.1, (hb.block _ (by omega)).trans hs.2.2⟩)
    (fun s A B hs hb => by
      obtain ⟨c, hc, hl, hk⟩ := hs
      exact ⟨c, hIx c s A B hc (hb.mono (by omega)), (hb.block _ (by omega)).trans hl, (hb.block _ (by omega)).trans hk⟩)
    ?_ ⟨hI _ _ _ h0 vB, vL, vD⟩).mono ?_
  · rintro pre x W ⟨hi, hl, hd⟩ hH
    refine ⟨fn, _, assign, body, run_yield hl (hps x), roundIn_of_wpIn hfn (hassign _ pre x W _ hi hH ?_)⟩
    intro a' Wa hkfa hkpa hia hax
    have hla := hkfa.same _ _ (by omega) hl rfl
    have hda := hkfa.same _ _ (Nat.le_refl _) hd rfl
    have hlt := (Array.getElem?_eq_some_iff.1 hla).1
    refine ⟨_, run_beginRound hla rfl, ?_⟩
    have hl2 : (Wa.putObj (w.heap.size + 1) (L .busy none)).heap[w.heap.size + 1]? = some (L .busy none) := World.putObj_heap_same hlt
    have hd2 : (Wa.putObj (w.heap.size + 1) (L .busy none)).heap[w.heap.size]? = some (.deferred (some [])) := (World.putObj_heap_other (by omega)).trans hda
    have hk2 : Kp Wa (Wa.putObj (w.heap.size + 1) (L .busy none)) := hKb _ _ _ hla rfl rfl
    have hf2 : KeepsFrom (w.heap.size + 2) W (Wa.putObj (w.heap.size + 1) (L .busy none)) := (KeepsFrom.up hkfa (by omega)).trans (keepsFrom_put _ _ _ _ (by omega))
    refine wpIn_mono (hbody _ pre x a' _ (hI _ _ _ hia (put _ _)) hH ((hAx x a').putObj (s := ()) _ hax (by omega) hla rfl)) ?_
    rintro e a3 W3 hp
    cases e with
    | normal =>
      obtain ⟨hr, hl3, hl4, hk4⟩ := endY (P := P) (Nat.le_refl _) (Nat.lt_succ_self _) hl2 hd2 hp.1 none
      exact ⟨_, _, hr, .inl ⟨rfl, ⟨hI _ _ _ hp.2.2 (put _ _), hl4, hk4⟩, hKt hkpa (hKt (hKt hk2 hp.2.1) (hKb _ _ _ hl3 rfl rfl)), (hf2.trans (KeepsFrom.up hp.1 (by omega))).trans (keepsFrom_put _ _ _ _ (by omega))⟩⟩
    | ret =>
      obtain ⟨hr, hl3, hl4, hk4⟩ := endY (P := P) (Nat.le_refl _) (Nat.lt_succ_self _) hl2 hd2 hp.1 (some .ret)
      exact ⟨_, _, hr, .inr ⟨rfl, ⟨.ret, hIx _ _ _ _ hp.2 (put _ _), hl4, hk4⟩, (hf2.trans (KeepsFrom.up hp.1 (by omega))).trans (keepsFrom_put _ _ _ _ (by omega))⟩⟩
    | exit id =>
      obtain ⟨hr, hl3, hl4, hk4⟩ := endY (P := P) (Nat.le_refl _) (Nat.lt_succ_self _) hl2 hd2 hp.1 (some (.exit id))
      exact ⟨_, _, hr, .inr ⟨rfl, ⟨.exit id, hIx _ _ _ _ hp.2 (put _ _), hl4, hk4⟩, (hf2.trans (KeepsFrom.up hp.1 (by omega))).trans (keepsFrom_put _ _ _ _ (by omega))⟩⟩
    | goto t =>
      obtain ⟨hr, hl3, hl4, hk4⟩ := endY (P := P) (Nat.le_refl _) (Nat.lt_succ_self _) hl2 hd2 hp.1 (some (.goto t))
      exact ⟨_, _, hr, .inr ⟨rfl, ⟨.goto t, hIx _ _ _ _ hp.2 (put _ _), hl4, hk4⟩, (hf2.trans (KeepsFrom.up hp.1 (by omega))).trans (keepsFrom_put _ _ _ _ (by omega))⟩⟩
    | panic ch => exact hp.elim
    | outgrown => exact hp.elim
  · rintro e W2 ⟨⟨v, rfl⟩, (⟨xs, hS, hi, hl, hd⟩ | ⟨pre, hSp, c, hi, hl, hd⟩)⟩
    · exact ⟨none, _, run_endLoop hl (by simp), hdone _ xs _ (Nat.le_refl _) hS (hI _ _ _ hi (put _ _)) ((World.putObj_heap_other (by omega)).trans hd)⟩
    · exact ⟨some c, _, run_endLoop hl (by simp), hstop _ c pre _ (Nat.le_refl _) hSp (hIx c _ _ _ hi (put _ _)) ((World.putObj_heap_other (by omega)).trans hd)⟩
end

end Go.Proofs.YtlafcplcjpcikaaGreatDoor

/- The drawn region of judged's body: judge is asked, then yield. -/
namespace Go.Proofs.YtlafcplcjpcikaaGreatDoor
open Go.RowKit Go.Proofs.Fld Go.Proofs.Rng Go.Proofs.Spc Go.Shelf Go.Sort

attribute [local go_sem] Oper.semAt_some

/-- What judge tells, as a value. -/
def JudV (b : Bool) (v : Value) : Prop := (b = true ∧ v = .nilIface) ∨ (b = false ∧ ∃ s, v = Sp.flt 110 s)
def JvP (b : Bool) (w : World) (e : Ending) (w' : World) : Prop := ∃ v, e = .returned v ∧ JudV b v ∧ Below w.heap.size w w'
theorem spJudge_v {s : Sn} (x : Ov) (hb : Bd x.o) (a : It) (w : World) (hs : Ev s w) (hx : Lv w x) : Calls Tryz.prog 98 #[.agg #[.string (bs x.o.n), .int .i64 x.o.k, .string (bs x.o.d), .int .i64 x.o.m, .slice x.a x.o.l.length x.c], .string (bs a)] w (JvP (nextB a x.o) w) := by
  refine (spJudge_any x hb a w hs hx).mono ?_
  rintro e w' ⟨⟨h, rfl⟩ | ⟨h, s, rfl⟩, hb⟩
  · exact ⟨_, rfl, .inl ⟨h, rfl⟩, hb⟩
  · exact ⟨_, rfl, .inr ⟨h, s, rfl⟩, hb⟩

set_option maxRecDepth 100000 in
set_option maxHeartbeats 4000000 in
theorem jg_region {l l2 n m : Nat} (hn : 1 ≤ n) {s : Sn} {Q : Exit → Act → World → Prop} {V : World} {Y Z Bx : Nat} {x : Ov} {a : It} {u0 u1 u5 u6 u7 : Value} {R : World → Value → Ending → World → Prop}
    (c2 : V.cell? ⟨Y, 0, none⟩ = some (.func (.yield l) #[] #[])) (c3 : V.cell? ⟨Z, 0, none⟩ = some (.string (bs a))) (hx : ObAt V Bx 0 x) (hb : Bd x.o) (hl : Lv V x) (hs : Ev s V)
    (hY : ∀ w1 v, Below V.heap.size V w1 → JudV (nextB a x.o) v → YieldAt Fence.wide m Tryz.prog l #[ov x, v] w1 (R w1 v))
    (hR : ∀ w1 v e w3, Below V.heap.size V w1 → JudV (nextB a x.o) v → R w1 v e w3 → ∃ g, e = .returned (.bool g) ∧ Q .normal { tmps := #[u0, u1, .pointer (some ⟨Y, 0, none⟩), .pointer (some ⟨Z, 0, none⟩), .pointer (some ⟨Bx, 0, none⟩), u5, u6, u7, .func (.yield l) #[] #[], .agg #[.string (bs x.o.n), .int .i64 x.o.k, .string (bs x.o.d), .int .i64 x.o.m, .slice x.a x.o.l.length x.c], .agg #[.string (bs x.o.n), .int .i64 x.o.k, .string (bs x.o.d), .int .i64 x.o.m, .slice x.a x.o.l.length x.c],   .string (bs a), v, .bool g, .bool (!g), undef, undef], defers := [] } w3) :
    wpAnyIn (Fence.wide.inRound l2) n Tryz.prog .any #[{ dst := some 8, op := Go.Op.load 154 (Go.Operand.tmp 2), type := 154, pos := "space.go:111", after := #[], guard := none }, { dst := some 9, op := Go.Op.load 51 (Go.Operand.tmp 4), type := 51, pos := "space.go:111", after := #[], guard := none }, { dst := some 10, op := Go.Op.load 51 (Go.Operand.tmp 4), type := 51, pos := "space.go:111", after := #[], guard := none }, { dst := some 11, op := Go.Op.load 9 (Go.Operand.tmp 3), type := 9, pos := "space.go:111", after := #[], guard := none }, { dst := some 12, op := Go.Op.call { callee := Go.Callee.value (Go.Operand.func 98), args := #[Go.Operand.tmp 10, Go.Operand.tmp 11], argTypes := #[51, 9] }, type := 57, pos := "space.go:111", after := #[{ on := 2, ground := Go.Ground.data }, { on := 3, ground := Go.Ground.data }], guard := none }, { dst := some 13, op := Go.Op.call { callee := Go.Callee.value (Go.Operand.tmp 8), args := #[Go.Operand.tmp 9, Go.Operand.tmp 12], argTypes := #[51, 57] }, type := 4, pos := "space.go:111", after := #[{ on := 0, ground := Go.Ground.data }, { on := 1, ground := Go.Ground.data }, { on := 4, ground := Go.Ground.data }, { on := 4, ground := Go.Ground.chain }], guard := none }, { dst := some 14, op := Go.Op.unOp Go.UnOp.not 4 (Go.Operand.tmp 13), type := 4, pos := "space.go:111", after := #[{ on := 5, ground := Go.Ground.data }], guard := none }] Q 7 (Array.replicate 7 false) { tmps := #[u0, u1, .pointer (some ⟨Y, 0, none⟩), .pointer (some ⟨Z, 0, none⟩), .pointer (some ⟨Bx, 0, none⟩), u5, u6, u7, undef, undef, undef, undef, undef, undef, undef, undef, undef], defers := [] } V := by
  have HX := Lib.hid (And.intro c2 (And.intro c3 hx))
  have HC := Lib.hid (spJudge_v x hb a V hs hl)
  have FIN : ∀ (w1 : World) (v : Value) (L : Array Bool), Below V.heap.size V w1 → JudV (nextB a x.o) v → Region.ready .any #[{ dst := some 8, op := Go.Op.load 154 (Go.Operand.tmp 2), type := 154, pos := "space.go:111", after := #[], guard := none }, { dst := some 9, op := Go.Op.load 51 (Go.Operand.tmp 4), type := 51, pos := "space.go:111", after := #[], guard := none }, { dst := some 10, op := Go.Op.load 51 (Go.Operand.tmp 4), type := 51, pos := "space.go:111", after := #[], guard := none }, { dst := some 11, op := Go.Op.load 9 (Go.Operand.tmp 3), type := 9, pos := "space.go:111", after := #[], guard := none }, { dst := some 12, op := Go.Op.call { callee := Go.Callee.value (Go.Operand.func 98), args := #[Go.Operand.tmp 10, Go.Operand.tmp 11], argTypes := #[51, 9] }, type := 57, pos := "space.go:111", after := #[{ on := 2, ground := Go.Ground.data }, { on := 3, ground := Go.Ground.data }], guard := none }, { dst := some 13, op := Go.Op.call { callee := Go.Callee.value (Go.Operand.tmp 8), args := #[Go.Operand.tmp 9, Go.Operand.tmp 12], argTypes := #[51, 57] }, type := 4, pos := "space.go:111", after := #[{ on := 0, ground := Go.Ground.data }, { on := 1, ground := Go.Ground.data }, { on := 4, ground := Go.Ground.data }, { on := 4, ground := Go.Ground.chain }], guard := none }, { dst := some 14, op := Go.Op.unOp Go.UnOp.not 4 (Go.Operand.tmp 13), type := 4, pos := "space.go:111", after := #[{ on := 5, ground := Go.Ground.data }], guard := none }] L = [5] → Region.ready .any #[{ dst := some 8, op := Go.Op.load 154 (Go.Operand.tmp 2), type := 154, pos := "space.go:111", after := #[], guard := none }, { dst := some 9, op := Go.Op.load 51 (Go.Operand.tmp 4), type := 51, pos := "space.go:111", after := #[], guard := none }, { dst := some 10, op := Go.Op.load 51 (Go.Operand.tmp 4), type := 51, pos := "space.go:111", after := #[], guard := none }, { dst := some 11, op := Go.Op.load 9 (Go.Operand.tmp 3), type := 9, pos := "space.go:111", after := #[], guard := none }, { dst := some 12, op := Go.Op.call { callee := Go.Callee.value (Go.Operand.func 98), args := #[Go.Operand.tmp 10, Go.Operand.tmp 11], argTypes := #[51, 9] }, type := 57, pos := "space.go:111", after := #[{ on := 2, ground := Go.Ground.data }, { on := 3, ground := Go.Ground.data }], guard := none }, { dst := some 13, op := Go.Op.call { callee := Go.Callee.value (Go.Operand.tmp 8), args := #[Go.Operand.tmp 9, Go.Operand.tmp 12], argTypes := #[51, 57] }, type := 4, pos := "space.go:111", after := #[{ on := 0, ground := Go.Ground.data }, { on := 1, ground := Go.Ground.data }, { on := 4, ground := Go.Ground.data }, { on := 4, ground := Go.Ground.chain }], guard := none }, { dst := some 14, op := Go.Op.unOp Go.UnOp.not 4 (Go.Operand.tmp 13), type := 4, pos := "space.go:111", after := #[{ on := 5, ground := Go.Ground.data }], guard := none }] (L.setIfInBounds 5 true) = [6] → Region.ready .any #[{ dst := some 8, op := Go.Op.load 154 (Go.Operand.tmp 2), type := 154, pos := "space.go:111", after := #[], guard := none }, { dst := some 9, op := Go.Op.load 51 (Go.Operand.tmp 4), type := 51, pos := "space.go:111", after := #[], guard := none }, { dst := some 10, op := Go.Op.load 51 (Go.Operand.tmp 4), type := 51, pos := "space.go:111", after := #[], guard := none }, { dst := some 11, op := Go.Op.load 9 (Go.Operand.tmp 3), type := 9, pos := "space.go:111", after := #[], guard := none }, { dst := some 12, op := Go.Op.call { callee := Go.Callee.value (Go.Operand.func 98), args := #[Go.Operand.tmp 10, Go.Operand.tmp 11], argTypes := #[51, 9] }, type := 57, pos := "space.go:111", after := #[{ on := 2, ground := Go.Ground.data }, { on := 3, ground := Go.Ground.data }], guard := none }, { dst := some 13, op := Go.Op.call { callee := Go.Callee.value (Go.Operand.tmp 8), args := #[Go.Operand.tmp 9, Go.Operand.tmp 12], argTypes := #[51, 57] }, type := 4, pos := "space.go:111", after := #[{ on := 0, ground := Go.Ground.data }, { on := 1, ground := Go.Ground.data }, { on := 4, ground := Go.Ground.data }, { on := 4, ground := Go.Ground.chain }], guard := none }, { dst := some 14, op := Go.Op.unOp Go.UnOp.not 4 (Go.Operand.tmp 13), type := 4, pos := "space.go:111", after := #[{ on := 5, ground := Go.Ground.data }], guard := none }] ((L.setIfInBounds 5 true).setIfInBounds 6 true) = [] →
      wpAnyIn (Fence.wide.inRound l2) n Tryz.prog .any #[{ dst := some 8, op := Go.Op.load 154 (Go.Operand.tmp 2), type := 154, pos := "space.go:111", after := #[], guard := none }, { dst := some 9, op := Go.Op.load 51 (Go.Operand.tmp 4), type := 51, pos := "space.go:111", after := #[], guard := none }, { dst := some 10, op := Go.Op.load 51 (Go.Operand.tmp 4), type := 51, pos := "space.go:111", after := #[], guard := none }, { dst := some 11, op := Go.Op.load 9 (Go.Operand.tmp 3), type := 9, pos := "space.go:111", after := #[], guard := none }, { dst := some 12, op := Go.Op.call { callee := Go.Callee.value (Go.Operand.func 98), args := #[Go.Operand.tmp 10, Go.Operand.tmp 11], argTypes := #[51, 9] }, type := 57, pos := "space.go:111", after := #[{ on := 2, ground := Go.Ground.data }, { on := 3, ground := Go.Ground.data }], guard := none }, { dst := some 13, op := Go.Op.call { callee := Go.Callee.value (Go.Operand.tmp 8), args := #[Go.Operand.tmp 9, Go.Operand.tmp 12], argTypes := #[51, 57] }, type := 4, pos := "space.go:111", after := #[{ on := 0, ground := Go.Ground.data }, { on := 1, ground := Go.Ground.data }, { on := 4, ground := Go.Ground.data }, { on := 4, ground := Go.Ground.chain }], guard := none }, { dst := some 14, op := Go.Op.unOp Go.UnOp.not 4 (Go.Operand.tmp 13), type := 4, pos := "space.go:111", after := #[{ on := 5, ground := Go.Ground.data }], guard := none }] Q 2 L { tmps := #[u0, u1, .pointer (some ⟨Y, 0, none⟩), .pointer (some ⟨Z, 0, none⟩), .pointer (some ⟨Bx, 0, none⟩), u5, u6, u7, .func (.yield l) #[] #[], .agg #[.string (bs x.o.n), .int .i64 x.o.k, .string (bs x.o.d), .int .i64 x.o.m, .slice x.a x.o.l.length x.c], .agg #[.string (bs x.o.n), .int .i64 x.o.k, .string (bs x.o.d), .int .i64 x.o.m, .slice x.a x.o.l.length x.c], .string (bs a), v, undef, undef, undef, undef], defers := [] } w1 := by
    intro w1 v L hb1 hv r1 r2 r3
    obtain ⟨fn, tmps, assign, body, hy, hRn⟩ := hY w1 v hb1 hv
    have HR := Lib.hid (hR w1 v)
    have HV := Lib.hid (And.intro hb1 (And.intro hv (And.intro r2 r3)))
    simp only [ov] at hy
    clear hR hY HC HX hb1 hv r2 r3 c2 c3 hx hb hl hs
    refine wpAnyIn_ready (rs := [5]) r1 (by simp) ?_
    refine AllReadyIn.cons (o := { dst := some 13, op := Go.Op.call { callee := Go.Callee.value (Go.Operand.tmp 8), args := #[Go.Operand.tmp 9, Go.Operand.tmp 12], argTypes := #[51, 57] }, type := 4, pos := "space.go:111", after := #[{ on := 0, ground := Go.Ground.data }, { on := 1, ground := Go.Ground.data }, { on := 4, ground := Go.Ground.data }, { on := 4, ground := Go.Ground.chain }], guard := none }) rfl (fun K hK => ?_) AllReadyIn.nil
    have HK := Lib.hid hK
    clear hK r1
    go_simp
    refine RoundIn.mono (show RoundIn (Fence.wide.inRound l2) (n - 1) Tryz.prog l fn tmps assign body w1 (R w1 v) from ⟨hRn.1, fun c cs _ => hRn.2 c cs (room_wide _)⟩) ?_
    intro e w3 hr
    obtain ⟨g, rfl, hq⟩ := HR.out e w3 HV.out.1 HV.out.2.1 hr
    refine HK.out _ _ ?_
    try simp only [Act.put, List.setIfInBounds_toArray, List.set_cons_zero, List.set_cons_succ]
    refine wpAnyIn_ready (rs := [6]) HV.out.2.2.1 (by simp) ?_
    refine AllReadyIn.cons (o := { dst := some 14, op := Go.Op.unOp Go.UnOp.not 4 (Go.Operand.tmp 13), type := 4, pos := "space.go:111", after := #[{ on := 5, ground := Go.Ground.data }], guard := none }) rfl (fun K2 hK2 => ?_) AllReadyIn.nil
    have HK2 := Lib.hid hK2
    clear hK2 HK hy hRn hr
    go_simp
    refine HK2.out _ _ ?_
    try simp only [Act.put, List.setIfInBounds_toArray, List.set_cons_zero, List.set_cons_succ]
    refine wpAnyIn_done HV.out.2.2.2 ?_ _
    exact hq
  have HF := Lib.hid FIN
  clear FIN hY hR c2 c3 hx hb hl hs
  have G0 := HX.out.1
  have G1 := HX.out.2.1
  obtain ⟨G2, G3, G4, G5, G6⟩ := HX.out.2.2.var
  refine wpAnyIn_ready (rs := [0, 1, 2, 3]) (by kernel_rfl) (by simp) ?_
  refine AllReadyIn.cons (o := { dst := some 8, op := Go.Op.load 154 (Go.Operand.tmp 2), type := 154, pos := "space.go:111", after := #[], guard := none }) rfl (fun K hK => ?_) ?_
  · skip
    have HK := Lib.hid hK
    clear hK
    go_simp
    refine HK.out _ _ ?_
    clear HK
    try simp only [Act.put, List.setIfInBounds_toArray, List.set_cons_zero, List.set_cons_succ]
    refine wpAnyIn_ready (rs := [1, 2, 3]) (by kernel_rfl) (by simp) ?_
    refine AllReadyIn.cons (o := { dst := some 9, op := Go.Op.load 51 (Go.Operand.tmp 4), type := 51, pos := "space.go:111", after := #[], guard := none }) rfl (fun K hK => ?_) ?_
    · skip
      have HK := Lib.hid hK
      clear hK
      go_simp
      refine HK.out _ _ ?_
      clear HK
      try simp only [Act.put, List.setIfInBounds_toArray, List.set_cons_zero, List.set_cons_succ]
      refine wpAnyIn_ready (rs := [2, 3]) (by kernel_rfl) (by simp) ?_
      refine AllReadyIn.cons (o := { dst := some 10, op := Go.Op.load 51 (Go.Operand.tmp 4), type := 51, pos := "space.go:111", after := #[], guard := none }) rfl (fun K hK => ?_) ?_
      · skip
        have HK := Lib.hid hK
        clear hK
        go_simp
        refine HK.out _ _ ?_
        clear HK
        try simp only [Act.put, List.setIfInBounds_toArray, List.set_cons_zero, List.set_cons_succ]
        refine wpAnyIn_ready (rs := [3]) (by kernel_rfl) (by simp) ?_
        refine AllReadyIn.cons (o := { dst := some 11, op := Go.Op.load 9 (Go.Operand.tmp 3), type := 9, pos := "space.go:111", after := #[], guard := none }) rfl (fun K hK => ?_) AllReadyIn.nil
        have HK := Lib.hid hK
        clear hK
        go_simp
        refine HK.out _ _ ?_
        clear HK
        try simp only [Act.put, List.setIfInBounds_toArray, List.set_cons_zero, List.set_cons_succ]
        refine wpAnyIn_ready (rs := [4]) (by kernel_rfl) (by simp) ?_
        refine AllReadyIn.cons (o := { dst := some 12, op := Go.Op.call { callee := Go.Callee.value (Go.Operand.func 98), args := #[Go.Operand.tmp 10, Go.Operand.tmp 11], argTypes := #[51, 9] }, type := 57, pos := "space.go:111", after := #[{ on := 2, ground := Go.Ground.data }, { on := 3, ground := Go.Ground.data }], guard := none }) rfl (fun K hK => ?_) AllReadyIn.nil
        have HK := Lib.hid hK
        clear hK
        go_simp
        refine ⟨trivial, ?_⟩
        refine (CallsIn.inRound l2 (callsIn_wide.2 HC.out)).mono ?_
        rintro e w1 ⟨v, rfl, hv, hb1⟩
        refine HK.out _ _ ?_
        have HJ := Lib.hid (And.intro hv hb1)
        obtain ⟨G2, G3, G4, G5, G6⟩ := (HX.out.2.2.more hb1).var
        have G0 := cell_later hb1 HX.out.1
        clear HK hv hb1 G1
        try simp only [Act.put, List.setIfInBounds_toArray, List.set_cons_zero, List.set_cons_succ]
        exact HF.out _ _ _ HJ.out.2 HJ.out.1 (by kernel_rfl) (by kernel_rfl) (by kernel_rfl)
      refine AllReadyIn.cons (o := { dst := some 11, op := Go.Op.load 9 (Go.Operand.tmp 3), type := 9, pos := "space.go:111", after := #[], guard := none }) rfl (fun K hK => ?_) AllReadyIn.nil
      have HK := Lib.hid hK
      clear hK
      go_simp
      refine HK.out _ _ ?_
      clear HK
      try simp only [Act.put, List.setIfInBounds_toArray, List.set_cons_zero, List.set_cons_succ]
      refine wpAnyIn_ready (rs := [2]) (by kernel_rfl) (by simp) ?_
      refine AllReadyIn.cons (o := { dst := some 10, op := Go.Op.load 51 (Go.Operand.tmp 4), type := 51, pos := "space.go:111", after := #[], guard := none }) rfl (fun K hK => ?_) AllReadyIn.nil
      have HK := Lib.hid hK
      clear hK
      go_simp
      refine HK.out _ _ ?_
      clear HK
      try simp only [Act.put, List.setIfInBounds_toArray, List.set_cons_zero, List.set_cons_succ]
      refine wpAnyIn_ready (rs := [4]) (by kernel_rfl) (by simp) ?_
      refine AllReadyIn.cons (o := { dst := some 12, op := Go.Op.call { callee := Go.Callee.value (Go.Operand.func 98), args := #[Go.Operand.tmp 10, Go.Operand.tmp 11], argTypes := #[51, 9] }, type := 57, pos := "space.go:111", after := #[{ on := 2, ground := Go.Ground.data }, { on := 3, ground := Go.Ground.data }], guard := none }) rfl (fun K hK => ?_) AllReadyIn.nil
      have HK := Lib.hid hK
      clear hK
      go_simp
      refine ⟨trivial, ?_⟩
      refine (CallsIn.inRound l2 (callsIn_wide.2 HC.out)).mono ?_
      rintro e w1 ⟨v, rfl, hv, hb1⟩
      refine HK.out _ _ ?_
      have HJ := Lib.hid (And.intro hv hb1)
      obtain ⟨G2, G3, G4, G5, G6⟩ := (HX.out.2.2.more hb1).var
      have G0 := cell_later hb1 HX.out.1
      clear HK hv hb1 G1
      try simp only [Act.put, List.setIfInBounds_toArray, List.set_cons_zero, List.set_cons_succ]
      exact HF.out _ _ _ HJ.out.2 HJ.out.1 (by kernel_rfl) (by kernel_rfl) (by kernel_rfl)
    refine AllReadyIn.cons (o := { dst := some 10, op := Go.Op.load 51 (Go.Operand.tmp 4), type := 51, pos := "space.go:111", after := #[], guard := none }) rfl (fun K hK => ?_) ?_
    · skip
      have HK := Lib.hid hK
      clear hK
      go_simp
      refine HK.out _ _ ?_
      clear HK
      try simp only [Act.put, List.setIfInBounds_toArray, List.set_cons_zero, List.set_cons_succ]
      refine wpAnyIn_ready (rs := [1, 3]) (by kernel_rfl) (by simp) ?_
      refine AllReadyIn.cons (o := { dst := some 9, op := Go.Op.load 51 (Go.Operand.tmp 4), type := 51, pos := "space.go:111", after := #[], guard := none }) rfl (fun K hK => ?_) ?_
      · skip
        have HK := Lib.hid hK
        clear hK
        go_simp
        refine HK.out _ _ ?_
        clear HK
        try simp only [Act.put, List.setIfInBounds_toArray, List.set_cons_zero, List.set_cons_succ]
        refine wpAnyIn_ready (rs := [3]) (by kernel_rfl) (by simp) ?_
        refine AllReadyIn.cons (o := { dst := some 11, op := Go.Op.load 9 (Go.Operand.tmp 3), type := 9, pos := "space.go:111", after := #[], guard := none }) rfl (fun K hK => ?_) AllReadyIn.nil
        have HK := Lib.hid hK
        clear hK
        go_simp
        refine HK.out _ _ ?_
        clear HK
        try simp only [Act.put, List.setIfInBounds_toArray, List.set_cons_zero, List.set_cons_succ]
        refine wpAnyIn_ready (rs := [4]) (by kernel_rfl) (by simp) ?_
        refine AllReadyIn.cons (o := { dst := some 12, op := Go.Op.call { callee := Go.Callee.value (Go.Operand.func 98), args := #[Go.Operand.tmp 10, Go.Operand.tmp 11], argTypes := #[51, 9] }, type := 57, pos := "space.go:111", after := #[{ on := 2, ground := Go.Ground.data }, { on := 3, ground := Go.Ground.data }], guard := none }) rfl (fun K hK => ?_) AllReadyIn.nil
        have HK := Lib.hid hK
        clear hK
        go_simp
        refine ⟨trivial, ?_⟩
        refine (CallsIn.inRound l2 (callsIn_wide.2 HC.out)).mono ?_
        rintro e w1 ⟨v, rfl, hv, hb1⟩
        refine HK.out _ _ ?_
        have HJ := Lib.hid (And.intro hv hb1)
        obtain ⟨G2, G3, G4, G5, G6⟩ := (HX.out.2.2.more hb1).var
        have G0 := cell_later hb1 HX.out.1
        clear HK hv hb1 G1
        try simp only [Act.put, List.setIfInBounds_toArray, List.set_cons_zero, List.set_cons_succ]
        exact HF.out _ _ _ HJ.out.2 HJ.out.1 (by kernel_rfl) (by kernel_rfl) (by kernel_rfl)
      refine AllReadyIn.cons (o := { dst := some 11, op := Go.Op.load 9 (Go.Operand.tmp 3), type := 9, pos := "space.go:111", after := #[], guard := none }) rfl (fun K hK => ?_) AllReadyIn.nil
      have HK := Lib.hid hK
      clear hK
      go_simp
      refine HK.out _ _ ?_
      clear HK
      try simp only [Act.put, List.setIfInBounds_toArray, List.set_cons_zero, List.set_cons_succ]
      refine wpAnyIn_ready (rs := [1, 4]) (by kernel_rfl) (by simp) ?_
      refine AllReadyIn.cons (o := { dst := some 9, op := Go.Op.load 51 (Go.Operand.tmp 4), type := 51, pos := "space.go:111", after := #[], guard := none }) rfl (fun K hK => ?_) ?_
      · skip
        have HK := Lib.hid hK
        clear hK
        go_simp
        refine HK.out _ _ ?_
        clear HK
        try simp only [Act.put, List.setIfInBounds_toArray, List.set_cons_zero, List.set_cons_succ]
        refine wpAnyIn_ready (rs := [4]) (by kernel_rfl) (by simp) ?_
        refine AllReadyIn.cons (o := { dst := some 12, op := Go.Op.call { callee := Go.Callee.value (Go.Operand.func 98), args := #[Go.Operand.tmp 10, Go.Operand.tmp 11], argTypes := #[51, 9] }, type := 57, pos := "space.go:111", after := #[{ on := 2, ground := Go.Ground.data }, { on := 3, ground := Go.Ground.data }], guard := none }) rfl (fun K hK => ?_) AllReadyIn.nil
        have HK := Lib.hid hK
        clear hK
        go_simp
        refine ⟨trivial, ?_⟩
        refine (CallsIn.inRound l2 (callsIn_wide.2 HC.out)).mono ?_
        rintro e w1 ⟨v, rfl, hv, hb1⟩
        refine HK.out _ _ ?_
        have HJ := Lib.hid (And.intro hv hb1)
        obtain ⟨G2, G3, G4, G5, G6⟩ := (HX.out.2.2.more hb1).var
        have G0 := cell_later hb1 HX.out.1
        clear HK hv hb1 G1
        try simp only [Act.put, List.setIfInBounds_toArray, List.set_cons_zero, List.set_cons_succ]
        exact HF.out _ _ _ HJ.out.2 HJ.out.1 (by kernel_rfl) (by kernel_rfl) (by kernel_rfl)
      refine AllReadyIn.cons (o := { dst := some 12, op := Go.Op.call { callee := Go.Callee.value (Go.Operand.func 98), args := #[Go.Operand.tmp 10, Go.Operand.tmp 11], argTypes := #[51, 9] }, type := 57, pos := "space.go:111", after := #[{ on := 2, ground := Go.Ground.data }, { on := 3, ground := Go.Ground.data }], guard := none }) rfl (fun K hK => ?_) AllReadyIn.nil
      have HK := Lib.hid hK
      clear hK
      go_simp
      refine ⟨trivial, ?_⟩
      refine (CallsIn.inRound l2 (callsIn_wide.2 HC.out)).mono ?_
      rintro e w1 ⟨v, rfl, hv, hb1⟩
      refine HK.out _ _ ?_
      have HJ := Lib.hid (And.intro hv hb1)
      obtain ⟨G2, G3, G4, G5, G6⟩ := (HX.out.2.2.more hb1).var
      have G0 := cell_later hb1 HX.out.1
      clear HK hv hb1 G1
      try simp only [Act.put, List.setIfInBounds_toArray, List.set_cons_zero, List.set_cons_succ]
      refine wpAnyIn_ready (rs := [1]) (by kernel_rfl) (by simp) ?_
      refine AllReadyIn.cons (o := { dst := some 9, op := Go.Op.load 51 (Go.Operand.tmp 4), type := 51, pos := "space.go:111", after := #[], guard := none }) rfl (fun K hK => ?_) AllReadyIn.nil
      have HK := Lib.hid hK
      clear hK
      go_simp
      refine HK.out _ _ ?_
      clear HK
      try simp only [Act.put, List.setIfInBounds_toArray, List.set_cons_zero, List.set_cons_succ]
      exact HF.out _ _ _ HJ.out.2 HJ.out.1 (by kernel_rfl) (by kernel_rfl) (by kernel_rfl)
    refine AllReadyIn.cons (o := { dst := some 11, op := Go.Op.load 9 (Go.Operand.tmp 3), type := 9, pos := "space.go:111", after := #[], guard := none }) rfl (fun K hK => ?_) AllReadyIn.nil
    have HK := Lib.hid hK
    clear hK
    go_simp
    refine HK.out _ _ ?_
    clear HK
    try simp only [Act.put, List.setIfInBounds_toArray, List.set_cons_zero, List.set_cons_succ]
    refine wpAnyIn_ready (rs := [1, 2]) (by kernel_rfl) (by simp) ?_
    refine AllReadyIn.cons (o := { dst := some 9, op := Go.Op.load 51 (Go.Operand.tmp 4), type := 51, pos := "space.go:111", after := #[], guard := none }) rfl (fun K hK => ?_) ?_
    · skip
      have HK := Lib.hid hK
      clear hK
      go_simp
      refine HK.out _ _ ?_
      clear HK
      try simp only [Act.put, List.setIfInBounds_toArray, List.set_cons_zero, List.set_cons_succ]
      refine wpAnyIn_ready (rs := [2]) (by kernel_rfl) (by simp) ?_
      refine AllReadyIn.cons (o := { dst := some 10, op := Go.Op.load 51 (Go.Operand.tmp 4), type := 51, pos := "space.go:111", after := #[], guard := none }) rfl (fun K hK => ?_) AllReadyIn.nil
      have HK := Lib.hid hK
      clear hK
      go_simp
      refine HK.out _ _ ?_
      clear HK
      try simp only [Act.put, List.setIfInBounds_toArray, List.set_cons_zero, List.set_cons_succ]
      refine wpAnyIn_ready (rs := [4]) (by kernel_rfl) (by simp) ?_
      refine AllReadyIn.cons (o := { dst := some 12, op := Go.Op.call { callee := Go.Callee.value (Go.Operand.func 98), args := #[Go.Operand.tmp 10, Go.Operand.tmp 11], argTypes := #[51, 9] }, type := 57, pos := "space.go:111", after := #[{ on := 2, ground := Go.Ground.data }, { on := 3, ground := Go.Ground.data }], guard := none }) rfl (fun K hK => ?_) AllReadyIn.nil
      have HK := Lib.hid hK
      clear hK
      go_simp
      refine ⟨trivial, ?_⟩
      refine (CallsIn.inRound l2 (callsIn_wide.2 HC.out)).mono ?_
      rintro e w1 ⟨v, rfl, hv, hb1⟩
      refine HK.out _ _ ?_
      have HJ := Lib.hid (And.intro hv hb1)
      obtain ⟨G2, G3, G4, G5, G6⟩ := (HX.out.2.2.more hb1).var
      have G0 := cell_later hb1 HX.out.1
      clear HK hv hb1 G1
      try simp only [Act.put, List.setIfInBounds_toArray, List.set_cons_zero, List.set_cons_succ]
      exact HF.out _ _ _ HJ.out.2 HJ.out.1 (by kernel_rfl) (by kernel_rfl) (by kernel_rfl)
    refine AllReadyIn.cons (o := { dst := some 10, op := Go.Op.load 51 (Go.Operand.tmp 4), type := 51, pos := "space.go:111", after := #[], guard := none }) rfl (fun K hK => ?_) AllReadyIn.nil
    have HK := Lib.hid hK
    clear hK
    go_simp
    refine HK.out _ _ ?_
    clear HK
    try simp only [Act.put, List.setIfInBounds_toArray, List.set_cons_zero, List.set_cons_succ]
    refine wpAnyIn_ready (rs := [1, 4]) (by kernel_rfl) (by simp) ?_
    refine AllReadyIn.cons (o := { dst := some 9, op := Go.Op.load 51 (Go.Operand.tmp 4), type := 51, pos := "space.go:111", after := #[], guard := none }) rfl (fun K hK => ?_) ?_
    · skip
      have HK := Lib.hid hK
      clear hK
      go_simp
      refine HK.out _ _ ?_
      clear HK
      try simp only [Act.put, List.setIfInBounds_toArray, List.set_cons_zero, List.set_cons_succ]
      refine wpAnyIn_ready (rs := [4]) (by kernel_rfl) (by simp) ?_
      refine AllReadyIn.cons (o := { dst := some 12, op := Go.Op.call { callee := Go.Callee.value (Go.Operand.func 98), args := #[Go.Operand.tmp 10, Go.Operand.tmp 11], argTypes := #[51, 9] }, type := 57, pos := "space.go:111", after := #[{ on := 2, ground := Go.Ground.data }, { on := 3, ground := Go.Ground.data }], guard := none }) rfl (fun K hK => ?_) AllReadyIn.nil
      have HK := Lib.hid hK
      clear hK
      go_simp
      refine ⟨trivial, ?_⟩
      refine (CallsIn.inRound l2 (callsIn_wide.2 HC.out)).mono ?_
      rintro e w1 ⟨v, rfl, hv, hb1⟩
      refine HK.out _ _ ?_
      have HJ := Lib.hid (And.intro hv hb1)
      obtain ⟨G2, G3, G4, G5, G6⟩ := (HX.out.2.2.more hb1).var
      have G0 := cell_later hb1 HX.out.1
      clear HK hv hb1 G1
      try simp only [Act.put, List.setIfInBounds_toArray, List.set_cons_zero, List.set_cons_succ]
      exact HF.out _ _ _ HJ.out.2 HJ.out.1 (by kernel_rfl) (by kernel_rfl) (by kernel_rfl)
    refine AllReadyIn.cons (o := { dst := some 12, op := Go.Op.call { callee := Go.Callee.value (Go.Operand.func 98), args := #[Go.Operand.tmp 10, Go.Operand.tmp 11], argTypes := #[51, 9] }, type := 57, pos := "space.go:111", after := #[{ on := 2, ground := Go.Ground.data }, { on := 3, ground := Go.Ground.data }], guard := none }) rfl (fun K hK => ?_) AllReadyIn.nil
    have HK := Lib.hid hK
    clear hK
    go_simp
    refine ⟨trivial, ?_⟩
    refine (CallsIn.inRound l2 (callsIn_wide.2 HC.out)).mono ?_
    rintro e w1 ⟨v, rfl, hv, hb1⟩
    refine HK.out _ _ ?_
    have HJ := Lib.hid (And.intro hv hb1)
    obtain ⟨G2, G3, G4, G5, G6⟩ := (HX.out.2.2.more hb1).var
    have G0 := cell_later hb1 HX.out.1
    clear HK hv hb1 G1
    try simp only [Act.put, List.setIfInBounds_toArray, List.set_cons_zero, List.set_cons_succ]
    refine wpAnyIn_ready (rs := [1]) (by kernel_rfl) (by simp) ?_
    refine AllReadyIn.cons (o := { dst := some 9, op := Go.Op.load 51 (Go.Operand.tmp 4), type := 51, pos := "space.go:111", after := #[], guard := none }) rfl (fun K hK => ?_) AllReadyIn.nil
    have HK := Lib.hid hK
    clear hK
    go_simp
    refine HK.out _ _ ?_
    clear HK
    try simp only [Act.put, List.setIfInBounds_toArray, List.set_cons_zero, List.set_cons_succ]
    exact HF.out _ _ _ HJ.out.2 HJ.out.1 (by kernel_rfl) (by kernel_rfl) (by kernel_rfl)
  refine AllReadyIn.cons (o := { dst := some 9, op := Go.Op.load 51 (Go.Operand.tmp 4), type := 51, pos := "space.go:111", after := #[], guard := none }) rfl (fun K hK => ?_) ?_
  · skip
    have HK := Lib.hid hK
    clear hK
    go_simp
    refine HK.out _ _ ?_
    clear HK
    try simp only [Act.put, List.setIfInBounds_toArray, List.set_cons_zero, List.set_cons_succ]
    refine wpAnyIn_ready (rs := [0, 2, 3]) (by kernel_rfl) (by simp) ?_
    refine AllReadyIn.cons (o := { dst := some 8, op := Go.Op.load 154 (Go.Operand.tmp 2), type := 154, pos := "space.go:111", after := #[], guard := none }) rfl (fun K hK => ?_) ?_
    · skip
      have HK := Lib.hid hK
      clear hK
      go_simp
      refine HK.out _ _ ?_
      clear HK
      try simp only [Act.put, List.setIfInBounds_toArray, List.set_cons_zero, List.set_cons_succ]
      refine wpAnyIn_ready (rs := [2, 3]) (by kernel_rfl) (by simp) ?_
      refine AllReadyIn.cons (o := { dst := some 10, op := Go.Op.load 51 (Go.Operand.tmp 4), type := 51, pos := "space.go:111", after := #[], guard := none }) rfl (fun K hK => ?_) ?_
      · skip
        have HK := Lib.hid hK
        clear hK
        go_simp
        refine HK.out _ _ ?_
        clear HK
        try simp only [Act.put, List.setIfInBounds_toArray, List.set_cons_zero, List.set_cons_succ]
        refine wpAnyIn_ready (rs := [3]) (by kernel_rfl) (by simp) ?_
        refine AllReadyIn.cons (o := { dst := some 11, op := Go.Op.load 9 (Go.Operand.tmp 3), type := 9, pos := "space.go:111", after := #[], guard := none }) rfl (fun K hK => ?_) AllReadyIn.nil
        have HK := Lib.hid hK
        clear hK
        go_simp
        refine HK.out _ _ ?_
        clear HK
        try simp only [Act.put, List.setIfInBounds_toArray, List.set_cons_zero, List.set_cons_succ]
        refine wpAnyIn_ready (rs := [4]) (by kernel_rfl) (by simp) ?_
        refine AllReadyIn.cons (o := { dst := some 12, op := Go.Op.call { callee := Go.Callee.value (Go.Operand.func 98), args := #[Go.Operand.tmp 10, Go.Operand.tmp 11], argTypes := #[51, 9] }, type := 57, pos := "space.go:111", after := #[{ on := 2, ground := Go.Ground.data }, { on := 3, ground := Go.Ground.data }], guard := none }) rfl (fun K hK => ?_) AllReadyIn.nil
        have HK := Lib.hid hK
        clear hK
        go_simp
        refine ⟨trivial, ?_⟩
        refine (CallsIn.inRound l2 (callsIn_wide.2 HC.out)).mono ?_
        rintro e w1 ⟨v, rfl, hv, hb1⟩
        refine HK.out _ _ ?_
        have HJ := Lib.hid (And.intro hv hb1)
        obtain ⟨G2, G3, G4, G5, G6⟩ := (HX.out.2.2.more hb1).var
        have G0 := cell_later hb1 HX.out.1
        clear HK hv hb1 G1
        try simp only [Act.put, List.setIfInBounds_toArray, List.set_cons_zero, List.set_cons_succ]
        exact HF.out _ _ _ HJ.out.2 HJ.out.1 (by kernel_rfl) (by kernel_rfl) (by kernel_rfl)
      refine AllReadyIn.cons (o := { dst := some 11, op := Go.Op.load 9 (Go.Operand.tmp 3), type := 9, pos := "space.go:111", after := #[], guard := none }) rfl (fun K hK => ?_) AllReadyIn.nil
      have HK := Lib.hid hK
      clear hK
      go_simp
      refine HK.out _ _ ?_
      clear HK
      try simp only [Act.put, List.setIfInBounds_toArray, List.set_cons_zero, List.set_cons_succ]
      refine wpAnyIn_ready (rs := [2]) (by kernel_rfl) (by simp) ?_
      refine AllReadyIn.cons (o := { dst := some 10, op := Go.Op.load 51 (Go.Operand.tmp 4), type := 51, pos := "space.go:111", after := #[], guard := none }) rfl (fun K hK => ?_) AllReadyIn.nil
      have HK := Lib.hid hK
      clear hK
      go_simp
      refine HK.out _ _ ?_
      clear HK
      try simp only [Act.put, List.setIfInBounds_toArray, List.set_cons_zero, List.set_cons_succ]
      refine wpAnyIn_ready (rs := [4]) (by kernel_rfl) (by simp) ?_
      refine AllReadyIn.cons (o := { dst := some 12, op := Go.Op.call { callee := Go.Callee.value (Go.Operand.func 98), args := #[Go.Operand.tmp 10, Go.Operand.tmp 11], argTypes := #[51, 9] }, type := 57, pos := "space.go:111", after := #[{ on := 2, ground := Go.Ground.data }, { on := 3, ground := Go.Ground.data }], guard := none }) rfl (fun K hK => ?_) AllReadyIn.nil
      have HK := Lib.hid hK
      clear hK
      go_simp
      refine ⟨trivial, ?_⟩
      refine (CallsIn.inRound l2 (callsIn_wide.2 HC.out)).mono ?_
      rintro e w1 ⟨v, rfl, hv, hb1⟩
      refine HK.out _ _ ?_
      have HJ := Lib.hid (And.intro hv hb1)
      obtain ⟨G2, G3, G4, G5, G6⟩ := (HX.out.2.2.more hb1).var
      have G0 := cell_later hb1 HX.out.1
      clear HK hv hb1 G1
      try simp only [Act.put, List.setIfInBounds_toArray, List.set_cons_zero, List.set_cons_succ]
      exact HF.out _ _ _ HJ.out.2 HJ.out.1 (by kernel_rfl) (by kernel_rfl) (by kernel_rfl)
    refine AllReadyIn.cons (o := { dst := some 10, op := Go.Op.load 51 (Go.Operand.tmp 4), type := 51, pos := "space.go:111", after := #[], guard := none }) rfl (fun K hK => ?_) ?_
    · skip
      have HK := Lib.hid hK
      clear hK
      go_simp
      refine HK.out _ _ ?_
      clear HK
      try simp only [Act.put, List.setIfInBounds_toArray, List.set_cons_zero, List.set_cons_succ]
      refine wpAnyIn_ready (rs := [0, 3]) (by kernel_rfl) (by simp) ?_
      refine AllReadyIn.cons (o := { dst := some 8, op := Go.Op.load 154 (Go.Operand.tmp 2), type := 154, pos := "space.go:111", after := #[], guard := none }) rfl (fun K hK => ?_) ?_
      · skip
        have HK := Lib.hid hK
        clear hK
        go_simp
        refine HK.out _ _ ?_
        clear HK
        try simp only [Act.put, List.setIfInBounds_toArray, List.set_cons_zero, List.set_cons_succ]
        refine wpAnyIn_ready (rs := [3]) (by kernel_rfl) (by simp) ?_
        refine AllReadyIn.cons (o := { dst := some 11, op := Go.Op.load 9 (Go.Operand.tmp 3), type := 9, pos := "space.go:111", after := #[], guard := none }) rfl (fun K hK => ?_) AllReadyIn.nil
        have HK := Lib.hid hK
        clear hK
        go_simp
        refine HK.out _ _ ?_
        clear HK
        try simp only [Act.put, List.setIfInBounds_toArray, List.set_cons_zero, List.set_cons_succ]
        refine wpAnyIn_ready (rs := [4]) (by kernel_rfl) (by simp) ?_
        refine AllReadyIn.cons (o := { dst := some 12, op := Go.Op.call { callee := Go.Callee.value (Go.Operand.func 98), args := #[Go.Operand.tmp 10, Go.Operand.tmp 11], argTypes := #[51, 9] }, type := 57, pos := "space.go:111", after := #[{ on := 2, ground := Go.Ground.data }, { on := 3, ground := Go.Ground.data }], guard := none }) rfl (fun K hK => ?_) AllReadyIn.nil
        have HK := Lib.hid hK
        clear hK
        go_simp
        refine ⟨trivial, ?_⟩
        refine (CallsIn.inRound l2 (callsIn_wide.2 HC.out)).mono ?_
        rintro e w1 ⟨v, rfl, hv, hb1⟩
        refine HK.out _ _ ?_
        have HJ := Lib.hid (And.intro hv hb1)
        obtain ⟨G2, G3, G4, G5, G6⟩ := (HX.out.2.2.more hb1).var
        have G0 := cell_later hb1 HX.out.1
        clear HK hv hb1 G1
        try simp only [Act.put, List.setIfInBounds_toArray, List.set_cons_zero, List.set_cons_succ]
        exact HF.out _ _ _ HJ.out.2 HJ.out.1 (by kernel_rfl) (by kernel_rfl) (by kernel_rfl)
      refine AllReadyIn.cons (o := { dst := some 11, op := Go.Op.load 9 (Go.Operand.tmp 3), type := 9, pos := "space.go:111", after := #[], guard := none }) rfl (fun K hK => ?_) AllReadyIn.nil
      have HK := Lib.hid hK
      clear hK
      go_simp
      refine HK.out _ _ ?_
      clear HK
      try simp only [Act.put, List.setIfInBounds_toArray, List.set_cons_zero, List.set_cons_succ]
      refine wpAnyIn_ready (rs := [0, 4]) (by kernel_rfl) (by simp) ?_
      refine AllReadyIn.cons (o := { dst := some 8, op := Go.Op.load 154 (Go.Operand.tmp 2), type := 154, pos := "space.go:111", after := #[], guard := none }) rfl (fun K hK => ?_) ?_
      · skip
        have HK := Lib.hid hK
        clear hK
        go_simp
        refine HK.out _ _ ?_
        clear HK
        try simp only [Act.put, List.setIfInBounds_toArray, List.set_cons_zero, List.set_cons_succ]
        refine wpAnyIn_ready (rs := [4]) (by kernel_rfl) (by simp) ?_
        refine AllReadyIn.cons (o := { dst := some 12, op := Go.Op.call { callee := Go.Callee.value (Go.Operand.func 98), args := #[Go.Operand.tmp 10, Go.Operand.tmp 11], argTypes := #[51, 9] }, type := 57, pos := "space.go:111", after := #[{ on := 2, ground := Go.Ground.data }, { on := 3, ground := Go.Ground.data }], guard := none }) rfl (fun K hK => ?_) AllReadyIn.nil
        have HK := Lib.hid hK
        clear hK
        go_simp
        refine ⟨trivial, ?_⟩
        refine (CallsIn.inRound l2 (callsIn_wide.2 HC.out)).mono ?_
        rintro e w1 ⟨v, rfl, hv, hb1⟩
        refine HK.out _ _ ?_
        have HJ := Lib.hid (And.intro hv hb1)
        obtain ⟨G2, G3, G4, G5, G6⟩ := (HX.out.2.2.more hb1).var
        have G0 := cell_later hb1 HX.out.1
        clear HK hv hb1 G1
        try simp only [Act.put, List.setIfInBounds_toArray, List.set_cons_zero, List.set_cons_succ]
        exact HF.out _ _ _ HJ.out.2 HJ.out.1 (by kernel_rfl) (by kernel_rfl) (by kernel_rfl)
      refine AllReadyIn.cons (o := { dst := some 12, op := Go.Op.call { callee := Go.Callee.value (Go.Operand.func 98), args := #[Go.Operand.tmp 10, Go.Operand.tmp 11], argTypes := #[51, 9] }, type := 57, pos := "space.go:111", after := #[{ on := 2, ground := Go.Ground.data }, { on := 3, ground := Go.Ground.data }], guard := none }) rfl (fun K hK => ?_) AllReadyIn.nil
      have HK := Lib.hid hK
      clear hK
      go_simp
      refine ⟨trivial, ?_⟩
      refine (CallsIn.inRound l2 (callsIn_wide.2 HC.out)).mono ?_
      rintro e w1 ⟨v, rfl, hv, hb1⟩
      refine HK.out _ _ ?_
      have HJ := Lib.hid (And.intro hv hb1)
      obtain ⟨G2, G3, G4, G5, G6⟩ := (HX.out.2.2.more hb1).var
      have G0 := cell_later hb1 HX.out.1
      clear HK hv hb1 G1
      try simp only [Act.put, List.setIfInBounds_toArray, List.set_cons_zero, List.set_cons_succ]
      refine wpAnyIn_ready (rs := [0]) (by kernel_rfl) (by simp) ?_
      refine AllReadyIn.cons (o := { dst := some 8, op := Go.Op.load 154 (Go.Operand.tmp 2), type := 154, pos := "space.go:111", after := #[], guard := none }) rfl (fun K hK => ?_) AllReadyIn.nil
      have HK := Lib.hid hK
      clear hK
      go_simp
      refine HK.out _ _ ?_
      clear HK
      try simp only [Act.put, List.setIfInBounds_toArray, List.set_cons_zero, List.set_cons_succ]
      exact HF.out _ _ _ HJ.out.2 HJ.out.1 (by kernel_rfl) (by kernel_rfl) (by kernel_rfl)
    refine AllReadyIn.cons (o := { dst := some 11, op := Go.Op.load 9 (Go.Operand.tmp 3), type := 9, pos := "space.go:111", after := #[], guard := none }) rfl (fun K hK => ?_) AllReadyIn.nil
    have HK := Lib.hid hK
    clear hK
    go_simp
    refine HK.out _ _ ?_
    clear HK
    try simp only [Act.put, List.setIfInBounds_toArray, List.set_cons_zero, List.set_cons_succ]
    refine wpAnyIn_ready (rs := [0, 2]) (by kernel_rfl) (by simp) ?_
    refine AllReadyIn.cons (o := { dst := some 8, op := Go.Op.load 154 (Go.Operand.tmp 2), type := 154, pos := "space.go:111", after := #[], guard := none }) rfl (fun K hK => ?_) ?_
    · skip
      have HK := Lib.hid hK
      clear hK
      go_simp
      refine HK.out _ _ ?_
      clear HK
      try simp only [Act.put, List.setIfInBounds_toArray, List.set_cons_zero, List.set_cons_succ]
      refine wpAnyIn_ready (rs := [2]) (by kernel_rfl) (by simp) ?_
      refine AllReadyIn.cons (o := { dst := some 10, op := Go.Op.load 51 (Go.Operand.tmp 4), type := 51, pos := "space.go:111", after := #[], guard := none }) rfl (fun K hK => ?_) AllReadyIn.nil
      have HK := Lib.hid hK
      clear hK
      go_simp
      refine HK.out _ _ ?_
      clear HK
      try simp only [Act.put, List.setIfInBounds_toArray, List.set_cons_zero, List.set_cons_succ]
      refine wpAnyIn_ready (rs := [4]) (by kernel_rfl) (by simp) ?_
      refine AllReadyIn.cons (o := { dst := some 12, op := Go.Op.call { callee := Go.Callee.value (Go.Operand.func 98), args := #[Go.Operand.tmp 10, Go.Operand.tmp 11], argTypes := #[51, 9] }, type := 57, pos := "space.go:111", after := #[{ on := 2, ground := Go.Ground.data }, { on := 3, ground := Go.Ground.data }], guard := none }) rfl (fun K hK => ?_) AllReadyIn.nil
      have HK := Lib.hid hK
      clear hK
      go_simp
      refine ⟨trivial, ?_⟩
      refine (CallsIn.inRound l2 (callsIn_wide.2 HC.out)).mono ?_
      rintro e w1 ⟨v, rfl, hv, hb1⟩
      refine HK.out _ _ ?_
      have HJ := Lib.hid (And.intro hv hb1)
      obtain ⟨G2, G3, G4, G5, G6⟩ := (HX.out.2.2.more hb1).var
      have G0 := cell_later hb1 HX.out.1
      clear HK hv hb1 G1
      try simp only [Act.put, List.setIfInBounds_toArray, List.set_cons_zero, List.set_cons_succ]
      exact HF.out _ _ _ HJ.out.2 HJ.out.1 (by kernel_rfl) (by kernel_rfl) (by kernel_rfl)
    refine AllReadyIn.cons (o := { dst := some 10, op := Go.Op.load 51 (Go.Operand.tmp 4), type := 51, pos := "space.go:111", after := #[], guard := none }) rfl (fun K hK => ?_) AllReadyIn.nil
    have HK := Lib.hid hK
    clear hK
    go_simp
    refine HK.out _ _ ?_
    clear HK
    try simp only [Act.put, List.setIfInBounds_toArray, List.set_cons_zero, List.set_cons_succ]
    refine wpAnyIn_ready (rs := [0, 4]) (by kernel_rfl) (by simp) ?_
    refine AllReadyIn.cons (o := { dst := some 8, op := Go.Op.load 154 (Go.Operand.tmp 2), type := 154, pos := "space.go:111", after := #[], guard := none }) rfl (fun K hK => ?_) ?_
    · skip
      have HK := Lib.hid hK
      clear hK
      go_simp
      refine HK.out _ _ ?_
      clear HK
      try simp only [Act.put, List.setIfInBounds_toArray, List.set_cons_zero, List.set_cons_succ]
      refine wpAnyIn_ready (rs := [4]) (by kernel_rfl) (by simp) ?_
      refine AllReadyIn.cons (o := { dst := some 12, op := Go.Op.call { callee := Go.Callee.value (Go.Operand.func 98), args := #[Go.Operand.tmp 10, Go.Operand.tmp 11], argTypes := #[51, 9] }, type := 57, pos := "space.go:111", after := #[{ on := 2, ground := Go.Ground.data }, { on := 3, ground := Go.Ground.data }], guard := none }) rfl (fun K hK => ?_) AllReadyIn.nil
      have HK := Lib.hid hK
      clear hK
      go_simp
      refine ⟨trivial, ?_⟩
      refine (CallsIn.inRound l2 (callsIn_wide.2 HC.out)).mono ?_
      rintro e w1 ⟨v, rfl, hv, hb1⟩
      refine HK.out _ _ ?_
      have HJ := Lib.hid (And.intro hv hb1)
      obtain ⟨G2, G3, G4, G5, G6⟩ := (HX.out.2.2.more hb1).var
      have G0 := cell_later hb1 HX.out.1
      clear HK hv hb1 G1
      try simp only [Act.put, List.setIfInBounds_toArray, List.set_cons_zero, List.set_cons_succ]
      exact HF.out _ _ _ HJ.out.2 HJ.out.1 (by kernel_rfl) (by kernel_rfl) (by kernel_rfl)
    refine AllReadyIn.cons (o := { dst := some 12, op := Go.Op.call { callee := Go.Callee.value (Go.Operand.func 98), args := #[Go.Operand.tmp 10, Go.Operand.tmp 11], argTypes := #[51, 9] }, type := 57, pos := "space.go:111", after := #[{ on := 2, ground := Go.Ground.data }, { on := 3, ground := Go.Ground.data }], guard := none }) rfl (fun K hK => ?_) AllReadyIn.nil
    have HK := Lib.hid hK
    clear hK
    go_simp
    refine ⟨trivial, ?_⟩
    refine (CallsIn.inRound l2 (callsIn_wide.2 HC.out)).mono ?_
    rintro e w1 ⟨v, rfl, hv, hb1⟩
    refine HK.out _ _ ?_
    have HJ := Lib.hid (And.intro hv hb1)
    obtain ⟨G2, G3, G4, G5, G6⟩ := (HX.out.2.2.more hb1).var
    have G0 := cell_later hb1 HX.out.1
    clear HK hv hb1 G1
    try simp only [Act.put, List.setIfInBounds_toArray, List.set_cons_zero, List.set_cons_succ]
    refine wpAnyIn_ready (rs := [0]) (by kernel_rfl) (by simp) ?_
    refine AllReadyIn.cons (o := { dst := some 8, op := Go.Op.load 154 (Go.Operand.tmp 2), type := 154, pos := "space.go:111", after := #[], guard := none }) rfl (fun K hK => ?_) AllReadyIn.nil
    have HK := Lib.hid hK
    clear hK
    go_simp
    refine HK.out _ _ ?_
    clear HK
    try simp only [Act.put, List.setIfInBounds_toArray, List.set_cons_zero, List.set_cons_succ]
    exact HF.out _ _ _ HJ.out.2 HJ.out.1 (by kernel_rfl) (by kernel_rfl) (by kernel_rfl)
  refine AllReadyIn.cons (o := { dst := some 10, op := Go.Op.load 51 (Go.Operand.tmp 4), type := 51, pos := "space.go:111", after := #[], guard := none }) rfl (fun K hK => ?_) ?_
  · skip
    have HK := Lib.hid hK
    clear hK
    go_simp
    refine HK.out _ _ ?_
    clear HK
    try simp only [Act.put, List.setIfInBounds_toArray, List.set_cons_zero, List.set_cons_succ]
    refine wpAnyIn_ready (rs := [0, 1, 3]) (by kernel_rfl) (by simp) ?_
    refine AllReadyIn.cons (o := { dst := some 8, op := Go.Op.load 154 (Go.Operand.tmp 2), type := 154, pos := "space.go:111", after := #[], guard := none }) rfl (fun K hK => ?_) ?_
    · skip
      have HK := Lib.hid hK
      clear hK
      go_simp
      refine HK.out _ _ ?_
      clear HK
      try simp only [Act.put, List.setIfInBounds_toArray, List.set_cons_zero, List.set_cons_succ]
      refine wpAnyIn_ready (rs := [1, 3]) (by kernel_rfl) (by simp) ?_
      refine AllReadyIn.cons (o := { dst := some 9, op := Go.Op.load 51 (Go.Operand.tmp 4), type := 51, pos := "space.go:111", after := #[], guard := none }) rfl (fun K hK => ?_) ?_
      · skip
        have HK := Lib.hid hK
        clear hK
        go_simp
        refine HK.out _ _ ?_
        clear HK
        try simp only [Act.put, List.setIfInBounds_toArray, List.set_cons_zero, List.set_cons_succ]
        refine wpAnyIn_ready (rs := [3]) (by kernel_rfl) (by simp) ?_
        refine AllReadyIn.cons (o := { dst := some 11, op := Go.Op.load 9 (Go.Operand.tmp 3), type := 9, pos := "space.go:111", after := #[], guard := none }) rfl (fun K hK => ?_) AllReadyIn.nil
        have HK := Lib.hid hK
        clear hK
        go_simp
        refine HK.out _ _ ?_
        clear HK
        try simp only [Act.put, List.setIfInBounds_toArray, List.set_cons_zero, List.set_cons_succ]
        refine wpAnyIn_ready (rs := [4]) (by kernel_rfl) (by simp) ?_
        refine AllReadyIn.cons (o := { dst := some 12, op := Go.Op.call { callee := Go.Callee.value (Go.Operand.func 98), args := #[Go.Operand.tmp 10, Go.Operand.tmp 11], argTypes := #[51, 9] }, type := 57, pos := "space.go:111", after := #[{ on := 2, ground := Go.Ground.data }, { on := 3, ground := Go.Ground.data }], guard := none }) rfl (fun K hK => ?_) AllReadyIn.nil
        have HK := Lib.hid hK
        clear hK
        go_simp
        refine ⟨trivial, ?_⟩
        refine (CallsIn.inRound l2 (callsIn_wide.2 HC.out)).mono ?_
        rintro e w1 ⟨v, rfl, hv, hb1⟩
        refine HK.out _ _ ?_
        have HJ := Lib.hid (And.intro hv hb1)
        obtain ⟨G2, G3, G4, G5, G6⟩ := (HX.out.2.2.more hb1).var
        have G0 := cell_later hb1 HX.out.1
        clear HK hv hb1 G1
        try simp only [Act.put, List.setIfInBounds_toArray, List.set_cons_zero, List.set_cons_succ]
        exact HF.out _ _ _ HJ.out.2 HJ.out.1 (by kernel_rfl) (by kernel_rfl) (by kernel_rfl)
      refine AllReadyIn.cons (o := { dst := some 11, op := Go.Op.load 9 (Go.Operand.tmp 3), type := 9, pos := "space.go:111", after := #[], guard := none }) rfl (fun K hK => ?_) AllReadyIn.nil
      have HK := Lib.hid hK
      clear hK
      go_simp
      refine HK.out _ _ ?_
      clear HK
      try simp only [Act.put, List.setIfInBounds_toArray, List.set_cons_zero, List.set_cons_succ]
      refine wpAnyIn_ready (rs := [1, 4]) (by kernel_rfl) (by simp) ?_
      refine AllReadyIn.cons (o := { dst := some 9, op := Go.Op.load 51 (Go.Operand.tmp 4), type := 51, pos := "space.go:111", after := #[], guard := none }) rfl (fun K hK => ?_) ?_
      · skip
        have HK := Lib.hid hK
        clear hK
        go_simp
        refine HK.out _ _ ?_
        clear HK
        try simp only [Act.put, List.setIfInBounds_toArray, List.set_cons_zero, List.set_cons_succ]
        refine wpAnyIn_ready (rs := [4]) (by kernel_rfl) (by simp) ?_
        refine AllReadyIn.cons (o := { dst := some 12, op := Go.Op.call { callee := Go.Callee.value (Go.Operand.func 98), args := #[Go.Operand.tmp 10, Go.Operand.tmp 11], argTypes := #[51, 9] }, type := 57, pos := "space.go:111", after := #[{ on := 2, ground := Go.Ground.data }, { on := 3, ground := Go.Ground.data }], guard := none }) rfl (fun K hK => ?_) AllReadyIn.nil
        have HK := Lib.hid hK
        clear hK
        go_simp
        refine ⟨trivial, ?_⟩
        refine (CallsIn.inRound l2 (callsIn_wide.2 HC.out)).mono ?_
        rintro e w1 ⟨v, rfl, hv, hb1⟩
        refine HK.out _ _ ?_
        have HJ := Lib.hid (And.intro hv hb1)
        obtain ⟨G2, G3, G4, G5, G6⟩ := (HX.out.2.2.more hb1).var
        have G0 := cell_later hb1 HX.out.1
        clear HK hv hb1 G1
        try simp only [Act.put, List.setIfInBounds_toArray, List.set_cons_zero, List.set_cons_succ]
        exact HF.out _ _ _ HJ.out.2 HJ.out.1 (by kernel_rfl) (by kernel_rfl) (by kernel_rfl)
      refine AllReadyIn.cons (o := { dst := some 12, op := Go.Op.call { callee := Go.Callee.value (Go.Operand.func 98), args := #[Go.Operand.tmp 10, Go.Operand.tmp 11], argTypes := #[51, 9] }, type := 57, pos := "space.go:111", after := #[{ on := 2, ground := Go.Ground.data }, { on := 3, ground := Go.Ground.data }], guard := none }) rfl (fun K hK => ?_) AllReadyIn.nil
      have HK := Lib.hid hK
      clear hK
      go_simp
      refine ⟨trivial, ?_⟩
      refine (CallsIn.inRound l2 (callsIn_wide.2 HC.out)).mono ?_
      rintro e w1 ⟨v, rfl, hv, hb1⟩
      refine HK.out _ _ ?_
      have HJ := Lib.hid (And.intro hv hb1)
      obtain ⟨G2, G3, G4, G5, G6⟩ := (HX.out.2.2.more hb1).var
      have G0 := cell_later hb1 HX.out.1
      clear HK hv hb1 G1
      try simp only [Act.put, List.setIfInBounds_toArray, List.set_cons_zero, List.set_cons_succ]
      refine wpAnyIn_ready (rs := [1]) (by kernel_rfl) (by simp) ?_
      refine AllReadyIn.cons (o := { dst := some 9, op := Go.Op.load 51 (Go.Operand.tmp 4), type := 51, pos := "space.go:111", after := #[], guard := none }) rfl (fun K hK => ?_) AllReadyIn.nil
      have HK := Lib.hid hK
      clear hK
      go_simp
      refine HK.out _ _ ?_
      clear HK
      try simp only [Act.put, List.setIfInBounds_toArray, List.set_cons_zero, List.set_cons_succ]
      exact HF.out _ _ _ HJ.out.2 HJ.out.1 (by kernel_rfl) (by kernel_rfl) (by kernel_rfl)
    refine AllReadyIn.cons (o := { dst := some 9, op := Go.Op.load 51 (Go.Operand.tmp 4), type := 51, pos := "space.go:111", after := #[], guard := none }) rfl (fun K hK => ?_) ?_
    · skip
      have HK := Lib.hid hK
      clear hK
      go_simp
      refine HK.out _ _ ?_
      clear HK
      try simp only [Act.put, List.setIfInBounds_toArray, List.set_cons_zero, List.set_cons_succ]
      refine wpAnyIn_ready (rs := [0, 3]) (by kernel_rfl) (by simp) ?_
      refine AllReadyIn.cons (o := { dst := some 8, op := Go.Op.load 154 (Go.Operand.tmp 2), type := 154, pos := "space.go:111", after := #[], guard := none }) rfl (fun K hK => ?_) ?_
      · skip
        have HK := Lib.hid hK
        clear hK
        go_simp
        refine HK.out _ _ ?_
        clear HK
        try simp only [Act.put, List.setIfInBounds_toArray, List.set_cons_zero, List.set_cons_succ]
        refine wpAnyIn_ready (rs := [3]) (by kernel_rfl) (by simp) ?_
        refine AllReadyIn.cons (o := { dst := some 11, op := Go.Op.load 9 (Go.Operand.tmp 3), type := 9, pos := "space.go:111", after := #[], guard := none }) rfl (fun K hK => ?_) AllReadyIn.nil
        have HK := Lib.hid hK
        clear hK
        go_simp
        refine HK.out _ _ ?_
        clear HK
        try simp only [Act.put, List.setIfInBounds_toArray, List.set_cons_zero, List.set_cons_succ]
        refine wpAnyIn_ready (rs := [4]) (by kernel_rfl) (by simp) ?_
        refine AllReadyIn.cons (o := { dst := some 12, op := Go.Op.call { callee := Go.Callee.value (Go.Operand.func 98), args := #[Go.Operand.tmp 10, Go.Operand.tmp 11], argTypes := #[51, 9] }, type := 57, pos := "space.go:111", after := #[{ on := 2, ground := Go.Ground.data }, { on := 3, ground := Go.Ground.data }], guard := none }) rfl (fun K hK => ?_) AllReadyIn.nil
        have HK := Lib.hid hK
        clear hK
        go_simp
        refine ⟨trivial, ?_⟩
        refine (CallsIn.inRound l2 (callsIn_wide.2 HC.out)).mono ?_
        rintro e w1 ⟨v, rfl, hv, hb1⟩
        refine HK.out _ _ ?_
        have HJ := Lib.hid (And.intro hv hb1)
        obtain ⟨G2, G3, G4, G5, G6⟩ := (HX.out.2.2.more hb1).var
        have G0 := cell_later hb1 HX.out.1
        clear HK hv hb1 G1
        try simp only [Act.put, List.setIfInBounds_toArray, List.set_cons_zero, List.set_cons_succ]
        exact HF.out _ _ _ HJ.out.2 HJ.out.1 (by kernel_rfl) (by kernel_rfl) (by kernel_rfl)
      refine AllReadyIn.cons (o := { dst := some 11, op := Go.Op.load 9 (Go.Operand.tmp 3), type := 9, pos := "space.go:111", after := #[], guard := none }) rfl (fun K hK => ?_) AllReadyIn.nil
      have HK := Lib.hid hK
      clear hK
      go_simp
      refine HK.out _ _ ?_
      clear HK
      try simp only [Act.put, List.setIfInBounds_toArray, List.set_cons_zero, List.set_cons_succ]
      refine wpAnyIn_ready (rs := [0, 4]) (by kernel_rfl) (by simp) ?_
      refine AllReadyIn.cons (o := { dst := some 8, op := Go.Op.load 154 (Go.Operand.tmp 2), type := 154, pos := "space.go:111", after := #[], guard := none }) rfl (fun K hK => ?_) ?_
      · skip
        have HK := Lib.hid hK
        clear hK
        go_simp
        refine HK.out _ _ ?_
        clear HK
        try simp only [Act.put, List.setIfInBounds_toArray, List.set_cons_zero, List.set_cons_succ]
        refine wpAnyIn_ready (rs := [4]) (by kernel_rfl) (by simp) ?_
        refine AllReadyIn.cons (o := { dst := some 12, op := Go.Op.call { callee := Go.Callee.value (Go.Operand.func 98), args := #[Go.Operand.tmp 10, Go.Operand.tmp 11], argTypes := #[51, 9] }, type := 57, pos := "space.go:111", after := #[{ on := 2, ground := Go.Ground.data }, { on := 3, ground := Go.Ground.data }], guard := none }) rfl (fun K hK => ?_) AllReadyIn.nil
        have HK := Lib.hid hK
        clear hK
        go_simp
        refine ⟨trivial, ?_⟩
        refine (CallsIn.inRound l2 (callsIn_wide.2 HC.out)).mono ?_
        rintro e w1 ⟨v, rfl, hv, hb1⟩
        refine HK.out _ _ ?_
        have HJ := Lib.hid (And.intro hv hb1)
        obtain ⟨G2, G3, G4, G5, G6⟩ := (HX.out.2.2.more hb1).var
        have G0 := cell_later hb1 HX.out.1
        clear HK hv hb1 G1
        try simp only [Act.put, List.setIfInBounds_toArray, List.set_cons_zero, List.set_cons_succ]
        exact HF.out _ _ _ HJ.out.2 HJ.out.1 (by kernel_rfl) (by kernel_rfl) (by kernel_rfl)
      refine AllReadyIn.cons (o := { dst := some 12, op := Go.Op.call { callee := Go.Callee.value (Go.Operand.func 98), args := #[Go.Operand.tmp 10, Go.Operand.tmp 11], argTypes := #[51, 9] }, type := 57, pos := "space.go:111", after := #[{ on := 2, ground := Go.Ground.data }, { on := 3, ground := Go.Ground.data }], guard := none }) rfl (fun K hK => ?_) AllReadyIn.nil
      have HK := Lib.hid hK
      clear hK
      go_simp
      refine ⟨trivial, ?_⟩
      refine (CallsIn.inRound l2 (callsIn_wide.2 HC.out)).mono ?_
      rintro e w1 ⟨v, rfl, hv, hb1⟩
      refine HK.out _ _ ?_
      have HJ := Lib.hid (And.intro hv hb1)
      obtain ⟨G2, G3, G4, G5, G6⟩ := (HX.out.2.2.more hb1).var
      have G0 := cell_later hb1 HX.out.1
      clear HK hv hb1 G1
      try simp only [Act.put, List.setIfInBounds_toArray, List.set_cons_zero, List.set_cons_succ]
      refine wpAnyIn_ready (rs := [0]) (by kernel_rfl) (by simp) ?_
      refine AllReadyIn.cons (o := { dst := some 8, op := Go.Op.load 154 (Go.Operand.tmp 2), type := 154, pos := "space.go:111", after := #[], guard := none }) rfl (fun K hK => ?_) AllReadyIn.nil
      have HK := Lib.hid hK
      clear hK
      go_simp
      refine HK.out _ _ ?_
      clear HK
      try simp only [Act.put, List.setIfInBounds_toArray, List.set_cons_zero, List.set_cons_succ]
      exact HF.out _ _ _ HJ.out.2 HJ.out.1 (by kernel_rfl) (by kernel_rfl) (by kernel_rfl)
    refine AllReadyIn.cons (o := { dst := some 11, op := Go.Op.load 9 (Go.Operand.tmp 3), type := 9, pos := "space.go:111", after := #[], guard := none }) rfl (fun K hK => ?_) AllReadyIn.nil
    have HK := Lib.hid hK
    clear hK
    go_simp
    refine HK.out _ _ ?_
    clear HK
    try simp only [Act.put, List.setIfInBounds_toArray, List.set_cons_zero, List.set_cons_succ]
    refine wpAnyIn_ready (rs := [0, 1, 4]) (by kernel_rfl) (by simp) ?_
    refine AllReadyIn.cons (o := { dst := some 8, op := Go.Op.load 154 (Go.Operand.tmp 2), type := 154, pos := "space.go:111", after := #[], guard := none }) rfl (fun K hK => ?_) ?_
    · skip
      have HK := Lib.hid hK
      clear hK
      go_simp
      refine HK.out _ _ ?_
      clear HK
      try simp only [Act.put, List.setIfInBounds_toArray, List.set_cons_zero, List.set_cons_succ]
      refine wpAnyIn_ready (rs := [1, 4]) (by kernel_rfl) (by simp) ?_
      refine AllReadyIn.cons (o := { dst := some 9, op := Go.Op.load 51 (Go.Operand.tmp 4), type := 51, pos := "space.go:111", after := #[], guard := none }) rfl (fun K hK => ?_) ?_
      · skip
        have HK := Lib.hid hK
        clear hK
        go_simp
        refine HK.out _ _ ?_
        clear HK
        try simp only [Act.put, List.setIfInBounds_toArray, List.set_cons_zero, List.set_cons_succ]
        refine wpAnyIn_ready (rs := [4]) (by kernel_rfl) (by simp) ?_
        refine AllReadyIn.cons (o := { dst := some 12, op := Go.Op.call { callee := Go.Callee.value (Go.Operand.func 98), args := #[Go.Operand.tmp 10, Go.Operand.tmp 11], argTypes := #[51, 9] }, type := 57, pos := "space.go:111", after := #[{ on := 2, ground := Go.Ground.data }, { on := 3, ground := Go.Ground.data }], guard := none }) rfl (fun K hK => ?_) AllReadyIn.nil
        have HK := Lib.hid hK
        clear hK
        go_simp
        refine ⟨trivial, ?_⟩
        refine (CallsIn.inRound l2 (callsIn_wide.2 HC.out)).mono ?_
        rintro e w1 ⟨v, rfl, hv, hb1⟩
        refine HK.out _ _ ?_
        have HJ := Lib.hid (And.intro hv hb1)
        obtain ⟨G2, G3, G4, G5, G6⟩ := (HX.out.2.2.more hb1).var
        have G0 := cell_later hb1 HX.out.1
        clear HK hv hb1 G1
        try simp only [Act.put, List.setIfInBounds_toArray, List.set_cons_zero, List.set_cons_succ]
        exact HF.out _ _ _ HJ.out.2 HJ.out.1 (by kernel_rfl) (by kernel_rfl) (by kernel_rfl)
      refine AllReadyIn.cons (o := { dst := some 12, op := Go.Op.call { callee := Go.Callee.value (Go.Operand.func 98), args := #[Go.Operand.tmp 10, Go.Operand.tmp 11], argTypes := #[51, 9] }, type := 57, pos := "space.go:111", after := #[{ on := 2, ground := Go.Ground.data }, { on := 3, ground := Go.Ground.data }], guard := none }) rfl (fun K hK => ?_) AllReadyIn.nil
      have HK := Lib.hid hK
      clear hK
      go_simp
      refine ⟨trivial, ?_⟩
      refine (CallsIn.inRound l2 (callsIn_wide.2 HC.out)).mono ?_
      rintro e w1 ⟨v, rfl, hv, hb1⟩
      refine HK.out _ _ ?_
      have HJ := Lib.hid (And.intro hv hb1)
      obtain ⟨G2, G3, G4, G5, G6⟩ := (HX.out.2.2.more hb1).var
      have G0 := cell_later hb1 HX.out.1
      clear HK hv hb1 G1
      try simp only [Act.put, List.setIfInBounds_toArray, List.set_cons_zero, List.set_cons_succ]
      refine wpAnyIn_ready (rs := [1]) (by kernel_rfl) (by simp) ?_
      refine AllReadyIn.cons (o := { dst := some 9, op := Go.Op.load 51 (Go.Operand.tmp 4), type := 51, pos := "space.go:111", after := #[], guard := none }) rfl (fun K hK => ?_) AllReadyIn.nil
      have HK := Lib.hid hK
      clear hK
      go_simp
      refine HK.out _ _ ?_
      clear HK
      try simp only [Act.put, List.setIfInBounds_toArray, List.set_cons_zero, List.set_cons_succ]
      exact HF.out _ _ _ HJ.out.2 HJ.out.1 (by kernel_rfl) (by kernel_rfl) (by kernel_rfl)
    refine AllReadyIn.cons (o := { dst := some 9, op := Go.Op.load 51 (Go.Operand.tmp 4), type := 51, pos := "space.go:111", after := #[], guard := none }) rfl (fun K hK => ?_) ?_
    · skip
      have HK := Lib.hid hK
      clear hK
      go_simp
      refine HK.out _ _ ?_
      clear HK
      try simp only [Act.put, List.setIfInBounds_toArray, List.set_cons_zero, List.set_cons_succ]
      refine wpAnyIn_ready (rs := [0, 4]) (by kernel_rfl) (by simp) ?_
      refine AllReadyIn.cons (o := { dst := some 8, op := Go.Op.load 154 (Go.Operand.tmp 2), type := 154, pos := "space.go:111", after := #[], guard := none }) rfl (fun K hK => ?_) ?_
      · skip
        have HK := Lib.hid hK
        clear hK
        go_simp
        refine HK.out _ _ ?_
        clear HK
        try simp only [Act.put, List.setIfInBounds_toArray, List.set_cons_zero, List.set_cons_succ]
        refine wpAnyIn_ready (rs := [4]) (by kernel_rfl) (by simp) ?_
        refine AllReadyIn.cons (o := { dst := some 12, op := Go.Op.call { callee := Go.Callee.value (Go.Operand.func 98), args := #[Go.Operand.tmp 10, Go.Operand.tmp 11], argTypes := #[51, 9] }, type := 57, pos := "space.go:111", after := #[{ on := 2, ground := Go.Ground.data }, { on := 3, ground := Go.Ground.data }], guard := none }) rfl (fun K hK => ?_) AllReadyIn.nil
        have HK := Lib.hid hK
        clear hK
        go_simp
        refine ⟨trivial, ?_⟩
        refine (CallsIn.inRound l2 (callsIn_wide.2 HC.out)).mono ?_
        rintro e w1 ⟨v, rfl, hv, hb1⟩
        refine HK.out _ _ ?_
        have HJ := Lib.hid (And.intro hv hb1)
        obtain ⟨G2, G3, G4, G5, G6⟩ := (HX.out.2.2.more hb1).var
        have G0 := cell_later hb1 HX.out.1
        clear HK hv hb1 G1
        try simp only [Act.put, List.setIfInBounds_toArray, List.set_cons_zero, List.set_cons_succ]
        exact HF.out _ _ _ HJ.out.2 HJ.out.1 (by kernel_rfl) (by kernel_rfl) (by kernel_rfl)
      refine AllReadyIn.cons (o := { dst := some 12, op := Go.Op.call { callee := Go.Callee.value (Go.Operand.func 98), args := #[Go.Operand.tmp 10, Go.Operand.tmp 11], argTypes := #[51, 9] }, type := 57, pos := "space.go:111", after := #[{ on := 2, ground := Go.Ground.data }, { on := 3, ground := Go.Ground.data }], guard := none }) rfl (fun K hK => ?_) AllReadyIn.nil
      have HK := Lib.hid hK
      clear hK
      go_simp
      refine ⟨trivial, ?_⟩
      refine (CallsIn.inRound l2 (callsIn_wide.2 HC.out)).mono ?_
      rintro e w1 ⟨v, rfl, hv, hb1⟩
      refine HK.out _ _ ?_
      have HJ := Lib.hid (And.intro hv hb1)
      obtain ⟨G2, G3, G4, G5, G6⟩ := (HX.out.2.2.more hb1).var
      have G0 := cell_later hb1 HX.out.1
      clear HK hv hb1 G1
      try simp only [Act.put, List.setIfInBounds_toArray, List.set_cons_zero, List.set_cons_succ]
      refine wpAnyIn_ready (rs := [0]) (by kernel_rfl) (by simp) ?_
      refine AllReadyIn.cons (o := { dst := some 8, op := Go.Op.load 154 (Go.Operand.tmp 2), type := 154, pos := "space.go:111", after := #[], guard := none }) rfl (fun K hK => ?_) AllReadyIn.nil
      have HK := Lib.hid hK
      clear hK
      go_simp
      refine HK.out _ _ ?_
      clear HK
      try simp only [Act.put, List.setIfInBounds_toArray, List.set_cons_zero, List.set_cons_succ]
      exact HF.out _ _ _ HJ.out.2 HJ.out.1 (by kernel_rfl) (by kernel_rfl) (by kernel_rfl)
    refine AllReadyIn.cons (o := { dst := some 12, op := Go.Op.call { callee := Go.Callee.value (Go.Operand.func 98), args := #[Go.Operand.tmp 10, Go.Operand.tmp 11], argTypes := #[51, 9] }, type := 57, pos := "space.go:111", after := #[{ on := 2, ground := Go.Ground.data }, { on := 3, ground := Go.Ground.data }], guard := none }) rfl (fun K hK => ?_) AllReadyIn.nil
    have HK := Lib.hid hK
    clear hK
    go_simp
    refine ⟨trivial, ?_⟩
    refine (CallsIn.inRound l2 (callsIn_wide.2 HC.out)).mono ?_
    rintro e w1 ⟨v, rfl, hv, hb1⟩
    refine HK.out _ _ ?_
    have HJ := Lib.hid (And.intro hv hb1)
    obtain ⟨G2, G3, G4, G5, G6⟩ := (HX.out.2.2.more hb1).var
    have G0 := cell_later hb1 HX.out.1
    clear HK hv hb1 G1
    try simp only [Act.put, List.setIfInBounds_toArray, List.set_cons_zero, List.set_cons_succ]
    refine wpAnyIn_ready (rs := [0, 1]) (by kernel_rfl) (by simp) ?_
    refine AllReadyIn.cons (o := { dst := some 8, op := Go.Op.load 154 (Go.Operand.tmp 2), type := 154, pos := "space.go:111", after := #[], guard := none }) rfl (fun K hK => ?_) ?_
    · skip
      have HK := Lib.hid hK
      clear hK
      go_simp
      refine HK.out _ _ ?_
      clear HK
      try simp only [Act.put, List.setIfInBounds_toArray, List.set_cons_zero, List.set_cons_succ]
      refine wpAnyIn_ready (rs := [1]) (by kernel_rfl) (by simp) ?_
      refine AllReadyIn.cons (o := { dst := some 9, op := Go.Op.load 51 (Go.Operand.tmp 4), type := 51, pos := "space.go:111", after := #[], guard := none }) rfl (fun K hK => ?_) AllReadyIn.nil
      have HK := Lib.hid hK
      clear hK
      go_simp
      refine HK.out _ _ ?_
      clear HK
      try simp only [Act.put, List.setIfInBounds_toArray, List.set_cons_zero, List.set_cons_succ]
      exact HF.out _ _ _ HJ.out.2 HJ.out.1 (by kernel_rfl) (by kernel_rfl) (by kernel_rfl)
    refine AllReadyIn.cons (o := { dst := some 9, op := Go.Op.load 51 (Go.Operand.tmp 4), type := 51, pos := "space.go:111", after := #[], guard := none }) rfl (fun K hK => ?_) AllReadyIn.nil
    have HK := Lib.hid hK
    clear hK
    go_simp
    refine HK.out _ _ ?_
    clear HK
    try simp only [Act.put, List.setIfInBounds_toArray, List.set_cons_zero, List.set_cons_succ]
    refine wpAnyIn_ready (rs := [0]) (by kernel_rfl) (by simp) ?_
    refine AllReadyIn.cons (o := { dst := some 8, op := Go.Op.load 154 (Go.Operand.tmp 2), type := 154, pos := "space.go:111", after := #[], guard := none }) rfl (fun K hK => ?_) AllReadyIn.nil
    have HK := Lib.hid hK
    clear hK
    go_simp
    refine HK.out _ _ ?_
    clear HK
    try simp only [Act.put, List.setIfInBounds_toArray, List.set_cons_zero, List.set_cons_succ]
    exact HF.out _ _ _ HJ.out.2 HJ.out.1 (by kernel_rfl) (by kernel_rfl) (by kernel_rfl)
  refine AllReadyIn.cons (o := { dst := some 11, op := Go.Op.load 9 (Go.Operand.tmp 3), type := 9, pos := "space.go:111", after := #[], guard := none }) rfl (fun K hK => ?_) AllReadyIn.nil
  have HK := Lib.hid hK
  clear hK
  go_simp
  refine HK.out _ _ ?_
  clear HK
  try simp only [Act.put, List.setIfInBounds_toArray, List.set_cons_zero, List.set_cons_succ]
  refine wpAnyIn_ready (rs := [0, 1, 2]) (by kernel_rfl) (by simp) ?_
  refine AllReadyIn.cons (o := { dst := some 8, op := Go.Op.load 154 (Go.Operand.tmp 2), type := 154, pos := "space.go:111", after := #[], guard := none }) rfl (fun K hK => ?_) ?_
  · skip
    have HK := Lib.hid hK
    clear hK
    go_simp
    refine HK.out _ _ ?_
    clear HK
    try simp only [Act.put, List.setIfInBounds_toArray, List.set_cons_zero, List.set_cons_succ]
    refine wpAnyIn_ready (rs := [1, 2]) (by kernel_rfl) (by simp) ?_
    refine AllReadyIn.cons (o := { dst := some 9, op := Go.Op.load 51 (Go.Operand.tmp 4), type := 51, pos := "space.go:111", after := #[], guard := none }) rfl (fun K hK => ?_) ?_
    · skip
      have HK := Lib.hid hK
      clear hK
      go_simp
      refine HK.out _ _ ?_
      clear HK
      try simp only [Act.put, List.setIfInBounds_toArray, List.set_cons_zero, List.set_cons_succ]
      refine wpAnyIn_ready (rs := [2]) (by kernel_rfl) (by simp) ?_
      refine AllReadyIn.cons (o := { dst := some 10, op := Go.Op.load 51 (Go.Operand.tmp 4), type := 51, pos := "space.go:111", after := #[], guard := none }) rfl (fun K hK => ?_) AllReadyIn.nil
      have HK := Lib.hid hK
      clear hK
      go_simp
      refine HK.out _ _ ?_
      clear HK
      try simp only [Act.put, List.setIfInBounds_toArray, List.set_cons_zero, List.set_cons_succ]
      refine wpAnyIn_ready (rs := [4]) (by kernel_rfl) (by simp) ?_
      refine AllReadyIn.cons (o := { dst := some 12, op := Go.Op.call { callee := Go.Callee.value (Go.Operand.func 98), args := #[Go.Operand.tmp 10, Go.Operand.tmp 11], argTypes := #[51, 9] }, type := 57, pos := "space.go:111", after := #[{ on := 2, ground := Go.Ground.data }, { on := 3, ground := Go.Ground.data }], guard := none }) rfl (fun K hK => ?_) AllReadyIn.nil
      have HK := Lib.hid hK
      clear hK
      go_simp
      refine ⟨trivial, ?_⟩
      refine (CallsIn.inRound l2 (callsIn_wide.2 HC.out)).mono ?_
      rintro e w1 ⟨v, rfl, hv, hb1⟩
      refine HK.out _ _ ?_
      have HJ := Lib.hid (And.intro hv hb1)
      obtain ⟨G2, G3, G4, G5, G6⟩ := (HX.out.2.2.more hb1).var
      have G0 := cell_later hb1 HX.out.1
      clear HK hv hb1 G1
      try simp only [Act.put, List.setIfInBounds_toArray, List.set_cons_zero, List.set_cons_succ]
      exact HF.out _ _ _ HJ.out.2 HJ.out.1 (by kernel_rfl) (by kernel_rfl) (by kernel_rfl)
    refine AllReadyIn.cons (o := { dst := some 10, op := Go.Op.load 51 (Go.Operand.tmp 4), type := 51, pos := "space.go:111", after := #[], guard := none }) rfl (fun K hK => ?_) AllReadyIn.nil
    have HK := Lib.hid hK
    clear hK
    go_simp
    refine HK.out _ _ ?_
    clear HK
    try simp only [Act.put, List.setIfInBounds_toArray, List.set_cons_zero, List.set_cons_succ]
    refine wpAnyIn_ready (rs := [1, 4]) (by kernel_rfl) (by simp) ?_
    refine AllReadyIn.cons (o := { dst := some 9, op := Go.Op.load 51 (Go.Operand.tmp 4), type := 51, pos := "space.go:111", after := #[], guard := none }) rfl (fun K hK => ?_) ?_
    · skip
      have HK := Lib.hid hK
      clear hK
      go_simp
      refine HK.out _ _ ?_
      clear HK
      try simp only [Act.put, List.setIfInBounds_toArray, List.set_cons_zero, List.set_cons_succ]
      refine wpAnyIn_ready (rs := [4]) (by kernel_rfl) (by simp) ?_
      refine AllReadyIn.cons (o := { dst := some 12, op := Go.Op.call { callee := Go.Callee.value (Go.Operand.func 98), args := #[Go.Operand.tmp 10, Go.Operand.tmp 11], argTypes := #[51, 9] }, type := 57, pos := "space.go:111", after := #[{ on := 2, ground := Go.Ground.data }, { on := 3, ground := Go.Ground.data }], guard := none }) rfl (fun K hK => ?_) AllReadyIn.nil
      have HK := Lib.hid hK
      clear hK
      go_simp
      refine ⟨trivial, ?_⟩
      refine (CallsIn.inRound l2 (callsIn_wide.2 HC.out)).mono ?_
      rintro e w1 ⟨v, rfl, hv, hb1⟩
      refine HK.out _ _ ?_
      have HJ := Lib.hid (And.intro hv hb1)
      obtain ⟨G2, G3, G4, G5, G6⟩ := (HX.out.2.2.more hb1).var
      have G0 := cell_later hb1 HX.out.1
      clear HK hv hb1 G1
      try simp only [Act.put, List.setIfInBounds_toArray, List.set_cons_zero, List.set_cons_succ]
      exact HF.out _ _ _ HJ.out.2 HJ.out.1 (by kernel_rfl) (by kernel_rfl) (by kernel_rfl)
    refine AllReadyIn.cons (o := { dst := some 12, op := Go.Op.call { callee := Go.Callee.value (Go.Operand.func 98), args := #[Go.Operand.tmp 10, Go.Operand.tmp 11], argTypes := #[51, 9] }, type := 57, pos := "space.go:111", after := #[{ on := 2, ground := Go.Ground.data }, { on := 3, ground := Go.Ground.data }], guard := none }) rfl (fun K hK => ?_) AllReadyIn.nil
    have HK := Lib.hid hK
    clear hK
    go_simp
    refine ⟨trivial, ?_⟩
    refine (CallsIn.inRound l2 (callsIn_wide.2 HC.out)).mono ?_
    rintro e w1 ⟨v, rfl, hv, hb1⟩
    refine HK.out _ _ ?_
    have HJ := Lib.hid (And.intro hv hb1)
    obtain ⟨G2, G3, G4, G5, G6⟩ := (HX.out.2.2.more hb1).var
    have G0 := cell_later hb1 HX.out.1
    clear HK hv hb1 G1
    try simp only [Act.put, List.setIfInBounds_toArray, List.set_cons_zero, List.set_cons_succ]
    refine wpAnyIn_ready (rs := [1]) (by kernel_rfl) (by simp) ?_
    refine AllReadyIn.cons (o := { dst := some 9, op := Go.Op.load 51 (Go.Operand.tmp 4), type := 51, pos := "space.go:111", after := #[], guard := none }) rfl (fun K hK => ?_) AllReadyIn.nil
    have HK := Lib.hid hK
    clear hK
    go_simp
    refine HK.out _ _ ?_
    clear HK
    try simp only [Act.put, List.setIfInBounds_toArray, List.set_cons_zero, List.set_cons_succ]
    exact HF.out _ _ _ HJ.out.2 HJ.out.1 (by kernel_rfl) (by kernel_rfl) (by kernel_rfl)
  refine AllReadyIn.cons (o := { dst := some 9, op := Go.Op.load 51 (Go.Operand.tmp 4), type := 51, pos := "space.go:111", after := #[], guard := none }) rfl (fun K hK => ?_) ?_
  · skip
    have HK := Lib.hid hK
    clear hK
    go_simp
    refine HK.out _ _ ?_
    clear HK
    try simp only [Act.put, List.setIfInBounds_toArray, List.set_cons_zero, List.set_cons_succ]
    refine wpAnyIn_ready (rs := [0, 2]) (by kernel_rfl) (by simp) ?_
    refine AllReadyIn.cons (o := { dst := some 8, op := Go.Op.load 154 (Go.Operand.tmp 2), type := 154, pos := "space.go:111", after := #[], guard := none }) rfl (fun K hK => ?_) ?_
    · skip
      have HK := Lib.hid hK
      clear hK
      go_simp
      refine HK.out _ _ ?_
      clear HK
      try simp only [Act.put, List.setIfInBounds_toArray, List.set_cons_zero, List.set_cons_succ]
      refine wpAnyIn_ready (rs := [2]) (by kernel_rfl) (by simp) ?_
      refine AllReadyIn.cons (o := { dst := some 10, op := Go.Op.load 51 (Go.Operand.tmp 4), type := 51, pos := "space.go:111", after := #[], guard := none }) rfl (fun K hK => ?_) AllReadyIn.nil
      have HK := Lib.hid hK
      clear hK
      go_simp
      refine HK.out _ _ ?_
      clear HK
      try simp only [Act.put, List.setIfInBounds_toArray, List.set_cons_zero, List.set_cons_succ]
      refine wpAnyIn_ready (rs := [4]) (by kernel_rfl) (by simp) ?_
      refine AllReadyIn.cons (o := { dst := some 12, op := Go.Op.call { callee := Go.Callee.value (Go.Operand.func 98), args := #[Go.Operand.tmp 10, Go.Operand.tmp 11], argTypes := #[51, 9] }, type := 57, pos := "space.go:111", after := #[{ on := 2, ground := Go.Ground.data }, { on := 3, ground := Go.Ground.data }], guard := none }) rfl (fun K hK => ?_) AllReadyIn.nil
      have HK := Lib.hid hK
      clear hK
      go_simp
      refine ⟨trivial, ?_⟩
      refine (CallsIn.inRound l2 (callsIn_wide.2 HC.out)).mono ?_
      rintro e w1 ⟨v, rfl, hv, hb1⟩
      refine HK.out _ _ ?_
      have HJ := Lib.hid (And.intro hv hb1)
      obtain ⟨G2, G3, G4, G5, G6⟩ := (HX.out.2.2.more hb1).var
      have G0 := cell_later hb1 HX.out.1
      clear HK hv hb1 G1
      try simp only [Act.put, List.setIfInBounds_toArray, List.set_cons_zero, List.set_cons_succ]
      exact HF.out _ _ _ HJ.out.2 HJ.out.1 (by kernel_rfl) (by kernel_rfl) (by kernel_rfl)
    refine AllReadyIn.cons (o := { dst := some 10, op := Go.Op.load 51 (Go.Operand.tmp 4), type := 51, pos := "space.go:111", after := #[], guard := none }) rfl (fun K hK => ?_) AllReadyIn.nil
    have HK := Lib.hid hK
    clear hK
    go_simp
    refine HK.out _ _ ?_
    clear HK
    try simp only [Act.put, List.setIfInBounds_toArray, List.set_cons_zero, List.set_cons_succ]
    refine wpAnyIn_ready (rs := [0, 4]) (by kernel_rfl) (by simp) ?_
    refine AllReadyIn.cons (o := { dst := some 8, op := Go.Op.load 154 (Go.Operand.tmp 2), type := 154, pos := "space.go:111", after := #[], guard := none }) rfl (fun K hK => ?_) ?_
    · skip
      have HK := Lib.hid hK
      clear hK
      go_simp
      refine HK.out _ _ ?_
      clear HK
      try simp only [Act.put, List.setIfInBounds_toArray, List.set_cons_zero, List.set_cons_succ]
      refine wpAnyIn_ready (rs := [4]) (by kernel_rfl) (by simp) ?_
      refine AllReadyIn.cons (o := { dst := some 12, op := Go.Op.call { callee := Go.Callee.value (Go.Operand.func 98), args := #[Go.Operand.tmp 10, Go.Operand.tmp 11], argTypes := #[51, 9] }, type := 57, pos := "space.go:111", after := #[{ on := 2, ground := Go.Ground.data }, { on := 3, ground := Go.Ground.data }], guard := none }) rfl (fun K hK => ?_) AllReadyIn.nil
      have HK := Lib.hid hK
      clear hK
      go_simp
      refine ⟨trivial, ?_⟩
      refine (CallsIn.inRound l2 (callsIn_wide.2 HC.out)).mono ?_
      rintro e w1 ⟨v, rfl, hv, hb1⟩
      refine HK.out _ _ ?_
      have HJ := Lib.hid (And.intro hv hb1)
      obtain ⟨G2, G3, G4, G5, G6⟩ := (HX.out.2.2.more hb1).var
      have G0 := cell_later hb1 HX.out.1
      clear HK hv hb1 G1
      try simp only [Act.put, List.setIfInBounds_toArray, List.set_cons_zero, List.set_cons_succ]
      exact HF.out _ _ _ HJ.out.2 HJ.out.1 (by kernel_rfl) (by kernel_rfl) (by kernel_rfl)
    refine AllReadyIn.cons (o := { dst := some 12, op := Go.Op.call { callee := Go.Callee.value (Go.Operand.func 98), args := #[Go.Operand.tmp 10, Go.Operand.tmp 11], argTypes := #[51, 9] }, type := 57, pos := "space.go:111", after := #[{ on := 2, ground := Go.Ground.data }, { on := 3, ground := Go.Ground.data }], guard := none }) rfl (fun K hK => ?_) AllReadyIn.nil
    have HK := Lib.hid hK
    clear hK
    go_simp
    refine ⟨trivial, ?_⟩
    refine (CallsIn.inRound l2 (callsIn_wide.2 HC.out)).mono ?_
    rintro e w1 ⟨v, rfl, hv, hb1⟩
    refine HK.out _ _ ?_
    have HJ := Lib.hid (And.intro hv hb1)
    obtain ⟨G2, G3, G4, G5, G6⟩ := (HX.out.2.2.more hb1).var
    have G0 := cell_later hb1 HX.out.1
    clear HK hv hb1 G1
    try simp only [Act.put, List.setIfInBounds_toArray, List.set_cons_zero, List.set_cons_succ]
    refine wpAnyIn_ready (rs := [0]) (by kernel_rfl) (by simp) ?_
    refine AllReadyIn.cons (o := { dst := some 8, op := Go.Op.load 154 (Go.Operand.tmp 2), type := 154, pos := "space.go:111", after := #[], guard := none }) rfl (fun K hK => ?_) AllReadyIn.nil
    have HK := Lib.hid hK
    clear hK
    go_simp
    refine HK.out _ _ ?_
    clear HK
    try simp only [Act.put, List.setIfInBounds_toArray, List.set_cons_zero, List.set_cons_succ]
    exact HF.out _ _ _ HJ.out.2 HJ.out.1 (by kernel_rfl) (by kernel_rfl) (by kernel_rfl)
  refine AllReadyIn.cons (o := { dst := some 10, op := Go.Op.load 51 (Go.Operand.tmp 4), type := 51, pos := "space.go:111", after := #[], guard := none }) rfl (fun K hK => ?_) AllReadyIn.nil
  have HK := Lib.hid hK
  clear hK
  go_simp
  refine HK.out _ _ ?_
  clear HK
  try simp only [Act.put, List.setIfInBounds_toArray, List.set_cons_zero, List.set_cons_succ]
  refine wpAnyIn_ready (rs := [0, 1, 4]) (by kernel_rfl) (by simp) ?_
  refine AllReadyIn.cons (o := { dst := some 8, op := Go.Op.load 154 (Go.Operand.tmp 2), type := 154, pos := "space.go:111", after := #[], guard := none }) rfl (fun K hK => ?_) ?_
  · skip
    have HK := Lib.hid hK
    clear hK
    go_simp
    refine HK.out _ _ ?_
    clear HK
    try simp only [Act.put, List.setIfInBounds_toArray, List.set_cons_zero, List.set_cons_succ]
    refine wpAnyIn_ready (rs := [1, 4]) (by kernel_rfl) (by simp) ?_
    refine AllReadyIn.cons (o := { dst := some 9, op := Go.Op.load 51 (Go.Operand.tmp 4), type := 51, pos := "space.go:111", after := #[], guard := none }) rfl (fun K hK => ?_) ?_
    · skip
      have HK := Lib.hid hK
      clear hK
      go_simp
      refine HK.out _ _ ?_
      clear HK
      try simp only [Act.put, List.setIfInBounds_toArray, List.set_cons_zero, List.set_cons_succ]
      refine wpAnyIn_ready (rs := [4]) (by kernel_rfl) (by simp) ?_
      refine AllReadyIn.cons (o := { dst := some 12, op := Go.Op.call { callee := Go.Callee.value (Go.Operand.func 98), args := #[Go.Operand.tmp 10, Go.Operand.tmp 11], argTypes := #[51, 9] }, type := 57, pos := "space.go:111", after := #[{ on := 2, ground := Go.Ground.data }, { on := 3, ground := Go.Ground.data }], guard := none }) rfl (fun K hK => ?_) AllReadyIn.nil
      have HK := Lib.hid hK
      clear hK
      go_simp
      refine ⟨trivial, ?_⟩
      refine (CallsIn.inRound l2 (callsIn_wide.2 HC.out)).mono ?_
      rintro e w1 ⟨v, rfl, hv, hb1⟩
      refine HK.out _ _ ?_
      have HJ := Lib.hid (And.intro hv hb1)
      obtain ⟨G2, G3, G4, G5, G6⟩ := (HX.out.2.2.more hb1).var
      have G0 := cell_later hb1 HX.out.1
      clear HK hv hb1 G1
      try simp only [Act.put, List.setIfInBounds_toArray, List.set_cons_zero, List.set_cons_succ]
      exact HF.out _ _ _ HJ.out.2 HJ.out.1 (by kernel_rfl) (by kernel_rfl) (by kernel_rfl)
    refine AllReadyIn.cons (o := { dst := some 12, op := Go.Op.call { callee := Go.Callee.value (Go.Operand.func 98), args := #[Go.Operand.tmp 10, Go.Operand.tmp 11], argTypes := #[51, 9] }, type := 57, pos := "space.go:111", after := #[{ on := 2, ground := Go.Ground.data }, { on := 3, ground := Go.Ground.data }], guard := none }) rfl (fun K hK => ?_) AllReadyIn.nil
    have HK := Lib.hid hK
    clear hK
    go_simp
    refine ⟨trivial, ?_⟩
    refine (CallsIn.inRound l2 (callsIn_wide.2 HC.out)).mono ?_
    rintro e w1 ⟨v, rfl, hv, hb1⟩
    refine HK.out _ _ ?_
    have HJ := Lib.hid (And.intro hv hb1)
    obtain ⟨G2, G3, G4, G5, G6⟩ := (HX.out.2.2.more hb1).var
    have G0 := cell_later hb1 HX.out.1
    clear HK hv hb1 G1
    try simp only [Act.put, List.setIfInBounds_toArray, List.set_cons_zero, List.set_cons_succ]
    refine wpAnyIn_ready (rs := [1]) (by kernel_rfl) (by simp) ?_
    refine AllReadyIn.cons (o := { dst := some 9, op := Go.Op.load 51 (Go.Operand.tmp 4), type := 51, pos := "space.go:111", after := #[], guard := none }) rfl (fun K hK => ?_) AllReadyIn.nil
    have HK := Lib.hid hK
    clear hK
    go_simp
    refine HK.out _ _ ?_
    clear HK
    try simp only [Act.put, List.setIfInBounds_toArray, List.set_cons_zero, List.set_cons_succ]
    exact HF.out _ _ _ HJ.out.2 HJ.out.1 (by kernel_rfl) (by kernel_rfl) (by kernel_rfl)
  refine AllReadyIn.cons (o := { dst := some 9, op := Go.Op.load 51 (Go.Operand.tmp 4), type := 51, pos := "space.go:111", after := #[], guard := none }) rfl (fun K hK => ?_) ?_
  · skip
    have HK := Lib.hid hK
    clear hK
    go_simp
    refine HK.out _ _ ?_
    clear HK
    try simp only [Act.put, List.setIfInBounds_toArray, List.set_cons_zero, List.set_cons_succ]
    refine wpAnyIn_ready (rs := [0, 4]) (by kernel_rfl) (by simp) ?_
    refine AllReadyIn.cons (o := { dst := some 8, op := Go.Op.load 154 (Go.Operand.tmp 2), type := 154, pos := "space.go:111", after := #[], guard := none }) rfl (fun K hK => ?_) ?_
    · skip
      have HK := Lib.hid hK
      clear hK
      go_simp
      refine HK.out _ _ ?_
      clear HK
      try simp only [Act.put, List.setIfInBounds_toArray, List.set_cons_zero, List.set_cons_succ]
      refine wpAnyIn_ready (rs := [4]) (by kernel_rfl) (by simp) ?_
      refine AllReadyIn.cons (o := { dst := some 12, op := Go.Op.call { callee := Go.Callee.value (Go.Operand.func 98), args := #[Go.Operand.tmp 10, Go.Operand.tmp 11], argTypes := #[51, 9] }, type := 57, pos := "space.go:111", after := #[{ on := 2, ground := Go.Ground.data }, { on := 3, ground := Go.Ground.data }], guard := none }) rfl (fun K hK => ?_) AllReadyIn.nil
      have HK := Lib.hid hK
      clear hK
      go_simp
      refine ⟨trivial, ?_⟩
      refine (CallsIn.inRound l2 (callsIn_wide.2 HC.out)).mono ?_
      rintro e w1 ⟨v, rfl, hv, hb1⟩
      refine HK.out _ _ ?_
      have HJ := Lib.hid (And.intro hv hb1)
      obtain ⟨G2, G3, G4, G5, G6⟩ := (HX.out.2.2.more hb1).var
      have G0 := cell_later hb1 HX.out.1
      clear HK hv hb1 G1
      try simp only [Act.put, List.setIfInBounds_toArray, List.set_cons_zero, List.set_cons_succ]
      exact HF.out _ _ _ HJ.out.2 HJ.out.1 (by kernel_rfl) (by kernel_rfl) (by kernel_rfl)
    refine AllReadyIn.cons (o := { dst := some 12, op := Go.Op.call { callee := Go.Callee.value (Go.Operand.func 98), args := #[Go.Operand.tmp 10, Go.Operand.tmp 11], argTypes := #[51, 9] }, type := 57, pos := "space.go:111", after := #[{ on := 2, ground := Go.Ground.data }, { on := 3, ground := Go.Ground.data }], guard := none }) rfl (fun K hK => ?_) AllReadyIn.nil
    have HK := Lib.hid hK
    clear hK
    go_simp
    refine ⟨trivial, ?_⟩
    refine (CallsIn.inRound l2 (callsIn_wide.2 HC.out)).mono ?_
    rintro e w1 ⟨v, rfl, hv, hb1⟩
    refine HK.out _ _ ?_
    have HJ := Lib.hid (And.intro hv hb1)
    obtain ⟨G2, G3, G4, G5, G6⟩ := (HX.out.2.2.more hb1).var
    have G0 := cell_later hb1 HX.out.1
    clear HK hv hb1 G1
    try simp only [Act.put, List.setIfInBounds_toArray, List.set_cons_zero, List.set_cons_succ]
    refine wpAnyIn_ready (rs := [0]) (by kernel_rfl) (by simp) ?_
    refine AllReadyIn.cons (o := { dst := some 8, op := Go.Op.load 154 (Go.Operand.tmp 2), type := 154, pos := "space.go:111", after := #[], guard := none }) rfl (fun K hK => ?_) AllReadyIn.nil
    have HK := Lib.hid hK
    clear hK
    go_simp
    refine HK.out _ _ ?_
    clear HK
    try simp only [Act.put, List.setIfInBounds_toArray, List.set_cons_zero, List.set_cons_succ]
    exact HF.out _ _ _ HJ.out.2 HJ.out.1 (by kernel_rfl) (by kernel_rfl) (by kernel_rfl)
  refine AllReadyIn.cons (o := { dst := some 12, op := Go.Op.call { callee := Go.Callee.value (Go.Operand.func 98), args := #[Go.Operand.tmp 10, Go.Operand.tmp 11], argTypes := #[51, 9] }, type := 57, pos := "space.go:111", after := #[{ on := 2, ground := Go.Ground.data }, { on := 3, ground := Go.Ground.data }], guard := none }) rfl (fun K hK => ?_) AllReadyIn.nil
  have HK := Lib.hid hK
  clear hK
  go_simp
  refine ⟨trivial, ?_⟩
  refine (CallsIn.inRound l2 (callsIn_wide.2 HC.out)).mono ?_
  rintro e w1 ⟨v, rfl, hv, hb1⟩
  refine HK.out _ _ ?_
  have HJ := Lib.hid (And.intro hv hb1)
  obtain ⟨G2, G3, G4, G5, G6⟩ := (HX.out.2.2.more hb1).var
  have G0 := cell_later hb1 HX.out.1
  clear HK hv hb1 G1
  try simp only [Act.put, List.setIfInBounds_toArray, List.set_cons_zero, List.set_cons_succ]
  refine wpAnyIn_ready (rs := [0, 1]) (by kernel_rfl) (by simp) ?_
  refine AllReadyIn.cons (o := { dst := some 8, op := Go.Op.load 154 (Go.Operand.tmp 2), type := 154, pos := "space.go:111", after := #[], guard := none }) rfl (fun K hK => ?_) ?_
  · skip
    have HK := Lib.hid hK
    clear hK
    go_simp
    refine HK.out _ _ ?_
    clear HK
    try simp only [Act.put, List.setIfInBounds_toArray, List.set_cons_zero, List.set_cons_succ]
    refine wpAnyIn_ready (rs := [1]) (by kernel_rfl) (by simp) ?_
    refine AllReadyIn.cons (o := { dst := some 9, op := Go.Op.load 51 (Go.Operand.tmp 4), type := 51, pos := "space.go:111", after := #[], guard := none }) rfl (fun K hK => ?_) AllReadyIn.nil
    have HK := Lib.hid hK
    clear hK
    go_simp
    refine HK.out _ _ ?_
    clear HK
    try simp only [Act.put, List.setIfInBounds_toArray, List.set_cons_zero, List.set_cons_succ]
    exact HF.out _ _ _ HJ.out.2 HJ.out.1 (by kernel_rfl) (by kernel_rfl) (by kernel_rfl)
  refine AllReadyIn.cons (o := { dst := some 9, op := Go.Op.load 51 (Go.Operand.tmp 4), type := 51, pos := "space.go:111", after := #[], guard := none }) rfl (fun K hK => ?_) AllReadyIn.nil
  have HK := Lib.hid hK
  clear hK
  go_simp
  refine HK.out _ _ ?_
  clear HK
  try simp only [Act.put, List.setIfInBounds_toArray, List.set_cons_zero, List.set_cons_succ]
  refine wpAnyIn_ready (rs := [0]) (by kernel_rfl) (by simp) ?_
  refine AllReadyIn.cons (o := { dst := some 8, op := Go.Op.load 154 (Go.Operand.tmp 2), type := 154, pos := "space.go:111", after := #[], guard := none }) rfl (fun K hK => ?_) AllReadyIn.nil
  have HK := Lib.hid hK
  clear hK
  go_simp
  refine HK.out _ _ ?_
  clear HK
  try simp only [Act.put, List.setIfInBounds_toArray, List.set_cons_zero, List.set_cons_succ]
  exact HF.out _ _ _ HJ.out.2 HJ.out.1 (by kernel_rfl) (by kernel_rfl) (by kernel_rfl)

end Go.Proofs.YtlafcplcjpcikaaGreatDoor

/- check: the objects, each beside what is wrong with it, by an iterator over another one. -/
namespace Go.Proofs.YtlafcplcjpcikaaGreatDoor
open Go.RowKit Go.Proofs.Fld Go.Proofs.Rng Go.Proofs.Spc Go.Shelf Go.Sort

attribute [local go_sem] Oper.semAt_some

section
variable {l n : Nat} {P : Program} {ops : Array Oper} {Q : Exit → Act → World → Prop}
/-- A region that draws its order, in a round: whichever operation may come up. -/
theorem wpIn_round_any {id k : Nat} {a : Act} {w : World} (hm : P.follows .mixedOrders = true) (hk : ops.size = k)
    (h : wpAnyIn (Fence.wide.inRound l) n P .any ops Q k (Array.replicate k false) a w.drew) : (Code.region id ops true).wpIn (Fence.wide.inRound l) n P Q a w :=
  wpIn_region_draw fun t => by
    subst hk
    simp only [Region.schedule, hm, Bool.true_or, if_true]
    exact wpAnyIn_sound ops.size t _ a _ h
end

/-- An object, and what is wrong with it, as two values. -/
def encE (y : Ov × Value) : Array Value := #[ov y.1, y.2]
def fsts (l : List (Ov × Value)) : List Ov := l.map Prod.fst
theorem fsts_snoc (p : List (Ov × Value)) (y : Ov × Value) : fsts (p ++ [y]) = fsts p ++ [y.1] := by simp [fsts]
/-- What is sure of one that comes. -/
def HJ (zs : List Ov) (pre : List (Ov × Value)) (y : Ov × Value) : Prop := fsts pre ++ [y.1] <+: zs ∧ JudV (nextB (lastN [] (obs (fsts pre))) y.1.o) y.2
/-- All blocks but one lie as they lay. -/
def KA (X : Nat) (A B : World) : Prop := A.grownBy B (some X)
theorem KA.trans {X : Nat} {A B C : World} (h : KA X A B) (k : KA X B C) : KA X A C := World.grownBy.trans h k
theorem KA.of_below {X : Nat} {A B : World} (h : Below A.heap.size A B) : KA X A B := (below_grown h).but _
theorem KA.boxed {X b : Nat} {A B : World} {t : TypeId} {v : Value} (h : KA X A B) (hx : Boxed A b t v) (hne : b ≠ X) : Boxed B b t v := (h.block b hx.lt (fun e => hne (by cases e; rfl))).trans hx
theorem KA.set {X b : Nat} {A B : World} {o : Nat} {v : Value} (h : KA X A B) (hb : A.heap.size ≤ b) : KA X A (B.setCell ⟨b, o, none⟩ v) :=
  ⟨h.os, h.tape, h.output, Nat.le_trans h.size (by simp [World.setCell]), fun k hk hx => (Below.heap_setCell B ⟨b, o, none⟩ v k (fun e => by have : k = b := e; omega)).trans (h.block k hk hx)⟩
theorem KA.low {X m : Nat} {A B : World} (h : KA X A B) (hX : m ≤ X) (hm : m ≤ A.heap.size) : Below m A B := ⟨h.os, h.tape, h.output, h.size, fun k hk => h.block k (by omega) (fun e => by cases e; omega)⟩

theorem below_put (W : World) (D : Nat) (o : Obj) (m : Nat) (h : m ≤ D) : Below m W (W.putObj D o) := ⟨rfl, rfl, rfl, by simp, fun k hk => World.putObj_heap_other (by omega)⟩
/-- judged's iterator between two rounds. -/
def JgI (l : Nat) (w W : World) (J : List (Ov × Value) → World → Prop) (pre : List Ov) (V : World) : Prop :=
  (∃ p, fsts p = pre ∧ J p V) ∧ (Boxed V W.heap.size 154 (.func (.yield l) #[] #[]) ∧ Boxed V (W.heap.size + 1) 9 (.string (bs (lastN [] (obs pre)))) ∧ W.heap.size + 3 ≤ V.heap.size) ∧ KA (w.heap.size + 1) W V
/-- .. when a round has left. -/
def JgX (W : World) (Jx : List (Ov × Value) → World → Prop) (c : Code) (pre : List Ov) (V : World) : Prop := c = .ret ∧ (∃ p, fsts p = pre ∧ Jx p V) ∧ W.heap.size ≤ V.heap.size
theorem grown_low {A V : World} {row : Option Nat} {m n0 : Nat} (hg : A.grownBy V row) (hr : ∀ r, row = some r → n0 ≤ r ∧ ∃ o : Obj, A.heap[r]? = some o ∧ o.isCells = false) (hm : m ≤ n0) (hA : m ≤ A.heap.size) : Below m A V := ⟨hg.os, hg.tape, hg.output, hg.size, fun k hk => hg.block k (by omega) (fun e => by have := (hr k e.symm).1; omega)⟩
theorem JgI.own {l : Nat} {w W : World} {J : List (Ov × Value) → World → Prop} {n0 : Nat} (hJ : AbB W.heap.size J) (hn : W.heap.size ≤ n0) : OwnFrom n0 (JgI l w W J) := by
  rintro pre A V row ⟨⟨p, hp, hj⟩, ⟨b0, b1, hz⟩, hk⟩ hg hr
  refine ⟨⟨p, hp, hJ p A V hj (grown_low hg hr hn (by omega))⟩, ⟨boxed_keep b0 hg (fun r e => (hr r e).2), boxed_keep b1 hg (fun r e => (hr r e).2), Nat.le_trans hz hg.size⟩, ?_⟩
  exact ⟨hg.os.trans hk.os, hg.tape.trans hk.tape, hg.output.trans hk.output, Nat.le_trans hk.size hg.size, fun k hkk hx => (hg.block k (Nat.lt_of_lt_of_le hkk hk.size) (fun e => by have := (hr k e.symm).1; omega)).trans (hk.block k hkk hx)⟩
theorem JgX.own {W : World} {Jx : List (Ov × Value) → World → Prop} {n0 : Nat} (hJ : AbB W.heap.size Jx) (hn : W.heap.size ≤ n0) (c : Code) : OwnFrom n0 (JgX W Jx c) := by
  rintro pre A V row ⟨hc, ⟨p, hp, hj⟩, hz⟩ hg hr
  exact ⟨hc, ⟨p, hp, hJ p A V hj (grown_low hg hr hn hz)⟩, Nat.le_trans hz hg.size⟩

set_option maxRecDepth 100000 in
set_option maxHeartbeats 4000000 in
theorem judged1 (n : Nat) (hn : 3 ≤ n) {s : Sn} (B1 len cap : Nat) (ao : Option Addr) (zs : List Ov) (hreach : len ≤ 1000000) (w : World) (hs : Ev s w) (hbd : ∀ x ∈ zs, Bd x.o)
    (hB1 : w.cell? ⟨B1, 0, none⟩ = some (.slice ao len cap)) (hL : Objs w ao len cap zs) :
    SeqB (HJ zs) n Tryz.prog 97 #[.pointer (some ⟨B1, 0, none⟩)] encE (KA (w.heap.size + 1)) (fun ys => fsts ys = zs) (fun pre => fsts pre <+: zs) w := fun l J Jx W hW hWs hJ hJx hY h0 => by
  have hn1 : 1 ≤ n := by omega
  refine callsIn_of_wp_marks Tryz.func97 rfl trivial ?_ rfl
  simp only [Tryz.ntmps97, List.size_toArray, List.length_cons, List.length_nil, Nat.reduceAdd, Nat.reduceSub, Array.replicate_succ, Array.replicate_zero, List.push_toArray, List.append_toArray, List.nil_append, List.cons_append]
  have c1 := cell_later hW hB1
  have HL := Lib.hid (And.intro hL (And.intro hs (And.intro hbd hW)))
  have HJ := Lib.hid (And.intro hJ (And.intro hJx h0))
  have HY := Lib.hid hY
  clear hL hs hbd hB1 hJ hJx h0 hY hW
  have hBi : Below W.heap.size W (((W.alloc (.cells #[.func (.yield l) #[] #[]] 154)).alloc (.cells #[.string { data := #[] }] 9)).setCell ⟨W.heap.size + 1, 0, none⟩ (.string { data := #[] })) := ((Below.new W _).alloc (by simp) _).setCell (p := ⟨W.heap.size + 1, 0, none⟩) (by simp) _
  have hr0 : Boxed (((W.alloc (.cells #[.func (.yield l) #[] #[]] 154)).alloc (.cells #[.string { data := #[] }] 9)).setCell ⟨W.heap.size + 1, 0, none⟩ (.string { data := #[] })) (W.heap.size + 1) 9 (.string { data := #[] }) := by
    have := Boxed.new (W.alloc (.cells #[.func (.yield l) #[] #[]] 154)) 9 (.string { data := #[] })
    rw [World.size_alloc] at this
    exact this.set _
  have hl0 : Boxed (((W.alloc (.cells #[.func (.yield l) #[] #[]] 154)).alloc (.cells #[.string { data := #[] }] 9)).setCell ⟨W.heap.size + 1, 0, none⟩ (.string { data := #[] })) W.heap.size 154 (.func (.yield l) #[] #[]) := ((Boxed.new W _ _).alloc _).other (by omega) _
  have hzi : (((W.alloc (.cells #[.func (.yield l) #[] #[]] 154)).alloc (.cells #[.string { data := #[] }] 9)).setCell ⟨W.heap.size + 1, 0, none⟩ (.string { data := #[] })).heap.size = W.heap.size + 2 := by simp [World.setCell]
  obtain ⟨Wi, hWi⟩ : ∃ Wi, ((W.alloc (.cells #[.func (.yield l) #[] #[]] 154)).alloc (.cells #[.string { data := #[] }] 9)).setCell ⟨W.heap.size + 1, 0, none⟩ (.string { data := #[] }) = Wi := ⟨_, rfl⟩
  rw [hWi] at hBi hr0 hl0 hzi
  have HI := Lib.hid (And.intro hBi (And.intro hr0 hl0))
  have c2 : Wi.cell? ⟨B1, 0, none⟩ = some (.slice ao len cap) := cell_later hBi c1
  clear hBi hr0 hl0 c1
  gi_wp2
  gi_wp2_with (refine ⟨trivial, ?_⟩; gi_at_call 79; refine (callsIn_wide.2 (all_any ao len cap _)).mono ?_)
  rintro e W0 ⟨rfl, rfl⟩
  rw [hzi]
  have hb0 := Below.new Wi (.cells #[.slice ao len cap] 92)
  have hc1 : (Wi.alloc (.cells #[.slice ao len cap] 92)).cell? ⟨W.heap.size + 2, 0, none⟩ = some (.slice ao len cap) := by rw [← hzi]; simp
  have hz0 : (Wi.alloc (.cells #[.slice ao len cap] 92)).heap.size = W.heap.size + 3 := by rw [World.size_alloc, hzi]
  obtain ⟨W0, hW0⟩ : ∃ W0, Wi.alloc (.cells #[.slice ao len cap] 92) = W0 := ⟨_, rfl⟩
  rw [hW0] at hb0 hc1 hz0 ⊢
  have HA := Lib.hid (And.intro hc1 (And.intro hz0 (And.intro (below_more HI.out.1 hb0) (And.intro (boxed_more HI.out.2.1 hb0) (boxed_more HI.out.2.2 hb0)))))
  clear hb0 hc1 HI hW0 c2
  gi_wp2
  refine wpIn_rangeY hn1 (gf := 99) (lb := #[.pointer (some ⟨W.heap.size + 2, 0, none⟩)]) rfl (enters_of Tryz.func99 (by kernel_rfl) rfl)
    (vals1 (n - 1) (by omega) (fun k => k < w.heap.size) (W.heap.size + 2) len cap ao zs hreach W0 (fun k hk => by omega) HA.out.1 ((HL.out.1.more HL.out.2.2.2).more HA.out.2.2.1) ?hap) KS.trans (fun V o o' _ _ _ => KS.put _ _ _ (by omega)) (fun _ => rfl)
    (JgI l w W J) (JgX W Jx) ?hI ?hIx ?h0
    (fun x a' V => ∃ Bx, W.heap.size + 3 ≤ Bx ∧ ObAt V Bx 0 x ∧ a' = { tmps := #[.func (.yield l) #[] #[], .pointer (some ⟨B1, 0, none⟩), .pointer (some ⟨W.heap.size, 0, none⟩), .pointer (some ⟨W.heap.size + 1, 0, none⟩), .pointer (some ⟨Bx, 0, none⟩), .slice ao len cap, .func (.func 99) #[] #[.pointer (some ⟨W.heap.size + 2, 0, none⟩)], .agg #[.string (bs x.o.n), .int .i64 x.o.k, .string (bs x.o.d), .int .i64 x.o.m, .slice x.a x.o.l.length x.c], undef, undef, undef, undef, undef, undef, undef, undef, undef], defers := [] })
    ?hAx ?assign ?body ?done ?stop
  case hap =>
    intro hp a e
    obtain ⟨b, off, e', hbl, _⟩ := HL.out.1.at hp
    rw [e] at e'
    obtain rfl := Option.some.inj e'
    exact hbl
  case hI => exact JgI.own HJ.out.1 (by omega)
  case hIx => exact fun c => JgX.own HJ.out.2.1 (by omega) c
  case hAx =>
    rintro x a' _ A B row ⟨Bx, h0, h1, rfl⟩ hg hr
    exact ⟨Bx, h0, obat_keep h1 hg (fun r e => (hr r e).2), rfl⟩
  case h0 => exact ⟨⟨[], rfl, HJ.out.1 _ _ _ HJ.out.2.2 HA.out.2.2.1⟩, ⟨HA.out.2.2.2.2, HA.out.2.2.2.1, by omega⟩, KA.of_below HA.out.2.2.1⟩
  case assign =>
    rintro l2 pre x V K ⟨⟨p, hp, hj⟩, ⟨b0, b1, hz⟩, hk⟩ hH hK
    have HK := Lib.hid hK
    have hb := Below.new V (.cells #[.string (bs x.o.n), .int .i64 x.o.k, .string (bs x.o.d), .int .i64 x.o.m, .slice x.a x.o.l.length x.c] 51)
    have HP := Lib.hid (show JgI l w W J pre (V.alloc (.cells #[.string (bs x.o.n), .int .i64 x.o.k, .string (bs x.o.d), .int .i64 x.o.m, .slice x.a x.o.l.length x.c] 51)) from JgI.own HJ.out.1 (Nat.le_refl _) pre V _ none ⟨⟨p, hp, hj⟩, ⟨b0, b1, hz⟩, hk⟩ (below_grown hb) (fun r e => by cases e))
    clear hK b0 b1 hj hk hp hb
    simp only [ov]
    gi_wp2
    exact HK.out _ _ ((KeepsOthers.alloc _ _).from _) (KS.of_below (m := V.heap.size) (Below.new V _) (fun k hk => by omega)) HP.out ⟨V.heap.size, hz, ObAt.new V x _, rfl⟩
  case body =>
    rintro l2 pre x a' V ⟨⟨p, hp, hj⟩, ⟨b0, b1, hz⟩, hk⟩ hH ⟨Bx, hBx, hx, rfl⟩
    obtain ⟨a, ha⟩ : ∃ a, lastN [] (obs pre) = a := ⟨_, rfl⟩
    rw [ha] at b1
    have hm : x ∈ zs := hH.subset (by simp)
    have hwV : Below w.heap.size w V := HL.out.2.2.2.trans (hk.low (by omega) (by omega))
    have HV := Lib.hid (And.intro hp (And.intro hj (And.intro hk (And.intro b0 (And.intro b1 (And.intro hx (And.intro hH ha)))))))
    have HX := Lib.hid (And.intro (HL.out.2.2.1 x hm) (And.intro ((HL.out.1.hrows x hm).more hwV) (HL.out.2.1.more hwV)))
    clear hj hk b0 b1 hx hH ha hm hwV hp
    gi_wp2
    have hVd : Below V.heap.size V V.drew := (Below.refl _ V).drew
    refine wpIn_round_any (k := 7) (by kernel_rfl) rfl ?_
    refine jg_region (n := n - 1 - 1) (V := V.drew) (by omega) (s := s) (l := l) (x := x) (a := a) HV.out.2.2.2.1.cell HV.out.2.2.2.2.1.cell HV.out.2.2.2.2.2.1 HX.out.1 (HX.out.2.1.more hVd) (HX.out.2.2.more hVd) (m := n - 1)
      (fun w1 v hb1 hv => HY.out p (x, v) w1 (HJ.out.1 p V w1 HV.out.2.1 ((hVd.trans hb1).mono (by omega))) ⟨by rw [HV.out.1]; exact HV.out.2.2.2.2.2.2.1, by rw [HV.out.1, HV.out.2.2.2.2.2.2.2]; exact hv⟩) ?_
    rintro w1 v e w3 hb1 hv (⟨rfl, hj3, hk3, hf3⟩ | ⟨rfl, hj3, hf3⟩)
    · refine ⟨true, rfl, ?_⟩
      have hb2 : Below V.heap.size V w1 := hVd.trans hb1
      have k3 : KA (w.heap.size + 1) V w3 := (KA.of_below hb2).trans hk3
      have b3 := k3.boxed HV.out.2.2.2.2.1 (by omega)
      have f3 := k3.boxed HV.out.2.2.2.1 (by omega)
      have cb := b3.cell
      have fb := b3.frozen
      have ox : ObAt w3 Bx 0 x := HV.out.2.2.2.2.2.1.of_block (k3.block Bx HV.out.2.2.2.2.2.1.lt (fun e => by cases e; omega))
      obtain ⟨y0, _, _, _, _⟩ := ox.var
      have hsz := k3.size
      have HE := Lib.hid (show KeepsFrom W0.heap.size V (w3.setCell ⟨W.heap.size + 1, 0, none⟩ (.string (bs x.o.n))) ∧ KS (fun k => k < w.heap.size) V (w3.setCell ⟨W.heap.size + 1, 0, none⟩ (.string (bs x.o.n))) ∧ JgI l w W J (pre ++ [x]) (w3.setCell ⟨W.heap.size + 1, 0, none⟩ (.string (bs x.o.n))) from by
        refine ⟨(((keeps_below hb2).from _).trans (KeepsFrom.up hf3 (by omega))).trans ((KeepsOthers.setCell _ _ _).from _), ⟨by simp [World.setCell]; exact hsz, fun k hk => (Below.heap_setCell _ _ _ _ (fun e => by have : k = W.heap.size + 1 := e; omega)).trans (k3.block k (by omega) (fun e => by cases e; omega))⟩, ⟨p ++ [(x, v)], by rw [fsts_snoc, HV.out.1], ?_⟩, ⟨f3.other (by omega) _, ?_, ?_⟩, ?_⟩
        · exact HJ.out.1 _ w3 _ hj3 ((Below.refl W.heap.size w3).setCell (p := ⟨W.heap.size + 1, 0, none⟩) (by simp) _)
        · have := b3.set (.string (bs x.o.n))
          rw [show obs (pre ++ [x]) = obs pre ++ [x.o] by simp [obs], lastN_snoc]
          exact this
        · simp [World.setCell]; omega
        · exact (HV.out.2.2.1.trans k3).set (by omega))
      clear hj3 hk3 hf3 hb2 k3 b3 f3 ox hv hb1 hVd
      gi_wp2
      exact HE.out
    · refine ⟨false, rfl, ?_⟩
      have HE := Lib.hid (show KeepsFrom W0.heap.size V w3 ∧ JgX W Jx .ret (pre ++ [x]) w3 from ⟨((keeps_below (hVd.trans hb1)).from _).trans (KeepsFrom.up hf3 (by omega)), rfl, ⟨p ++ [(x, v)], by rw [fsts_snoc, HV.out.1], hj3⟩, by have := (hVd.trans hb1).size; have := hf3.size; omega⟩)
      clear hj3 hf3 hv hb1 hVd
      gi_wp2
      exact HE.out
  case done =>
    rintro D ys V hD rfl ⟨⟨p, hp, hj⟩, _, hk⟩ hK
    have HU := Lib.hid (And.intro hp (And.intro (HJ.out.1 _ _ (V.putObj D (.deferred none)) hj (below_put V _ _ _ (by omega))) hK))
    clear hj hk hK hp
    gi_wp2
    refine ⟨by simp, .inl ⟨_, _, rfl, run_takeDeferred HU.out.2.2, ?_⟩⟩
    exact ⟨_, results_none rfl _ _ _, ⟨_, rfl⟩, .inl ⟨p, HU.out.1, HU.out.2.1⟩⟩
  case stop =>
    rintro D c pre V hD hpre ⟨rfl, ⟨p, hp, hj⟩, _⟩ hK
    have HU := Lib.hid (And.intro hp (And.intro (HJ.out.2.1 _ _ (V.putObj D (.deferred none)) hj (below_put V _ _ _ (by omega))) (And.intro hK hpre)))
    clear hj hK hp hpre
    gi_wp2
    refine ⟨by simp, .inl ⟨_, _, rfl, run_takeDeferred HU.out.2.2.1, ?_⟩⟩
    exact ⟨_, results_none rfl _ _ _, ⟨_, rfl⟩, .inr ⟨p, by rw [HU.out.1]; exact HU.out.2.2.2, HU.out.2.1⟩⟩

end Go.Proofs.YtlafcplcjpcikaaGreatDoor

/- check, Right, Cost. -/
namespace Go.Proofs.YtlafcplcjpcikaaGreatDoor
open Go.RowKit Go.Proofs.Fld Go.Proofs.Rng Go.Proofs.Spc Go.Shelf Go.Sort

attribute [local go_sem] Oper.semAt_some

/-- What check tells. -/
def ErrV (v : Value) (c : Int) : Prop := (∃ s, v = Sp.flt c s) ∨ (∃ nm s, v = Sp.abt nm c s)
def ChP (b : Bool) (w : World) (e : Ending) (w' : World) : Prop := ((b = true ∧ e = .returned .nilIface) ∨ (b = false ∧ ∃ v, e = .returned v ∧ ErrV v 110)) ∧ Below w.heap.size w w'
theorem ErrV.is {v : Value} {c : Int} (h : ErrV v c) : Sp.ErrIs v c := by
  rcases h with ⟨s, rfl⟩ | ⟨nm, s, rfl⟩
  · exact .flt _ _
  · exact .abt _ _ _
theorem ErrV.iface {v : Value} {c : Int} (h : ErrV v c) : ∃ t u, v = .iface t u := by
  rcases h with ⟨s, rfl⟩ | ⟨nm, s, rfl⟩
  · exact ⟨_, _, rfl⟩
  · exact ⟨_, _, rfl⟩
/-- judged: the iterator, and its box. -/
def JdgP (ao : Option Addr) (len cap : Nat) (w : World) (e : Ending) (w' : World) : Prop :=
  e = .returned (.func (.func 97) #[] #[.pointer (some ⟨w.heap.size, 0, none⟩)]) ∧ w.alloc (.cells #[.slice ao len cap] 92) = w'
set_option maxHeartbeats 1000000 in
theorem judged_any (ao : Option Addr) (len cap : Nat) (w : World) :
    Calls Tryz.prog 92 #[.slice ao len cap] w (JdgP ao len cap w) := by
  go_enter Tryz.func92, Tryz.ntmps92
  go_wp2
  go_ret
  exact ⟨rfl, rfl⟩
/-- check between two rounds. -/
def CkI (w : World) (pre : List (Ov × Value)) (W : World) : Prop := (Boxed W w.heap.size 57 .nilIface ∧ goodF [] (obs (fsts pre)) = true ∧ w.heap.size + 2 ≤ W.heap.size) ∧ Below w.heap.size w W
/-- .. when a round has left. -/
def CkX (zs : List Ov) (w : World) (c : Code) (_ : List (Ov × Value)) (W : World) : Prop := (c = .ret ∧ goodF [] (obs zs) = false ∧ ∃ nm s, Boxed W w.heap.size 57 (Sp.abt nm 110 s)) ∧ Below w.heap.size w W
theorem boxed_low {A B : World} {m b : Nat} {t : TypeId} {v : Value} (h : Boxed A b t v) (k : Below m A B) (hb : b < m) : Boxed B b t v := (k.block b hb).trans h
theorem CkI.ab {w : World} : AbB (w.heap.size + 2) (CkI w) := by
  rintro pre A B ⟨⟨b0, hg, hz⟩, hb⟩ hk
  exact ⟨⟨boxed_low b0 hk (by omega), hg, Nat.le_trans hz hk.size⟩, hb.trans (hk.mono (by omega))⟩
theorem CkX.ab {zs : List Ov} {w : World} (c : Code) : AbB (w.heap.size + 2) (CkX zs w c) := by
  rintro pre A B ⟨⟨hc, hg, nm, s, b0⟩, hb⟩ hk
  exact ⟨⟨hc, hg, nm, s, boxed_low b0 hk (by omega)⟩, hb.trans (hk.mono (by omega))⟩
theorem good_prefix {zs p : List Ov} {x : Ov} (h : p ++ [x] <+: zs) (hn : nextB (lastN [] (obs p)) x.o = false) : goodF [] (obs zs) = false := by
  obtain ⟨t, rfl⟩ := h
  rw [show obs (p ++ [x] ++ t) = obs p ++ x.o :: obs t by simp [obs]]
  exact goodF_stop hn

set_option maxRecDepth 100000 in
set_option maxHeartbeats 4000000 in
theorem check_in (n : Nat) (hn : 6 ≤ n) {s : Sn} (ao : Option Addr) (len cap : Nat) (zs : List Ov) (hreach : len ≤ 1000000) (w : World) (hs : Ev s w) (hbd : ∀ x ∈ zs, Bd x.o) (hL : Objs w ao len cap zs) :
    CallsIn Fence.wide n Tryz.prog 78 #[.slice ao len cap] w (ChP (rightB (obs zs)) w) := by
  have hn1 : 1 ≤ n := by omega
  refine callsIn_of_wp_marks Tryz.func78 rfl trivial ?_ rfl
  simp only [Tryz.ntmps78, List.size_toArray, List.length_cons, List.length_nil, Nat.reduceAdd, Nat.reduceSub, Array.replicate_succ, Array.replicate_zero, List.push_toArray, List.append_toArray, List.nil_append, List.cons_append]
  have hlen := hL.hlen
  have hB1 := Below.new w (.cells #[.nilIface] 57)
  have b1 := Boxed.new w 57 .nilIface
  by_cases h20 : 20 < len
  · have hd : decide ((len : Int) > 20) = true := decide_eq_true (by omega)
    have HR := Lib.hid (show rightB (obs zs) = false by unfold rightB; rw [obs_length, hlen, decide_eq_false (by omega)]; rfl)
    clear hs hbd hL hB1 b1 hlen
    gi_wp2
    refine ⟨.iface 134 (.agg #[.int .i64 110, .string { data := #[116, 111, 111, 32, 109, 97, 110, 121, 32, 111, 98, 106, 101, 99, 116, 115] }]), ?_, .inr ⟨HR.out, _, rfl, .inl ⟨_, rfl⟩⟩, Below.new _ _⟩
    simp [results, Tryz.results78, go_sem]
  · have hd : decide ((len : Int) > 20) = false := decide_eq_false (by omega)
    have HR := Lib.hid (show rightB (obs zs) = goodF [] (obs zs) by unfold rightB; rw [obs_length, hlen, decide_eq_true (by omega)]; rfl)
    have hB2 := hB1.alloc (by simp) (.cells #[.slice ao len cap] 92)
    have b2 := b1.alloc (.cells #[.slice ao len cap] 92)
    have hz : ((w.alloc (.cells #[.nilIface] 57)).alloc (.cells #[.slice ao len cap] 92)).heap.size = w.heap.size + 2 := by simp
    have hc : ((w.alloc (.cells #[.nilIface] 57)).alloc (.cells #[.slice ao len cap] 92)).cell? ⟨w.heap.size + 1, 0, none⟩ = some (.slice ao len cap) := by simp
    obtain ⟨W0, hW0⟩ : ∃ W0, (w.alloc (.cells #[.nilIface] 57)).alloc (.cells #[.slice ao len cap] 92) = W0 := ⟨_, rfl⟩
    rw [hW0] at hB2 b2 hz hc
    have HA := Lib.hid (And.intro hB2 (And.intro b2 (And.intro hc (And.intro (hL.more hB2) (And.intro (hs.more hB2) hbd)))))
    have HG := Lib.hid hlen
    have HJ := Lib.hid (judged_any ao len cap (w.alloc (.cells #[.nilIface] 57)))
    have HWE := Lib.hid hW0
    clear hs hbd hL hB1 hB2 b1 b2 hc hlen hW0
    gi_wp2_with (refine ⟨trivial, ?_⟩; gi_at_call 92; refine (callsIn_wide.2 HJ.out).mono ?_)
    rintro e w0 ⟨rfl, rfl⟩
    rw [HWE.out, World.size_alloc]
    gi_wp2
    refine wpIn_rangeB hn1 (gf := 97) (lb := #[.pointer (some ⟨w.heap.size + 1, 0, none⟩)]) rfl (enters_of Tryz.func97 (by kernel_rfl) rfl)
      (judged1 (n - 1) (by omega) (w.heap.size + 1) len cap ao zs hreach W0 HA.out.2.2.2.2.1 HA.out.2.2.2.2.2 HA.out.2.2.1 HA.out.2.2.2.1) KA.trans (fun V o o' _ _ _ => grownBy_putObj' V _ o') (fun _ => rfl)
      (CkI w) (CkX zs w) ?hI ?hIx ?h0
      (fun y a' V => ∃ Bx, w.heap.size + 2 ≤ Bx ∧ ObAt V Bx 0 y.1 ∧ a' = { tmps := #[.slice ao len cap, undef, .pointer (some ⟨w.heap.size, 0, none⟩), .pointer (some ⟨Bx, 0, none⟩), y.2, .slice ao len cap, .int .i64 (len : Int), .bool false, undef, undef, .slice ao len cap, .func (.func 97) #[] #[.pointer (some ⟨w.heap.size + 1, 0, none⟩)], .agg #[.string (bs y.1.o.n), .int .i64 y.1.o.k, .string (bs y.1.o.d), .int .i64 y.1.o.m, .slice y.1.a y.1.o.l.length y.1.c], y.2, undef, undef, undef, undef, undef, undef, undef], defers := [] })
      ?hAx ?assign ?body ?done ?stop
    case hI => rw [hz]; exact CkI.ab
    case hIx => rw [hz]; exact fun c => CkX.ab c
    case hAx =>
      rintro x a' _ A B row ⟨Bx, h0, h1, rfl⟩ hg hr
      exact ⟨Bx, h0, obat_keep h1 hg (fun r e => (hr r e).2), rfl⟩
    case h0 => exact ⟨⟨HA.out.2.1, rfl, by omega⟩, HA.out.1⟩
    case assign =>
      rintro l pre ⟨x, v⟩ V K ⟨⟨b0, hg, hz1⟩, hB⟩ hH hK
      have HK := Lib.hid hK
      have hb := Below.new V (.cells #[.string (bs x.o.n), .int .i64 x.o.k, .string (bs x.o.d), .int .i64 x.o.m, .slice x.a x.o.l.length x.c] 51)
      have HP := Lib.hid (show CkI w pre (V.alloc (.cells #[.string (bs x.o.n), .int .i64 x.o.k, .string (bs x.o.d), .int .i64 x.o.m, .slice x.a x.o.l.length x.c] 51)) from CkI.ab pre V _ ⟨⟨b0, hg, hz1⟩, hB⟩ (hb.mono hz1))
      have HB := Lib.hid hb
      clear hK b0 hg hB hb hH
      simp only [encE, ov]
      gi_wp2
      exact HK.out _ _ ((KeepsOthers.alloc _ _).from _) (KA.of_below HB.out) HP.out ⟨V.heap.size, hz1, ObAt.new V x _, rfl⟩
    case body =>
      rintro l pre ⟨x, v⟩ a' V ⟨⟨b0, hg, hz1⟩, hB⟩ ⟨hH, hv⟩ ⟨Bx, hBx, hx, rfl⟩
      obtain ⟨y0, _, _, _, _⟩ := hx.var
      have cb := b0.cell
      have fb := b0.frozen
      have HP := Lib.hid (And.intro b0 (And.intro hg (And.intro hB hH)))
      rcases hv with ⟨hn, rfl⟩ | ⟨hn, s1, rfl⟩
      · have HN := Lib.hid hn
        clear b0 hg hB hH hn hx
        gi_wp2
        refine ⟨KeepsFrom.refl _ _, World.grownBy.refl _ _, ⟨HP.out.1, ?_, hz1⟩, HP.out.2.2.1⟩
        rw [fsts_snoc, show obs (fsts pre ++ [(x, Value.nilIface).1]) = obs (fsts pre) ++ [x.o] by simp [obs], goodF_snoc, HP.out.2.1]
        exact HN.out
      · have HN := Lib.hid (good_prefix hH hn)
        clear hg hB hH hn hx b0
        simp only [Sp.flt]
        gi_wp2
        exact ⟨(KeepsOthers.setCell _ _ _).from _, ⟨rfl, HN.out, bs x.o.n, s1, HP.out.1.set _⟩, HP.out.2.2.1.setCell (p := ⟨w.heap.size, 0, none⟩) (Nat.le_refl _) _⟩
    case done =>
      rintro D ys V hD hy ⟨⟨b0, hg, hz1⟩, hB⟩ hK
      have cb := b0.cell
      have fb := b0.frozen
      have HU := Lib.hid (And.intro (show rightB (obs zs) = true by rw [HR.out, ← hy]; exact hg) (And.intro (b0.set .nilIface) (And.intro (hB.setCell (p := ⟨w.heap.size, 0, none⟩) (Nat.le_refl _) .nilIface) ((KeepsOthers.setCell V ⟨w.heap.size, 0, none⟩ .nilIface).same D _ hK rfl))))
      clear b0 hg hB hK hy
      gi_wp2
      refine ⟨by simp, .inl ⟨_, _, rfl, run_takeDeferred HU.out.2.2.2, ?_⟩⟩
      have c1 := (boxed_put (.deferred none) HU.out.2.1 HU.out.2.2.2 rfl).cell
      refine ⟨.nilIface, ?_, .inl ⟨HU.out.1, rfl⟩, HU.out.2.2.1.trans (belowK_b (w := w) (Nat.le_refl _) _ D _ _ (by omega) HU.out.2.2.2 rfl rfl)⟩
      generalize ((V.setCell ⟨w.heap.size, 0, none⟩ .nilIface).putObj D (.deferred none)) = WF at c1 ⊢
      simp [results, Tryz.results78, go_sem, c1]
    case stop =>
      rintro D c pre V hD _ ⟨⟨rfl, hg, nm, s1, b0⟩, hB⟩ hK
      have cb := b0.cell
      have HU := Lib.hid (And.intro (show rightB (obs zs) = false by rw [HR.out]; exact hg) (And.intro b0 (And.intro hB hK)))
      clear b0 hg hB hK
      gi_wp2
      refine ⟨by simp, .inl ⟨_, _, rfl, run_takeDeferred HU.out.2.2.2, ?_⟩⟩
      have c1 := (boxed_put (.deferred none) HU.out.2.1 HU.out.2.2.2 rfl).cell
      refine ⟨Sp.abt nm 110 s1, ?_, .inr ⟨HU.out.1, _, rfl, .inr ⟨_, _, rfl⟩⟩, HU.out.2.2.1.trans (belowK_b (w := w) (Nat.le_refl _) _ D _ _ (by omega) HU.out.2.2.2 rfl rfl)⟩
      generalize (V.putObj D (.deferred none)) = WF at c1 ⊢
      simp [results, Tryz.results78, go_sem, c1]
theorem check_any {s : Sn} (ao : Option Addr) (len cap : Nat) (zs : List Ov) (hreach : len ≤ 1000000) (w : World) (hs : Ev s w) (hbd : ∀ x ∈ zs, Bd x.o) (hL : Objs w ao len cap zs) :
    Calls Tryz.prog 78 #[.slice ao len cap] w (ChP (rightB (obs zs)) w) := (callsIn_wide (n := 6)).1 (check_in 6 (by omega) ao len cap zs hreach w hs hbd hL)

set_option maxHeartbeats 1000000 in
theorem Right_s {s : Sn} {ao : Option Addr} {len cap : Nat} {zs : List Ov} {b : Bool} (hb : rightB (obs zs) = b) (hreach : len ≤ 1000000) {w : World} (hs : Ev s w) (hbd : ∀ x ∈ zs, Bd x.o) (hL : Objs w ao len cap zs) :
    Calls Tryz.prog 60 #[.slice ao len cap] w (BoolP b w) := by
  have HC := Lib.hid (check_any ao len cap zs hreach w hs hbd hL)
  rw [hb] at HC
  clear hs hbd hL hb
  go_enter Tryz.func60, Tryz.ntmps60
  go_wp2_with (go_at_call 78; refine HC.out.mono ?_)
  rintro e w1 ⟨⟨rfl, rfl⟩ | ⟨rfl, v, rfl, hv⟩, hb1⟩
  · have HB := Lib.hid hb1
    clear hb1
    go_wp2
    go_ret
    exact ⟨rfl, HB.out⟩
  · obtain ⟨t, u, rfl⟩ := hv.iface
    have HB := Lib.hid hb1
    clear hb1 hv
    go_wp2
    go_ret
    exact ⟨rfl, HB.out⟩
set_option maxHeartbeats 1000000 in
theorem Cost_s {s : Sn} {ao : Option Addr} {len cap : Nat} {zs : List Ov} {c : Int} (hc : costR (obs zs) = c) (hreach : len ≤ 1000000) {w : World} (hs : Ev s w) (hbd : ∀ x ∈ zs, Bd x.o) (hL : Objs w ao len cap zs) :
    Calls Tryz.prog 40 #[.slice ao len cap] w (IntP c w) := by
  unfold costR at hc
  cases hr : rightB (obs zs) with
  | false =>
    have HC := Lib.hid (Right_s hr hreach hs hbd hL)
    rw [hr, if_neg (by decide)] at hc
    subst hc
    clear hs hbd hL hr
    go_enter Tryz.func40, Tryz.ntmps40
    go_wp2_with (go_at_call 60; refine HC.out.mono ?_)
    rintro e w1 ⟨rfl, hb1⟩
    have HB := Lib.hid hb1
    clear hb1
    go_wp2
    go_ret
    exact ⟨rfl, HB.out⟩
  | true =>
    have HC := Lib.hid (Right_s hr hreach hs hbd hL)
    have HF := Lib.hid (And.intro hL (show ∀ x ∈ zs, fair x.o from fun x hx => fair_right hr x.o (mem_obs hx)))
    rw [hr, if_pos rfl] at hc
    have HE := Lib.hid hc
    clear hs hbd hL hr hc
    go_enter Tryz.func40, Tryz.ntmps40
    go_wp2_with (go_at_call 60; refine HC.out.mono ?_)
    rintro e w1 ⟨rfl, hb1⟩
    have HB := Lib.hid hb1
    clear hb1
    go_wp2_with (go_at_call 61; refine (costS_any ao len cap zs hreach HF.out.2 w1 (HF.out.1.more HB.out)).mono ?_)
    rintro e w2 ⟨rfl, hb2⟩
    have HB2 := Lib.hid (below_more HB.out hb2)
    clear hb2
    go_wp2
    go_ret
    exact ⟨by rw [← HE.out]; rfl, HB2.out⟩

end Go.Proofs.YtlafcplcjpcikaaGreatDoor
