/- number. -/
import Derived.Test.YtcjokjipgeaikaaDoorTxSign
import Derived.Test.YtcjokjipgeaikaaDoorTxDigs
namespace Go.Proofs.YtcjokjipgeaikaaDoor
open Go.RowKit Go.Shelf Go.Proofs.Fld Go.Proofs.Tx

attribute [local go_sem] Oper.semAt_some

theorem wpIn_scope_wide {n : Nat} {P : Program} {c : Code} {Q : Exit → Act → World → Prop} {a : Act} {w : World} (h : c.wpIn Fence.wide n P (Exit.noGoto Q) a w) : (Code.scope c).wpIn Fence.wide n P Q a w :=
  wpIn_wide.2 (wp_scope_straight (wpIn_wide.1 h))

/-- The digits so far have made the number m. -/
def Acc (least most : Nat) (pre : List (Fin 10)) (m : Nat) : Prop := (∀ rest, numGo least most 0 0 (pre.map dB ++ rest) = numGo least most m pre.length rest) ∧ m ≤ most ∧ pre.length ≤ m + 1
theorem Acc.nil (least most : Nat) : Acc least most [] 0 := ⟨fun _ => rfl, Nat.zero_le _, by simp⟩
theorem Acc.step {least most : Nat} {pre : List (Fin 10)} {m : Nat} (h : Acc least most pre m) {x : Fin 10} (hg : goes least most m pre.length (dB x) = true) : Acc least most (pre ++ [x]) (10 * m + x.val) := by
  obtain ⟨g1, g2, g3⟩ := goes_parts hg
  have e : (dB x).toNat - 48 = x.val := by rw [dB_nat]; omega
  rw [e] at g3
  refine ⟨fun rest => ?_, beg_le g3, ?_⟩
  · have := h.1 (dB x :: rest)
    rw [List.map_append, List.append_assoc]
    simp only [List.map_cons, List.map_nil, List.cons_append, List.nil_append, List.length_append, List.length_cons, List.length_nil, Nat.zero_add]
    rw [this]
    conv => lhs; unfold numGo
    rw [if_pos hg, e]
  · rw [List.length_append, List.length_singleton]
    have h3 := h.2.2
    rcases Nat.eq_zero_or_pos m with e | e
    · have := g2 e
      omega
    · omega
theorem Acc.stop {least most : Nat} {pre : List (Fin 10)} {m : Nat} (h : Acc least most pre m) {x : Fin 10} (hg : goes least most m pre.length (dB x) = false) (rest : List UInt8) : numGo least most 0 0 (pre.map dB ++ dB x :: rest) = (m, pre.length, dB x :: rest) := by
  rw [h.1]
  unfold numGo
  rw [if_neg (by rw [hg]; simp)]
theorem Acc.done {least most : Nat} {pre : List (Fin 10)} {m : Nat} (h : Acc least most pre m) {rest : List UInt8} (hr : NoD rest) : numGo least most 0 0 (pre.map dB ++ rest) = (m, pre.length, rest) := by
  rw [h.1, numGo_noD hr]

structure NumBox (w : World) (R least most m cnt : Nat) (W : World) : Prop where
  bl : Boxed W w.heap.size 3 (.int .i64 (least : Int))
  bm : Boxed W (w.heap.size + 1) 3 (.int .i64 (most : Int))
  bn : Boxed W (w.heap.size + 1 + 1) 3 (.int .i64 (m : Int))
  bc : Boxed W (w.heap.size + 1 + 1 + 1) 3 (.int .i64 (cnt : Int))
  only : w.grownBy W (some R)
theorem NumBox.kept {w : World} {R least most m cnt n₀ : Nat} {A B : World} (h : NumBox w R least most m cnt A) (hR : R < w.heap.size) (hst : StD R n₀ A B) (hn : w.heap.size + 4 ≤ n₀) : NumBox w R least most m cnt B :=
  ⟨(hst.block _ (by omega) (by omega)).trans h.bl, (hst.block _ (by omega) (by omega)).trans h.bm, (hst.block _ (by omega) (by omega)).trans h.bn, (hst.block _ (by omega) (by omega)).trans h.bc,
    ⟨hst.os.trans h.only.os, hst.tape.trans h.only.tape, hst.output.trans h.only.output, Nat.le_trans h.only.size hst.size, fun i hi hne => (hst.block i (by omega) (fun e => hne (by rw [e]))).trans (h.only.block i hi hne)⟩⟩
theorem NumBox.own {β : Type} {w : World} {R least most m cnt B : Nat} (hB : w.heap.size + 4 ≤ B) : OwnFrom B (fun (_ : β) W => NumBox w R least most m cnt W) := fun s A B row hs hg hr =>
  ⟨Own.from (boxed_own (β := Unit) _ _ (fun _ => _)) _ () A B row hs.bl hg hr, Own.from (boxed_own (β := Unit) _ _ (fun _ => _)) _ () A B row hs.bm hg hr, Own.from (boxed_own (β := Unit) _ _ (fun _ => _)) _ () A B row hs.bn hg hr, Own.from (boxed_own (β := Unit) _ _ (fun _ => _)) _ () A B row hs.bc hg hr, own_only (β := Unit) (by omega) () A B row hs.only hg hr⟩

theorem rx_own {β : Type} {R T B : Nat} {l : List UInt8} : OwnFrom B (fun (_ : β) W => Rx W R T l) := fun _ A B row hs hg hr => hs.block (hg.block R hs.lt (fun e => by
  obtain ⟨_, o, ho, hc⟩ := hr R e.symm
  rw [show A.heap[R]? = _ from hs] at ho
  cases ho
  cases hc))
theorem digS_own {R T B : Nat} {all : List UInt8} : OwnFrom B (DigS R T all) := fun _ A B row hs hg hr => by
  obtain ⟨rest, e, hd, h⟩ := hs
  exact ⟨rest, e, hd, rx_own (β := Unit) () A B row h hg hr⟩
theorem digSp_own {R T B : Nat} {all : List UInt8} : OwnFrom B (DigSp R T all) := fun _ A B row hs hg hr => by
  obtain ⟨p, x, rest, e, e2, h⟩ := hs
  exact ⟨p, x, rest, e, e2, rx_own (β := Unit) () A B row h hg hr⟩
theorem begins_step (m x least most : Nat) (hm : m ≤ 99) (hx : x ≤ 9) (hl : least ≤ 99) (hM : most ≤ 99) (w : World) :
    Calls Tryd.prog 50 #[.int .i64 (10 * (m : Int) + (x : Int)), .int .i64 (least : Int), .int .i64 (most : Int)] w fun e w' => e = .returned (.bool (beg (10 * m + x) least most)) ∧ w = w' := by
  have h := begins_any (10 * m + x) least most (by omega) (by omega) (by omega) w
  have e : ((10 * m + x : Nat) : Int) = 10 * (m : Int) + (x : Int) := by omega
  rw [e] at h
  exact h
theorem goes_dB {least most m cnt : Nat} {x : Fin 10} : goes least most m cnt (dB x) = (!(decide (m = 0) && decide (0 < cnt)) && beg (10 * m + x.val) least most) := by
  unfold goes
  have e : (dB x).toNat - 48 = x.val := by rw [dB_nat]; omega
  rw [isD_dB, e, Bool.true_and]

def NumI (w : World) (R least most : Nat) (pre : List (Fin 10)) (W : World) : Prop := ∃ m, Acc least most pre m ∧ NumBox w R least most m pre.length W
def NumX (w : World) (R least most : Nat) (c : Code) (pre : List (Fin 10)) (W : World) : Prop := c = .exit 0 ∧ ∃ p x m, pre = p ++ [x] ∧ Acc least most p m ∧ goes least most m p.length (dB x) = false ∧ NumBox w R least most m p.length W

def NumPost (R T : Nat) (x : Option Nat × List UInt8) (w : World) (e : Ending) (w' : World) : Prop := e = .returned (.tuple #[.int .i64 ((x.1.getD 0 : Nat) : Int), errO T x]) ∧ Rx w' R T x.2 ∧ w.grownBy w' (some R)

set_option maxRecDepth 100000 in
set_option maxHeartbeats 4000000 in
theorem number_in (n : Nat) (hn : 3 ≤ n) (R T least most : Nat) (hm : most ≤ 99) (hlm : least ≤ 99) (l : List UInt8) (hl : l.length ≤ T) (hT : T ≤ 4611686018427387904) (w : World) (h : Rx w R T l) :
    CallsIn Fence.wide n Tryd.prog 31 #[.pointer (some ⟨R, 0, none⟩), .int .i64 (least : Int), .int .i64 (most : Int)] w (NumPost R T (num least most l) w) := by
  have h1 : 1 ≤ n := by omega
  have hR0 := h.lt
  have H := Lib.hid h
  clear h
  refine callsIn_of_wp_marks Tryd.func31 rfl trivial ?_ rfl
  simp only [Tryd.ntmps31, List.size_toArray, List.length_cons, List.length_nil, Nat.reduceAdd, Nat.reduceSub, Array.replicate_succ, Array.replicate_zero, List.push_toArray, List.append_toArray, List.nil_append, List.cons_append]
  gi_wp2
  refine wpIn_scope_wide ?_
  gi_wp2
  refine wpIn_label ?_
  gi_wp2_with (refine ⟨trivial, ?_⟩; gi_at_call 49; refine (digits_in (n - 1) R _).mono ?_; rintro e w' ⟨rfl, rfl⟩)
  obtain ⟨W0, hW0⟩ : ∃ W0, (((((w.alloc (.cells #[.int .i64 (least : Int)] 3)).alloc (.cells #[.int .i64 (most : Int)] 3)).alloc (.cells #[.int .i64 0] 3)).alloc (.cells #[.int .i64 0] 3)).alloc (.cells #[.pointer (some ⟨R, 0, none⟩)] 121)) = W0 := ⟨_, rfl⟩
  rw [hW0]
  have z0 : W0.heap.size = w.heap.size + 1 + 1 + 1 + 1 + 1 := by rw [← hW0]; simp
  have hB0 : Below w.heap.size w W0 := by
    rw [← hW0]
    exact (((((Below.refl _ w).alloc (Nat.le_refl _) _).alloc (by simp) _).alloc (by simp; omega) _).alloc (by simp; omega) _).alloc (by simp; omega) _
  have bx0 : NumBox w R least most 0 0 W0 := by
    refine ⟨?_, ?_, ?_, ?_, only_of R hB0⟩
    · rw [← hW0]; exact ((((Boxed.new w _ _).alloc _).alloc _).alloc _).alloc _
    · rw [← hW0]
      have := Boxed.new (w.alloc (.cells #[.int .i64 (least : Int)] 3)) 3 (.int .i64 (most : Int))
      rw [World.size_alloc] at this
      exact ((this.alloc _).alloc _).alloc _
    · rw [← hW0]
      have := Boxed.new ((w.alloc (.cells #[.int .i64 (least : Int)] 3)).alloc (.cells #[.int .i64 (most : Int)] 3)) 3 (.int .i64 0)
      simp only [World.size_alloc] at this
      exact (this.alloc _).alloc _
    · rw [← hW0]
      have := Boxed.new (((w.alloc (.cells #[.int .i64 (least : Int)] 3)).alloc (.cells #[.int .i64 (most : Int)] 3)).alloc (.cells #[.int .i64 0] 3)) 3 (.int .i64 0)
      simp only [World.size_alloc] at this
      exact this.alloc _
  have bl0 : Boxed W0 (w.heap.size + 1 + 1 + 1 + 1) 121 (.pointer (some ⟨R, 0, none⟩)) := by
    rw [← hW0]
    have := Boxed.new ((((w.alloc (.cells #[.int .i64 (least : Int)] 3)).alloc (.cells #[.int .i64 (most : Int)] 3)).alloc (.cells #[.int .i64 0] 3)).alloc (.cells #[.int .i64 0] 3)) 121 (.pointer (some ⟨R, 0, none⟩))
    simp only [World.size_alloc] at this
    exact this
  have rx0 : Rx W0 R T l := H.out.more hB0
  have Z0 := Lib.hid z0
  clear hW0 z0
  refine wpIn_rangeStepsI h1 (gf := 67) (lb := #[.pointer (some ⟨w.heap.size + 1 + 1 + 1 + 1, 0, none⟩)]) rfl (enters_of Tryd.func67 (by kernel_rfl) rfl)
    (digits_steps (n - 1) (by omega) (w.heap.size + 1 + 1 + 1 + 1) R T (by omega) l hl hT W0 bl0 rx0)
    (fun k hk => by rcases hk with e | e <;> rw [e, Z0.out] <;> omega) digS_own digSp_own (Below.refl _ _) (fun _ => rfl) (fun n₀ A B k o => stD_others A B k o)
    (NumI w R least most) (NumX w R least most) ?hI ?hIx ?hIS ?h0
    (fun x => { tmps := #[.pointer (some ⟨R, 0, none⟩), .int .i64 (least : Int), .int .i64 (most : Int), undef, .pointer (some ⟨w.heap.size, 0, none⟩), .pointer (some ⟨w.heap.size + 1, 0, none⟩), .int .i64 0, .nilIface, .pointer (some ⟨w.heap.size + 1 + 1, 0, none⟩), .pointer (some ⟨w.heap.size + 1 + 1 + 1, 0, none⟩), .int .i64 ((x : Fin 10).val : Int), undef, .pointer (some ⟨R, 0, none⟩), .pointer (some ⟨R, 0, none⟩), .pointer (some ⟨R, 0, none⟩), .func (.func 67) #[] #[.pointer (some ⟨w.heap.size + 1 + 1 + 1 + 1, 0, none⟩)], .int .i64 (x.val : Int),
          undef, undef, undef, undef, undef, undef, undef, undef, undef, undef, undef, undef, undef, undef, undef, undef, undef, undef, undef, undef, undef, undef, undef, undef, undef, undef, undef, undef, undef], defers := [] }) ?assign ?body ?done ?stop
  case hI =>
    rintro s A B row ⟨m, ha, hb⟩ hg hr
    exact ⟨m, ha, NumBox.own (β := Unit) (by rw [Z0.out]; omega) () A B row hb hg hr⟩
  case hIx =>
    rintro c s A B row ⟨hc, p, x, m, e, ha, hgo, hb⟩ hg hr
    exact ⟨hc, p, x, m, e, ha, hgo, NumBox.own (β := Unit) (by rw [Z0.out]; omega) () A B row hb hg hr⟩
  case hIS =>
    rintro s A B ⟨m, ha, hb⟩ hst
    exact ⟨m, ha, hb.kept hR0 hst (by rw [Z0.out]; omega)⟩
  case h0 => exact ⟨0, Acc.nil _ _, bx0⟩
  case assign =>
    intro l x W K hK
    gi_wp2
    exact hK
  case body =>
    rintro l' pre x W ⟨m, hacc, hbx⟩
    have hd : 1 ≤ n - 1 - 1 := by omega
    have hxl := x.isLt
    have hml := hacc.2.1
    have hpl := hacc.2.2
    have cl := hbx.bl.cell
    have cm := hbx.bm.cell
    have cn := hbx.bn.cell
    have cc := hbx.bc.cell
    have fn := hbx.bn.frozen
    have fc := hbx.bc.frozen
    have HA := Lib.hid hacc
    have HB := Lib.hid hbx
    clear hacc hbx bx0 bl0 rx0
    by_cases hz : m = 0 ∧ 0 < pre.length
    · have q0 : ((m : Int) == 0) = true := by rw [hz.1]; rfl
      have q1 : 0 < pre.length := hz.2
      have HG := Lib.hid (show goes least most m pre.length (dB x) = false by rw [goes_dB]; simp [hz.1, hz.2])
      clear hz
      gi_wp2
      exact ⟨KeepsFrom.refl _ _, KeepsKs.refl _ _, rfl, pre, x, m, rfl, HA.out, HG.out, HB.out⟩
    · have HZ := Lib.hid hz
      have cases2 : (((m : Int) == 0) = false) ∨ ((((m : Int) == 0) = true) ∧ pre.length = 0) := by
        by_cases e : m = 0
        · right
          exact ⟨by rw [e]; rfl, Nat.eq_zero_of_not_pos (fun h => hz ⟨e, h⟩)⟩
        · left
          rw [beq_eq_false_iff_ne]
          omega
      clear hz
      cases hb : beg (10 * m + x.val) least most
      · have HG := Lib.hid (show goes least most m pre.length (dB x) = false by rw [goes_dB, hb, Bool.and_false])
        have HBg := Lib.hid hb
        clear hb
        rcases cases2 with q0 | ⟨q0, q1⟩
        · gi_wp2_with (refine ⟨trivial, ?_⟩; gi_at_call 50; refine (CallsIn.inRound l' (callsIn_wide.2 (begins_step m x.val least most (by omega) (by omega) hlm hm _))).mono ?_; rintro e w' ⟨he, rfl⟩; rw [HBg.out] at he; subst he)
          exact ⟨KeepsFrom.refl _ _, KeepsKs.refl _ _, rfl, pre, x, m, rfl, HA.out, HG.out, HB.out⟩
        · have q2 : ¬ 0 < pre.length := by omega
          clear q1
          gi_wp2_with (refine ⟨trivial, ?_⟩; gi_at_call 50; refine (CallsIn.inRound l' (callsIn_wide.2 (begins_step m x.val least most (by omega) (by omega) hlm hm _))).mono ?_; rintro e w' ⟨he, rfl⟩; rw [HBg.out] at he; subst he)
          exact ⟨KeepsFrom.refl _ _, KeepsKs.refl _ _, rfl, pre, x, m, rfl, HA.out, HG.out, HB.out⟩
      · have HG := Lib.hid (show goes least most m pre.length (dB x) = true by
          rw [goes_dB, hb, Bool.and_true, Bool.not_eq_true']
          rw [Bool.and_eq_false_iff, decide_eq_false_iff_not, decide_eq_false_iff_not]
          by_cases e : m = 0
          · exact Or.inr (fun h => HZ.out ⟨e, h⟩)
          · exact Or.inl e)
        have HBg := Lib.hid hb
        clear hb
        have fin : postS W0.heap.size (fun k => k = w.heap.size + 1 + 1 + 1 + 1 ∨ k = R) (NumI w R least most) (NumX w R least most) (pre ++ [x]) W .normal { tmps := #[], defers := [] } ((W.setCell ⟨w.heap.size + 1 + 1, 0, none⟩ (.int .i64 (10 * (m : Int) + (x.val : Int)))).setCell ⟨w.heap.size + 1 + 1 + 1, 0, none⟩ (.int .i64 ((pre.length : Int) + 1))) := by
          have hb := HB.out
          refine ⟨((KeepsOthers.setCell _ _ _).trans (KeepsOthers.setCell _ _ _)).from _, ?_, 10 * m + x.val, HA.out.step HG.out, ?_⟩
          · intro k hk
            have e1 : w.heap.size + 1 + 1 ≠ k := by rcases hk with e | e <;> omega
            have e2 : w.heap.size + 1 + 1 + 1 ≠ k := by rcases hk with e | e <;> omega
            rw [Below.heap_setCell _ _ _ _ (by first | exact e2 | exact e2.symm), Below.heap_setCell _ _ _ _ (by first | exact e1 | exact e1.symm)]
          · have e1 : (10 * (m : Int) + (x.val : Int)) = ((10 * m + x.val : Nat) : Int) := by omega
            have e2 : ((pre.length : Int) + 1) = (((pre ++ [x]).length : Nat) : Int) := by simp
            rw [e1, e2]
            refine ⟨(hb.bl.other (by omega) _).other (by omega) _, (hb.bm.other (by omega) _).other (by omega) _, (hb.bn.set _).other (by omega) _, (hb.bc.other (by omega) _).set _, ?_⟩
            exact only_below (only_below hb.only ((Below.refl w.heap.size W).setCell (p := ⟨w.heap.size + 1 + 1, 0, none⟩) (by simp; omega) _) (Nat.le_refl _)) ((Below.refl w.heap.size _).setCell (p := ⟨w.heap.size + 1 + 1 + 1, 0, none⟩) (by simp; omega) _) (Nat.le_refl _)
        have FIN := Lib.hid fin
        clear fin
        rcases cases2 with q0 | ⟨q0, q1⟩
        · gi_wp2_with (refine ⟨trivial, ?_⟩; gi_at_call 50; refine (CallsIn.inRound l' (callsIn_wide.2 (begins_step m x.val least most (by omega) (by omega) hlm hm _))).mono ?_; rintro e w' ⟨he, rfl⟩; rw [HBg.out] at he; subst he)
          exact FIN.out
        · have q2 : ¬ 0 < pre.length := by omega
          clear q1
          gi_wp2_with (refine ⟨trivial, ?_⟩; gi_at_call 50; refine (CallsIn.inRound l' (callsIn_wide.2 (begins_step m x.val least most (by omega) (by omega) hlm hm _))).mono ?_; rintro e w' ⟨he, rfl⟩; rw [HBg.out] at he; subst he)
          exact FIN.out
  case done =>
    rintro D ys W hD ⟨rest, hall, hnd, hrx⟩ ⟨m, hacc, hbx⟩ hK
    have hgo : numGo least most 0 0 l = (m, ys.length, rest) := by rw [hall]; exact hacc.done hnd
    have hml := hacc.2.1
    have hpl := hacc.2.2
    generalize ys.length = cnt at *
    clear hall hacc
    have hnum : num least most l = (numO least (m, cnt, rest), rest) := by unfold num; rw [hgo]
    have HN := Lib.hid hnum
    have cl := hbx.bl.cell
    have cn := hbx.bn.cell
    have cc := hbx.bc.cell
    have hRD : D ≠ R := by rw [Z0.out] at hD; omega
    have rxD : Rx (W.putObj D (.deferred none)) R T rest := hrx.block (World.putObj_heap_other (by first | exact hRD | exact hRD.symm))
    have onD : w.grownBy (W.putObj D (.deferred none)) (some R) := only_below hbx.only ((Below.refl w.heap.size W).grown (grownBy_putObj' W D (.deferred none)) (Nat.le_trans (Nat.le_refl _) hbx.only.size) (fun k e => by cases e; rw [Z0.out] at hD; omega)) (Nat.le_refl _)
    have HK := Lib.hid hK
    have HB := Lib.hid hbx
    have RXD := Lib.hid rxD
    have OND := Lib.hid onD
    clear hnum hgo hK hbx rxD onD bx0 bl0 rx0
    by_cases hc : cnt = 0
    · have q0 : ((cnt : Int) == 0) = true := by rw [hc]; rfl
      have HO := Lib.hid (show numO least (m, cnt, rest) = none by unfold numO; rw [if_pos (Or.inl hc)])
      clear hc
      gi_wp2_with (refine ⟨trivial, ?_⟩; gi_at_call 48; refine (callsIn_wide.2 (wrong_any R T rest W hrx)).mono ?_; rintro e w' ⟨rfl, rfl⟩)
      (try rw [Exit.noGoto_ret])
      refine ⟨by simp, .inl ⟨_, _, rfl, run_takeDeferred HK.out, ?_⟩⟩
      refine ⟨_, results_tmp2 rfl _ _ _, ?_⟩
      unfold NumPost
      rw [HN.out, HO.out]
      exact ⟨rfl, RXD.out, OND.out⟩
    · have q0 : ((cnt : Int) == 0) = false := by rw [beq_eq_false_iff_ne]; omega
      by_cases hlt : m < least
      · have HO := Lib.hid (show numO least (m, cnt, rest) = none by unfold numO; rw [if_pos (Or.inr hlt)])
        clear hc
        gi_wp2_with (refine ⟨trivial, ?_⟩; gi_at_call 48; refine (callsIn_wide.2 (wrong_any R T rest W hrx)).mono ?_; rintro e w' ⟨rfl, rfl⟩)
        (try rw [Exit.noGoto_ret])
        refine ⟨by simp, .inl ⟨_, _, rfl, run_takeDeferred HK.out, ?_⟩⟩
        refine ⟨_, results_tmp2 rfl _ _ _, ?_⟩
        unfold NumPost
        rw [HN.out, HO.out]
        exact ⟨rfl, RXD.out, OND.out⟩
      · have HO := Lib.hid (show numO least (m, cnt, rest) = some m by unfold numO; rw [if_neg (fun h => by rcases h with h | h; exact hc h; exact hlt h)])
        clear hc
        gi_wp2
        (try rw [Exit.noGoto_ret])
        refine ⟨by simp, .inl ⟨_, _, rfl, run_takeDeferred HK.out, ?_⟩⟩
        refine ⟨_, results_tmp2 rfl _ _ _, ?_⟩
        unfold NumPost
        rw [HN.out, HO.out]
        exact ⟨rfl, RXD.out, OND.out⟩
  case stop =>
    rintro D c pre W hD ⟨p', x', rest', hpre, hall, hrx⟩ ⟨rfl, p, x, m, hpre2, hacc, hgoes, hbx⟩ hK
    obtain ⟨rfl, hxx⟩ := List.append_inj' (hpre.symm.trans hpre2) rfl
    injection hxx with hxx
    subst hxx
    have hgo : numGo least most 0 0 l = (m, p'.length, dB x' :: rest') := by rw [hall]; exact hacc.stop hgoes rest'
    have hml := hacc.2.1
    have hpl := hacc.2.2
    generalize p'.length = cnt at *
    generalize dB x' :: rest' = rest at *
    clear hall hacc hgoes hpre hpre2
    have hnum : num least most l = (numO least (m, cnt, rest), rest) := by unfold num; rw [hgo]
    have HN := Lib.hid hnum
    have cl := hbx.bl.cell
    have cn := hbx.bn.cell
    have cc := hbx.bc.cell
    have hRD : D ≠ R := by rw [Z0.out] at hD; omega
    have rxD : Rx (W.putObj D (.deferred none)) R T rest := hrx.block (World.putObj_heap_other (by first | exact hRD | exact hRD.symm))
    have onD : w.grownBy (W.putObj D (.deferred none)) (some R) := only_below hbx.only ((Below.refl w.heap.size W).grown (grownBy_putObj' W D (.deferred none)) (Nat.le_trans (Nat.le_refl _) hbx.only.size) (fun k e => by cases e; rw [Z0.out] at hD; omega)) (Nat.le_refl _)
    have HK := Lib.hid hK
    have HB := Lib.hid hbx
    have RXD := Lib.hid rxD
    have OND := Lib.hid onD
    clear hnum hgo hK hbx rxD onD bx0 bl0 rx0
    by_cases hc : cnt = 0
    · have q0 : ((cnt : Int) == 0) = true := by rw [hc]; rfl
      have HO := Lib.hid (show numO least (m, cnt, rest) = none by unfold numO; rw [if_pos (Or.inl hc)])
      clear hc
      gi_wp2_with (refine ⟨trivial, ?_⟩; gi_at_call 48; refine (callsIn_wide.2 (wrong_any R T rest W hrx)).mono ?_; rintro e w' ⟨rfl, rfl⟩)
      (try rw [Exit.noGoto_ret])
      refine ⟨by simp, .inl ⟨_, _, rfl, run_takeDeferred HK.out, ?_⟩⟩
      refine ⟨_, results_tmp2 rfl _ _ _, ?_⟩
      unfold NumPost
      rw [HN.out, HO.out]
      exact ⟨rfl, RXD.out, OND.out⟩
    · have q0 : ((cnt : Int) == 0) = false := by rw [beq_eq_false_iff_ne]; omega
      by_cases hlt : m < least
      · have HO := Lib.hid (show numO least (m, cnt, rest) = none by unfold numO; rw [if_pos (Or.inr hlt)])
        clear hc
        gi_wp2_with (refine ⟨trivial, ?_⟩; gi_at_call 48; refine (callsIn_wide.2 (wrong_any R T rest W hrx)).mono ?_; rintro e w' ⟨rfl, rfl⟩)
        (try rw [Exit.noGoto_ret])
        refine ⟨by simp, .inl ⟨_, _, rfl, run_takeDeferred HK.out, ?_⟩⟩
        refine ⟨_, results_tmp2 rfl _ _ _, ?_⟩
        unfold NumPost
        rw [HN.out, HO.out]
        exact ⟨rfl, RXD.out, OND.out⟩
      · have HO := Lib.hid (show numO least (m, cnt, rest) = some m by unfold numO; rw [if_neg (fun h => by rcases h with h | h; exact hc h; exact hlt h)])
        clear hc
        gi_wp2
        (try rw [Exit.noGoto_ret])
        refine ⟨by simp, .inl ⟨_, _, rfl, run_takeDeferred HK.out, ?_⟩⟩
        refine ⟨_, results_tmp2 rfl _ _ _, ?_⟩
        unfold NumPost
        rw [HN.out, HO.out]
        exact ⟨rfl, RXD.out, OND.out⟩

theorem number_any (R T least most : Nat) (hm : most ≤ 99) (hlm : least ≤ 99) (l : List UInt8) (hl : l.length ≤ T) (hT : T ≤ 4611686018427387904) (w : World) (h : Rx w R T l) :
    Calls Tryd.prog 31 #[.pointer (some ⟨R, 0, none⟩), .int .i64 (least : Int), .int .i64 (most : Int)] w (NumPost R T (num least most l) w) :=
  (callsIn_wide (n := 3)).1 (number_in 3 (by omega) R T least most hm hlm l hl hT w h)

end Go.Proofs.YtcjokjipgeaikaaDoor
