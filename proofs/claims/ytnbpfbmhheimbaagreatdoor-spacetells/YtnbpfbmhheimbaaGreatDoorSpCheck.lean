/- check: the objects, each beside what is wrong with it, by an iterator over another one. -/
import Derived.Test.YtnbpfbmhheimbaaGreatDoorSpJgReg
import Derived.Test.YtnbpfbmhheimbaaGreatDoorSpRangeB
namespace Go.Proofs.YtnbpfbmhheimbaaGreatDoor
open Go.RowKit Go.Proofs.Fld Go.Proofs.Rng Go.Proofs.Spc Go.Shelf Go.Sort

attribute [local go_sem] Oper.semAt_some

section
variable {l n : Nat} {P : Program} {ops : Array Oper} {Q : Exit → Act → World → Prop}
/-- A region that draws its order, in a round: whichever operation may come up. -/
theorem wpIn_round_any {id k : Nat} {a : Act} {w : World} (hm : P.follows .mixedOrders = true) (hk : ops.size = k)
    (h : wpAnyIn (Fence.wide.inRound l) n P .any ops Q k (Array.replicate k false) a w.drew) : (Code.region id ops true).wpIn (Fence.wide.inRound l) n P Q a w :=
  wpIn_region_draw fun t => by
    subst hk
    simp only [Region.schedule, hm, Bool.true_or, if_true]
    exact wpAnyIn_sound ops.size t _ a _ h
end

/-- An object, and what is wrong with it, as two values. -/
def encE (y : Ov × Value) : Array Value := #[ov y.1, y.2]
def fsts (l : List (Ov × Value)) : List Ov := l.map Prod.fst
theorem fsts_snoc (p : List (Ov × Value)) (y : Ov × Value) : fsts (p ++ [y]) = fsts p ++ [y.1] := by simp [fsts]
/-- What is sure of one that comes. -/
def HJ (zs : List Ov) (pre : List (Ov × Value)) (y : Ov × Value) : Prop := fsts pre ++ [y.1] <+: zs ∧ JudV (nextB (lastN [] (obs (fsts pre))) y.1.o) y.2
/-- All blocks but one lie as they lay. -/
def KA (X : Nat) (A B : World) : Prop := A.grownBy B (some X)
theorem KA.trans {X : Nat} {A B C : World} (h : KA X A B) (k : KA X B C) : KA X A C := World.grownBy.trans h k
theorem KA.of_below {X : Nat} {A B : World} (h : Below A.heap.size A B) : KA X A B := (below_grown h).but _
theorem KA.boxed {X b : Nat} {A B : World} {t : TypeId} {v : Value} (h : KA X A B) (hx : Boxed A b t v) (hne : b ≠ X) : Boxed B b t v := (h.block b hx.lt (fun e => hne (by cases e; rfl))).trans hx
theorem KA.set {X b : Nat} {A B : World} {o : Nat} {v : Value} (h : KA X A B) (hb : A.heap.size ≤ b) : KA X A (B.setCell ⟨b, o, none⟩ v) :=
  ⟨h.os, h.tape, h.output, Nat.le_trans h.size (by simp [World.setCell]), fun k hk hx => (Below.heap_setCell B ⟨b, o, none⟩ v k (fun e => by have : k = b := e; omega)).trans (h.block k hk hx)⟩
theorem KA.low {X m : Nat} {A B : World} (h : KA X A B) (hX : m ≤ X) (hm : m ≤ A.heap.size) : Below m A B := ⟨h.os, h.tape, h.output, h.size, fun k hk => h.block k (by omega) (fun e => by cases e; omega)⟩

theorem below_put (W : World) (D : Nat) (o : Obj) (m : Nat) (h : m ≤ D) : Below m W (W.putObj D o) := ⟨rfl, rfl, rfl, by simp, fun k hk => World.putObj_heap_other (by omega)⟩
/-- judged's iterator between two rounds. -/
def JgI (l : Nat) (w W : World) (J : List (Ov × Value) → World → Prop) (pre : List Ov) (V : World) : Prop :=
  (∃ p, fsts p = pre ∧ J p V) ∧ (Boxed V W.heap.size 124 (.func (.yield l) #[] #[]) ∧ Boxed V (W.heap.size + 1) 9 (.string (bs (lastN [] (obs pre)))) ∧ W.heap.size + 3 ≤ V.heap.size) ∧ KA (w.heap.size + 1) W V
/-- .. when a round has left. -/
def JgX (W : World) (Jx : List (Ov × Value) → World → Prop) (c : Code) (pre : List Ov) (V : World) : Prop := c = .ret ∧ (∃ p, fsts p = pre ∧ Jx p V) ∧ W.heap.size ≤ V.heap.size
theorem grown_low {A V : World} {row : Option Nat} {m n0 : Nat} (hg : A.grownBy V row) (hr : ∀ r, row = some r → n0 ≤ r ∧ ∃ o : Obj, A.heap[r]? = some o ∧ o.isCells = false) (hm : m ≤ n0) (hA : m ≤ A.heap.size) : Below m A V := ⟨hg.os, hg.tape, hg.output, hg.size, fun k hk => hg.block k (by omega) (fun e => by have := (hr k e.symm).1; omega)⟩
theorem JgI.own {l : Nat} {w W : World} {J : List (Ov × Value) → World → Prop} {n0 : Nat} (hJ : AbB W.heap.size J) (hn : W.heap.size ≤ n0) : OwnFrom n0 (JgI l w W J) := by
  rintro pre A V row ⟨⟨p, hp, hj⟩, ⟨b0, b1, hz⟩, hk⟩ hg hr
  refine ⟨⟨p, hp, hJ p A V hj (grown_low hg hr hn (by omega))⟩, ⟨boxed_keep b0 hg (fun r e => (hr r e).2), boxed_keep b1 hg (fun r e => (hr r e).2), Nat.le_trans hz hg.size⟩, ?_⟩
  exact ⟨hg.os.trans hk.os, hg.tape.trans hk.tape, hg.output.trans hk.output, Nat.le_trans hk.size hg.size, fun k hkk hx => (hg.block k (Nat.lt_of_lt_of_le hkk hk.size) (fun e => by have := (hr k e.symm).1; omega)).trans (hk.block k hkk hx)⟩
theorem JgX.own {W : World} {Jx : List (Ov × Value) → World → Prop} {n0 : Nat} (hJ : AbB W.heap.size Jx) (hn : W.heap.size ≤ n0) (c : Code) : OwnFrom n0 (JgX W Jx c) := by
  rintro pre A V row ⟨hc, ⟨p, hp, hj⟩, hz⟩ hg hr
  exact ⟨hc, ⟨p, hp, hJ p A V hj (grown_low hg hr hn hz)⟩, Nat.le_trans hz hg.size⟩

set_option maxRecDepth 100000 in
set_option maxHeartbeats 4000000 in
theorem judged1 (n : Nat) (hn : 3 ≤ n) {s : Sn} (B1 len cap : Nat) (ao : Option Addr) (zs : List Ov) (hreach : len ≤ 1000000) (w : World) (hs : Ev s w) (hbd : ∀ x ∈ zs, Bd x.o)
    (hB1 : w.cell? ⟨B1, 0, none⟩ = some (.slice ao len cap)) (hL : Objs w ao len cap zs) :
    SeqB (HJ zs) n Tryz.prog 102 #[.pointer (some ⟨B1, 0, none⟩)] encE (KA (w.heap.size + 1)) (fun ys => fsts ys = zs) (fun pre => fsts pre <+: zs) w := fun l J Jx W hW hWs hJ hJx hY h0 => by
  have hn1 : 1 ≤ n := by omega
  refine callsIn_of_wp_marks Tryz.func102 rfl trivial ?_ rfl
  simp only [Tryz.ntmps102, List.size_toArray, List.length_cons, List.length_nil, Nat.reduceAdd, Nat.reduceSub, Array.replicate_succ, Array.replicate_zero, List.push_toArray, List.append_toArray, List.nil_append, List.cons_append]
  have c1 := cell_later hW hB1
  have HL := Lib.hid (And.intro hL (And.intro hs (And.intro hbd hW)))
  have HJ := Lib.hid (And.intro hJ (And.intro hJx h0))
  have HY := Lib.hid hY
  clear hL hs hbd hB1 hJ hJx h0 hY hW
  have hBi : Below W.heap.size W (((W.alloc (.cells #[.func (.yield l) #[] #[]] 124)).alloc (.cells #[.string { data := #[] }] 9)).setCell ⟨W.heap.size + 1, 0, none⟩ (.string { data := #[] })) := ((Below.new W _).alloc (by simp) _).setCell (p := ⟨W.heap.size + 1, 0, none⟩) (by simp) _
  have hr0 : Boxed (((W.alloc (.cells #[.func (.yield l) #[] #[]] 124)).alloc (.cells #[.string { data := #[] }] 9)).setCell ⟨W.heap.size + 1, 0, none⟩ (.string { data := #[] })) (W.heap.size + 1) 9 (.string { data := #[] }) := by
    have := Boxed.new (W.alloc (.cells #[.func (.yield l) #[] #[]] 124)) 9 (.string { data := #[] })
    rw [World.size_alloc] at this
    exact this.set _
  have hl0 : Boxed (((W.alloc (.cells #[.func (.yield l) #[] #[]] 124)).alloc (.cells #[.string { data := #[] }] 9)).setCell ⟨W.heap.size + 1, 0, none⟩ (.string { data := #[] })) W.heap.size 124 (.func (.yield l) #[] #[]) := ((Boxed.new W _ _).alloc _).other (by omega) _
  have hzi : (((W.alloc (.cells #[.func (.yield l) #[] #[]] 124)).alloc (.cells #[.string { data := #[] }] 9)).setCell ⟨W.heap.size + 1, 0, none⟩ (.string { data := #[] })).heap.size = W.heap.size + 2 := by simp [World.setCell]
  obtain ⟨Wi, hWi⟩ : ∃ Wi, ((W.alloc (.cells #[.func (.yield l) #[] #[]] 124)).alloc (.cells #[.string { data := #[] }] 9)).setCell ⟨W.heap.size + 1, 0, none⟩ (.string { data := #[] }) = Wi := ⟨_, rfl⟩
  rw [hWi] at hBi hr0 hl0 hzi
  have HI := Lib.hid (And.intro hBi (And.intro hr0 hl0))
  have c2 : Wi.cell? ⟨B1, 0, none⟩ = some (.slice ao len cap) := cell_later hBi c1
  clear hBi hr0 hl0 c1
  gi_wp2
  gi_wp2_with (refine ⟨trivial, ?_⟩; gi_at_call 49; refine (callsIn_wide.2 (all_any ao len cap _)).mono ?_)
  rintro e W0 ⟨rfl, rfl⟩
  rw [hzi]
  have hb0 := Below.new Wi (.cells #[.slice ao len cap] 60)
  have hc1 : (Wi.alloc (.cells #[.slice ao len cap] 60)).cell? ⟨W.heap.size + 2, 0, none⟩ = some (.slice ao len cap) := by rw [← hzi]; simp
  have hz0 : (Wi.alloc (.cells #[.slice ao len cap] 60)).heap.size = W.heap.size + 3 := by rw [World.size_alloc, hzi]
  obtain ⟨W0, hW0⟩ : ∃ W0, Wi.alloc (.cells #[.slice ao len cap] 60) = W0 := ⟨_, rfl⟩
  rw [hW0] at hb0 hc1 hz0 ⊢
  have HA := Lib.hid (And.intro hc1 (And.intro hz0 (And.intro (below_more HI.out.1 hb0) (And.intro (boxed_more HI.out.2.1 hb0) (boxed_more HI.out.2.2 hb0)))))
  clear hb0 hc1 HI hW0 c2
  gi_wp2
  refine wpIn_rangeY hn1 (gf := 104) (lb := #[.pointer (some ⟨W.heap.size + 2, 0, none⟩)]) rfl (enters_of Tryz.func104 (by kernel_rfl) rfl)
    (vals1 (n - 1) (by omega) (fun k => k < w.heap.size) (W.heap.size + 2) len cap ao zs hreach W0 (fun k hk => by omega) HA.out.1 ((HL.out.1.more HL.out.2.2.2).more HA.out.2.2.1) ?hap) KS.trans (fun V o o' _ _ _ => KS.put _ _ _ (by omega)) (fun _ => rfl)
    (JgI l w W J) (JgX W Jx) ?hI ?hIx ?h0
    (fun x a' V => ∃ Bx, W.heap.size + 3 ≤ Bx ∧ ObAt V Bx 0 x ∧ a' = { tmps := #[.func (.yield l) #[] #[], .pointer (some ⟨B1, 0, none⟩), .pointer (some ⟨W.heap.size, 0, none⟩), .pointer (some ⟨W.heap.size + 1, 0, none⟩), .pointer (some ⟨Bx, 0, none⟩), .slice ao len cap, .func (.func 104) #[] #[.pointer (some ⟨W.heap.size + 2, 0, none⟩)], .agg #[.string (bs x.o.n), .int .i64 x.o.k, .string (bs x.o.d), .int .i64 x.o.m, .slice x.a x.o.l.length x.c], undef, undef, undef, undef, undef, undef, undef, undef, undef], defers := [] })
    ?hAx ?assign ?body ?done ?stop
  case hap =>
    intro hp a e
    obtain ⟨b, off, e', hbl, _⟩ := HL.out.1.at hp
    rw [e] at e'
    obtain rfl := Option.some.inj e'
    exact hbl
  case hI => exact JgI.own HJ.out.1 (by omega)
  case hIx => exact fun c => JgX.own HJ.out.2.1 (by omega) c
  case hAx =>
    rintro x a' _ A B row ⟨Bx, h0, h1, rfl⟩ hg hr
    exact ⟨Bx, h0, obat_keep h1 hg (fun r e => (hr r e).2), rfl⟩
  case h0 => exact ⟨⟨[], rfl, HJ.out.1 _ _ _ HJ.out.2.2 HA.out.2.2.1⟩, ⟨HA.out.2.2.2.2, HA.out.2.2.2.1, by omega⟩, KA.of_below HA.out.2.2.1⟩
  case assign =>
    rintro l2 pre x V K ⟨⟨p, hp, hj⟩, ⟨b0, b1, hz⟩, hk⟩ hH hK
    have HK := Lib.hid hK
    have hb := Below.new V (.cells #[.string (bs x.o.n), .int .i64 x.o.k, .string (bs x.o.d), .int .i64 x.o.m, .slice x.a x.o.l.length x.c] 55)
    have HP := Lib.hid (show JgI l w W J pre (V.alloc (.cells #[.string (bs x.o.n), .int .i64 x.o.k, .string (bs x.o.d), .int .i64 x.o.m, .slice x.a x.o.l.length x.c] 55)) from JgI.own HJ.out.1 (Nat.le_refl _) pre V _ none ⟨⟨p, hp, hj⟩, ⟨b0, b1, hz⟩, hk⟩ (below_grown hb) (fun r e => by cases e))
    clear hK b0 b1 hj hk hp hb
    simp only [ov]
    gi_wp2
    exact HK.out _ _ ((KeepsOthers.alloc _ _).from _) (KS.of_below (m := V.heap.size) (Below.new V _) (fun k hk => by omega)) HP.out ⟨V.heap.size, hz, ObAt.new V x _, rfl⟩
  case body =>
    rintro l2 pre x a' V ⟨⟨p, hp, hj⟩, ⟨b0, b1, hz⟩, hk⟩ hH ⟨Bx, hBx, hx, rfl⟩
    obtain ⟨a, ha⟩ : ∃ a, lastN [] (obs pre) = a := ⟨_, rfl⟩
    rw [ha] at b1
    have hm : x ∈ zs := hH.subset (by simp)
    have hwV : Below w.heap.size w V := HL.out.2.2.2.trans (hk.low (by omega) (by omega))
    have HV := Lib.hid (And.intro hp (And.intro hj (And.intro hk (And.intro b0 (And.intro b1 (And.intro hx (And.intro hH ha)))))))
    have HX := Lib.hid (And.intro (HL.out.2.2.1 x hm) (And.intro ((HL.out.1.hrows x hm).more hwV) (HL.out.2.1.more hwV)))
    clear hj hk b0 b1 hx hH ha hm hwV hp
    gi_wp2
    have hVd : Below V.heap.size V V.drew := (Below.refl _ V).drew
    refine wpIn_round_any (k := 7) (by kernel_rfl) rfl ?_
    refine jg_region (n := n - 1 - 1) (V := V.drew) (by omega) (s := s) (l := l) (x := x) (a := a) HV.out.2.2.2.1.cell HV.out.2.2.2.2.1.cell HV.out.2.2.2.2.2.1 HX.out.1 (HX.out.2.1.more hVd) (HX.out.2.2.more hVd) (m := n - 1)
      (fun w1 v hb1 hv => HY.out p (x, v) w1 (HJ.out.1 p V w1 HV.out.2.1 ((hVd.trans hb1).mono (by omega))) ⟨by rw [HV.out.1]; exact HV.out.2.2.2.2.2.2.1, by rw [HV.out.1, HV.out.2.2.2.2.2.2.2]; exact hv⟩) ?_
    rintro w1 v e w3 hb1 hv (⟨rfl, hj3, hk3, hf3⟩ | ⟨rfl, hj3, hf3⟩)
    · refine ⟨true, rfl, ?_⟩
      have hb2 : Below V.heap.size V w1 := hVd.trans hb1
      have k3 : KA (w.heap.size + 1) V w3 := (KA.of_below hb2).trans hk3
      have b3 := k3.boxed HV.out.2.2.2.2.1 (by omega)
      have f3 := k3.boxed HV.out.2.2.2.1 (by omega)
      have cb := b3.cell
      have fb := b3.frozen
      have ox : ObAt w3 Bx 0 x := HV.out.2.2.2.2.2.1.of_block (k3.block Bx HV.out.2.2.2.2.2.1.lt (fun e => by cases e; omega))
      obtain ⟨y0, _, _, _, _⟩ := ox.var
      have hsz := k3.size
      have HE := Lib.hid (show KeepsFrom W0.heap.size V (w3.setCell ⟨W.heap.size + 1, 0, none⟩ (.string (bs x.o.n))) ∧ KS (fun k => k < w.heap.size) V (w3.setCell ⟨W.heap.size + 1, 0, none⟩ (.string (bs x.o.n))) ∧ JgI l w W J (pre ++ [x]) (w3.setCell ⟨W.heap.size + 1, 0, none⟩ (.string (bs x.o.n))) from by
        refine ⟨(((keeps_below hb2).from _).trans (KeepsFrom.up hf3 (by omega))).trans ((KeepsOthers.setCell _ _ _).from _), ⟨by simp [World.setCell]; exact hsz, fun k hk => (Below.heap_setCell _ _ _ _ (fun e => by have : k = W.heap.size + 1 := e; omega)).trans (k3.block k (by omega) (fun e => by cases e; omega))⟩, ⟨p ++ [(x, v)], by rw [fsts_snoc, HV.out.1], ?_⟩, ⟨f3.other (by omega) _, ?_, ?_⟩, ?_⟩
        · exact HJ.out.1 _ w3 _ hj3 ((Below.refl W.heap.size w3).setCell (p := ⟨W.heap.size + 1, 0, none⟩) (by simp) _)
        · have := b3.set (.string (bs x.o.n))
          rw [show obs (pre ++ [x]) = obs pre ++ [x.o] by simp [obs], lastN_snoc]
          exact this
        · simp [World.setCell]; omega
        · exact (HV.out.2.2.1.trans k3).set (by omega))
      clear hj3 hk3 hf3 hb2 k3 b3 f3 ox hv hb1 hVd
      gi_wp2
      exact HE.out
    · refine ⟨false, rfl, ?_⟩
      have HE := Lib.hid (show KeepsFrom W0.heap.size V w3 ∧ JgX W Jx .ret (pre ++ [x]) w3 from ⟨((keeps_below (hVd.trans hb1)).from _).trans (KeepsFrom.up hf3 (by omega)), rfl, ⟨p ++ [(x, v)], by rw [fsts_snoc, HV.out.1], hj3⟩, by have := (hVd.trans hb1).size; have := hf3.size; omega⟩)
      clear hj3 hf3 hv hb1 hVd
      gi_wp2
      exact HE.out
  case done =>
    rintro D ys V hD rfl ⟨⟨p, hp, hj⟩, _, hk⟩ hK
    have HU := Lib.hid (And.intro hp (And.intro (HJ.out.1 _ _ (V.putObj D (.deferred none)) hj (below_put V _ _ _ (by omega))) hK))
    clear hj hk hK hp
    gi_wp2
    refine ⟨by simp, .inl ⟨_, _, rfl, run_takeDeferred HU.out.2.2, ?_⟩⟩
    exact ⟨_, results_none rfl _ _ _, ⟨_, rfl⟩, .inl ⟨p, HU.out.1, HU.out.2.1⟩⟩
  case stop =>
    rintro D c pre V hD hpre ⟨rfl, ⟨p, hp, hj⟩, _⟩ hK
    have HU := Lib.hid (And.intro hp (And.intro (HJ.out.2.1 _ _ (V.putObj D (.deferred none)) hj (below_put V _ _ _ (by omega))) (And.intro hK hpre)))
    clear hj hK hp hpre
    gi_wp2
    refine ⟨by simp, .inl ⟨_, _, rfl, run_takeDeferred HU.out.2.2.1, ?_⟩⟩
    exact ⟨_, results_none rfl _ _ _, ⟨_, rfl⟩, .inr ⟨p, by rw [HU.out.1]; exact HU.out.2.2.2, HU.out.2.1⟩⟩

end Go.Proofs.YtnbpfbmhheimbaaGreatDoor
