/- The iterator over digits. -/
import Derived.Test.YtcjokjipgeaikaaDoorTxRead
namespace Go.Proofs.YtcjokjipgeaikaaDoor
open Go.RowKit Go.Shelf Go.Proofs.Fld Go.Proofs.Tx

attribute [local go_sem] Oper.semAt_some

/-- The iterator's own step: it writes the reader, and what it has made itself. -/
structure StD (R n₀ : Nat) (A B : World) : Prop where
  os : B.os = A.os
  tape : B.tape = A.tape
  output : B.output = A.output
  size : A.heap.size ≤ B.heap.size
  block : ∀ k, k < n₀ → k ≠ R → B.heap[k]? = A.heap[k]?
  rx : ∃ T l, Rx A R T l
theorem stD_others {R n₀ : Nat} (A B : World) (k : Nat) (o : Obj) (h : StD R n₀ A B) (hk : k < n₀) (ho : A.heap[k]? = some o) (hc : o.isCells = false) : B.heap[k]? = some o := by
  refine (h.block k hk (fun e => ?_)).trans ho
  subst e
  obtain ⟨T, l, hl⟩ := h.rx
  rw [show A.heap[k]? = _ from hl] at ho
  cases ho
  cases hc

/-- A digit's byte. -/
def dB (d : Fin 10) : UInt8 := UInt8.ofNat (48 + d.val)
theorem dB_nat (d : Fin 10) : (dB d).toNat = 48 + d.val := toNat_dig d.isLt
theorem isD_dB (d : Fin 10) : isD (dB d) = true := isD_dig d.isLt
theorem of_isD {b : UInt8} (h : isD b = true) : ∃ d : Fin 10, b = dB d := by
  have hb := isD_not h
  refine ⟨⟨b.toNat - 48, by omega⟩, ?_⟩
  exact (dig_of h).symm

theorem at_pos (pre : List (Fin 10)) (b : UInt8) (r : List UInt8) : ∃ h : pre.length < (bs (pre.map dB ++ b :: r)).size, (bs (pre.map dB ++ b :: r))[pre.length] = b := by
  have h : pre.length < (bs (pre.map dB ++ b :: r)).size := by rw [bs_size]; simp
  refine ⟨h, ?_⟩
  have e : (bs (pre.map dB ++ b :: r))[pre.length] = (pre.map dB ++ b :: r)[pre.length]'(by simp) := rfl
  rw [e, List.getElem_append_right (by simp)]
  simp

def DigS (R T : Nat) (all : List UInt8) (ys : List (Fin 10)) (W : World) : Prop := ∃ rest, all = ys.map dB ++ rest ∧ NoD rest ∧ Rx W R T rest
def DigSp (R T : Nat) (all : List UInt8) (pre : List (Fin 10)) (W : World) : Prop := ∃ p x rest, pre = p ++ [x] ∧ all = p.map dB ++ dB x :: rest ∧ Rx W R T (dB x :: rest)

set_option maxHeartbeats 1000000 in
theorem digits_in (n : Nat) (R : Nat) (w : World) :
    CallsIn Fence.wide n Tryd.prog 49 #[.pointer (some ⟨R, 0, none⟩)] w fun e w' => e = .returned (.func (.func 67) #[] #[.pointer (some ⟨w.heap.size, 0, none⟩)]) ∧ w' = w.alloc (.cells #[.pointer (some ⟨R, 0, none⟩)] 121) := by
  refine callsIn_of_wp Tryd.func49 rfl trivial ?_ rfl
  simp only [Tryd.ntmps49, List.size_toArray, List.length_cons, List.length_nil, Nat.reduceAdd, Nat.reduceSub, Array.replicate_succ, Array.replicate_zero, List.push_toArray, List.append_toArray, List.nil_append, List.cons_append]
  gi_wp2
  go_ret
  exact ⟨rfl, rfl⟩

theorem stD_iter {R n₀ K T : Nat} {wr : World} {l : List UInt8} (hK : n₀ ≤ K) (hR : Rx wr R T l) (s : ByteArray) (pos : Nat) : StD R n₀ wr (wr.iterAt K s pos) :=
  ⟨rfl, rfl, rfl, by rw [Lib.iterAt_size]; exact Nat.le_refl _, fun k hk _ => Lib.iterAt_other wr K k s pos (by omega), T, l, hR⟩
theorem stD_only {R n₀ T : Nat} {A B : World} {l : List UInt8} (hR : Rx A R T l) (hn : n₀ ≤ A.heap.size) (h : A.grownBy B (some R)) : StD R n₀ A B :=
  ⟨h.os, h.tape, h.output, h.size, fun k hk hne => h.block k (by omega) (fun e => hne (by injection e)), T, l, hR⟩

set_option maxRecDepth 100000 in
set_option maxHeartbeats 4000000 in
theorem digits1_in (n : Nat) (hn : 2 ≤ n) (l Bl R T : Nat) (hne : Bl ≠ R) (all : List UInt8) (hl : all.length ≤ T) (hT : T ≤ 4611686018427387904) (J Jx : List (Fin 10) → World → Prop) (W : World) (hJ : ∀ s A B, J s A → StD R W.heap.size A B → J s B)
    (hY : ∀ pre x W1, J pre W1 → YieldAt Fence.wide (n - 1) Tryd.prog l #[.int .i64 ((x : Fin 10).val : Int)] W1 fun e W' =>
      (e = .returned (.bool true) ∧ J (pre ++ [x]) W' ∧ KeepsKs (fun k => k = Bl ∨ k = R) W1 W' ∧ KeepsFrom W.heap.size W1 W') ∨ (e = .returned (.bool false) ∧ Jx (pre ++ [x]) W' ∧ KeepsKs (fun k => k = Bl ∨ k = R) W1 W' ∧ KeepsFrom W.heap.size W1 W'))
    (hBl : Boxed W Bl 121 (.pointer (some ⟨R, 0, none⟩))) (hR : Rx W R T all) (h0 : J [] W) :
    CallsIn Fence.wide n Tryd.prog 67 #[.func (.yield l) #[] #[], .pointer (some ⟨Bl, 0, none⟩)] W fun e W' => (∃ v, e = .returned v) ∧
      ((∃ ys, DigS R T all ys W' ∧ J ys W') ∨ (∃ pre, DigSp R T all pre W' ∧ Jx pre W')) := by
  have h1n : 1 ≤ n := by omega
  have cB := hBl.cell
  have cR := hR.c0
  refine callsIn_of_wp Tryd.func67 rfl trivial ?_ rfl
  simp only [Tryd.ntmps67, List.size_toArray, List.length_cons, List.length_nil, Nat.reduceAdd, Nat.reduceSub, Array.replicate_succ, Array.replicate_zero, List.push_toArray, List.append_toArray, List.nil_append, List.cons_append]
  gi_wp2
  gi_loopw [] (fun wr => ∃ (pre : List (Fin 10)) (rest : List UInt8), all = pre.map dB ++ rest ∧ J pre wr ∧ Boxed wr Bl 121 (.pointer (some ⟨R, 0, none⟩)) ∧ Rx wr R T rest ∧ wr.heap[W.heap.size]? = some (.stringIter (bs all) pre.length) ∧ W.heap.size < wr.heap.size)
    (fun wr => all.length - wr.iterPos W.heap.size)
  case atStart =>
    have hit := World.iter_heap W (bs all) 0
    have hst : StD R W.heap.size W (W.alloc (.stringIter (bs all) 0)) := ⟨rfl, rfl, rfl, by simp, fun k hk _ => Below.heap_alloc _ _ _ hk, T, all, hR⟩
    exact ⟨[], all, rfl, hJ _ _ _ h0 hst, hBl.alloc _, hR.more (Below.new W _), hit, by show W.heap.size < (W.alloc _).heap.size; rw [World.size_alloc]; exact Nat.lt_succ_self _⟩
  case round =>
    obtain ⟨pre, rest, hx, hJs, hb, hr, hit, hsz⟩ := hrel
    have c1 := hb.cell
    cases rest with
    | nil =>
      have hnx : ∀ ty, (Instr.next (.pointer (some ⟨W.heap.size, 0, none⟩)) true ty).run Tryd.prog wr = _ := fun ty => Lib.run_next_end_at wr W.heap.size (bs all) pre.length ty hit (by rw [bs_size, hx]; simp only [List.append_nil, List.length_map]; omega)
      have HX := Lib.hid hx
      clear hx cR cB
      gi_wp2
      go_end0
      exact ⟨⟨_, rfl⟩, .inl ⟨pre, ⟨[], HX.out, (fun b r e => by cases e), hr⟩, hJs⟩⟩
    | cons b r =>
      obtain ⟨hp, hpe⟩ := at_pos pre b r
      rw [← hx] at hp
      have hpe' : (bs all)[pre.length] = b := by simp only [hx]; exact hpe
      clear hpe
      by_cases ha : b.toNat < 128
      · have hnx : ∀ ty, (Instr.next (.pointer (some ⟨W.heap.size, 0, none⟩)) true ty).run Tryd.prog wr = .ok (.tuple #[.bool true, .int .i64 (pre.length : Int), .int .i32 (b.toNat : Int)]) (wr.iterAt W.heap.size (bs all) (pre.length + 1)) := fun ty => by
          have := Lib.run_next_ascii_at (P := Tryd.prog) wr W.heap.size (bs all) pre.length ty hit hp (by rw [hpe']; exact ha)
          rw [hpe'] at this
          exact this
        have hst := stD_iter (n₀ := W.heap.size) (Nat.le_refl _) hr (bs all) (pre.length + 1)
        have hJ2 := hJ _ _ _ hJs hst
        have hit2 := Lib.iterAt_heap wr W.heap.size (bs all) pre.length (pre.length + 1) hit
        have hBl0 : Bl < W.heap.size := hBl.lt
        have hR0 : R < W.heap.size := hR.lt
        have hb2 : Boxed (wr.iterAt W.heap.size (bs all) (pre.length + 1)) Bl 121 (.pointer (some ⟨R, 0, none⟩)) := (Lib.iterAt_other wr W.heap.size Bl _ _ (by omega)).trans hb
        have hr2 : Rx (wr.iterAt W.heap.size (bs all) (pre.length + 1)) R T (b :: r) := hr.block (Lib.iterAt_other wr W.heap.size R _ _ (by omega))
        have hs2 : (wr.iterAt W.heap.size (bs all) (pre.length + 1)).heap.size = wr.heap.size := Lib.iterAt_size _ _ _ _
        obtain ⟨wi, hwi⟩ : ∃ wi, wr.iterAt W.heap.size (bs all) (pre.length + 1) = wi := ⟨_, rfl⟩
        rw [hwi] at hnx hJ2 hit2 hb2 hr2 hs2
        have HX := Lib.hid hx
        have HP := Lib.hid hpe'
        have HI := Lib.hid hit
        have HS := Lib.hid hs2
        have hmeas : wr.iterPos W.heap.size = pre.length := by simp only [World.iterPos, hit]
        have HM := Lib.hid hmeas
        clear hx hpe' hwi hst hit hs2 hmeas hJs hb hr cR cB c1
        by_cases h1 : 48 ≤ b.toNat
        · by_cases h2 : b.toNat ≤ 57
          · have hd : isD b = true := by unfold isD; simp [h1, h2]
            obtain ⟨d, rfl⟩ := of_isD hd
            rw [dB_nat] at hnx h1 h2
            have hdl := d.isLt
            obtain ⟨fn, tmps, assign, body, hy, hRn⟩ := hY pre d _ hJ2
            have HD := Lib.hid hd
            have c2 := hb2.cell
            have hxs : IntKind.i32.wrap (((48 + d.val : Nat) : Int) - 48) = (d.val : Int) := by rw [IntKind.wrap_i32]; omega
            have hyd : ((d.val : Nat) : Int) = 48 + ((d.val : Nat) : Int) - 48 := by omega
            rw [hyd] at hy
            have q1 : decide (48 + ((d.val : Nat) : Int) < 48) = false := by simp; omega
            have q2 : decide (57 < 48 + ((d.val : Nat) : Int)) = false := by simp; omega
            clear hd ha hyd hxs
            gi_wp2
            refine hRn.mono ?_
            rintro e W3 (⟨rfl, hJ3, hk3, hf3⟩ | ⟨rfl, hJx3, hk3, hf3⟩)
            · have hr3 : Rx W3 R T (dB d :: r) := hr2.block (hk3 R (.inr rfl))
              have hb3 : Boxed W3 Bl 121 (.pointer (some ⟨R, 0, none⟩)) := (hk3 Bl (.inl rfl)).trans hb2
              have hit3 := hf3.same _ _ (Nat.le_refl _) hit2 rfl
              have hs3 := hf3.size
              have c3 := hb3.cell
              have hll : (dB d :: r).length ≤ T := by
                have := congrArg List.length HX.out
                simp at this ⊢
                omega
              gi_wp2_with (refine ⟨trivial, ?_⟩; gi_at_call 47; refine (callsIn_wide.2 (skip_any R T (dB d :: r) 1 (by simp) hll hT W3 hr3)).mono ?_; rintro e w4 ⟨rfl, hr4, ho4, hs4⟩)
              have hR3 : R < W3.heap.size := hr3.lt
              have hW3 : W.heap.size < W3.heap.size := by rw [HS.out] at hs3; omega
              have hit4 : w4.heap[W.heap.size]? = some (.stringIter (bs all) (pre.length + 1)) := (ho4.block _ hW3 (fun e => by injection e with e; omega)).trans hit3
              go_roundw
              case rel =>
                refine ⟨pre ++ [d], r, by rw [HX.out]; simp, hJ _ _ _ hJ3 (stD_only hr3 (by omega) ho4), hb3.kept ho4 (fun e => hne (by injection e)), hr4, by simpa using hit4, by omega⟩
              case measure =>
                rw [HM.out]
                simp only [World.iterPos, hit4]
                have := congrArg List.length HX.out
                simp at this
                omega
            · gi_wp2
              refine bodyPost_ret (results_none rfl _ _ _) rfl ?_
              exact ⟨⟨_, rfl⟩, .inr ⟨pre ++ [d], ⟨pre, d, r, rfl, HX.out, hr2.block (hk3 R (.inr rfl))⟩, hJx3⟩⟩
          · have hd : isD b = false := by unfold isD; simp [h2]
            have HD := Lib.hid hd
            obtain ⟨v, hv⟩ : ∃ v, (b.toNat : Int) = v := ⟨_, rfl⟩
            rw [hv] at hnx
            have q1 : decide (v < 48) = false := by simp; omega
            have q2 : decide (57 < v) = true := by simp; omega
            clear hd ha hv h1 h2
            gi_wp2
            refine ⟨(fun f e => by cases e), ?_⟩
            gi_wp2
            refine bodyPost_ret (results_none rfl _ _ _) rfl ?_
            exact ⟨⟨_, rfl⟩, .inl ⟨pre, ⟨b :: r, HX.out, noD_of r HD.out, hr2⟩, hJ2⟩⟩
        · have hd : isD b = false := by unfold isD; simp [h1]
          have HD := Lib.hid hd
          obtain ⟨v, hv⟩ : ∃ v, (b.toNat : Int) = v := ⟨_, rfl⟩
          rw [hv] at hnx
          have q1 : decide (v < 48) = true := by simp; omega
          clear hd ha hv h1
          gi_wp2
          refine ⟨(fun f e => by cases e), ?_⟩
          gi_wp2
          refine bodyPost_ret (results_none rfl _ _ _) rfl ?_
          exact ⟨⟨_, rfl⟩, .inl ⟨pre, ⟨b :: r, HX.out, noD_of r HD.out, hr2⟩, hJ2⟩⟩
      · have hd : isD b = false := by unfold isD; simp; omega
        obtain ⟨hh, _⟩ := decode_high (bs all) pre.length hp (by rw [hpe']; omega)
        have hnx : ∀ ty, (Instr.next (.pointer (some ⟨W.heap.size, 0, none⟩)) true ty).run Tryd.prog wr = _ := fun ty => Lib.run_next_any_at (P := Tryd.prog) wr W.heap.size (bs all) pre.length ty hit hp
        have hst := stD_iter (n₀ := W.heap.size) (Nat.le_refl _) hr (bs all) (pre.length + (Utf8.decode (bs all) pre.length).2)
        have hJ2 := hJ _ _ _ hJs hst
        have hR0 : R < W.heap.size := hR.lt
        have hr2 : Rx (wr.iterAt W.heap.size (bs all) (pre.length + (Utf8.decode (bs all) pre.length).2)) R T (b :: r) := hr.block (Lib.iterAt_other wr W.heap.size R _ _ (by omega))
        obtain ⟨wi, hwi⟩ : ∃ wi, wr.iterAt W.heap.size (bs all) (pre.length + (Utf8.decode (bs all) pre.length).2) = wi := ⟨_, rfl⟩
        obtain ⟨v, hv⟩ : ∃ v, (Utf8.decode (bs all) pre.length).1 = v := ⟨_, rfl⟩
        rw [hwi] at hJ2 hr2
        rw [hwi, hv] at hnx
        rw [hv] at hh
        have HX := Lib.hid hx
        have HD := Lib.hid hd
        obtain ⟨u, hu⟩ : ∃ u, (v : Int) = u := ⟨_, rfl⟩
        rw [hu] at hnx
        have q1 : decide (u < 48) = false := by simp; omega
        have q2 : decide (57 < u) = true := by simp; omega
        clear hx hpe' hwi hst hit hJs hb hr cR cB c1 hd ha hv hu hh
        gi_wp2
        refine ⟨(fun f e => by cases e), ?_⟩
        gi_wp2
        refine bodyPost_ret (results_none rfl _ _ _) rfl ?_
        exact ⟨⟨_, rfl⟩, .inl ⟨pre, ⟨b :: r, HX.out, noD_of r HD.out, hr2⟩, hJ2⟩⟩

theorem digits_steps (n : Nat) (hn : 2 ≤ n) (Bl R T : Nat) (hne : Bl ≠ R) (all : List UInt8) (hl : all.length ≤ T) (hT : T ≤ 4611686018427387904) (w : World) (hBl : Boxed w Bl 121 (.pointer (some ⟨R, 0, none⟩))) (hR : Rx w R T all) :
    SeqStepsI n Tryd.prog 67 #[.pointer (some ⟨Bl, 0, none⟩)] (fun d : Fin 10 => #[Value.int .i64 (d.val : Int)]) (fun k => k = Bl ∨ k = R) (StD R) (DigS R T all) (DigSp R T all) w := fun l J Jx W hW hJ hY h0 =>
  digits1_in n hn l Bl R T hne all hl hT J Jx W hJ hY ((hW.block Bl hBl.lt).trans hBl) (hR.below hW hR.lt) h0

end Go.Proofs.YtcjokjipgeaikaaDoor
