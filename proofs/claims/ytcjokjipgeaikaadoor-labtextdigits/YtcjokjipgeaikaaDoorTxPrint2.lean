/- Print. -/
import Derived.Test.YtcjokjipgeaikaaDoorTxPrint
import Derived.Deep.RegionHeld
namespace Go.Proofs.YtcjokjipgeaikaaDoor
open Go.RowKit Go.Shelf Go.Proofs.Fld Go.Proofs.Tx Go.Proofs.Cats

attribute [local go_sem] bs_toList

def PrintPost (x : Lab) (w : World) (e : Ending) (w' : World) : Prop := e = .returned (.tuple #[.string (bs (if x.right then prt x else [])), .int .i64 (if x.right then 0 else 20)]) ∧ Below w.heap.size w w'

theorem prt_len (x : Lab) (h : x.right = true) : (prt x).length ≤ 300 := by
  rw [Lab.right_iff] at h
  have h1 := braced_len x.c
  have h2 := dd_len x.l.toNat 1 (by omega)
  have h3 := dd_len x.i.toNat 0 (by omega)
  unfold prt
  simp only [List.length_cons, List.length_append]
  omega

set_option maxRecDepth 100000 in
set_option maxHeartbeats 4000000 in
theorem print_yes (ga : Addr) (a b c : Nat) (ha : a ≤ 15) (hb : b ≤ 7) (hu : U64 c) (w : World) (hE0 : Env ga w) :
    Calls Tryd.prog 9 #[.agg #[.int .i64 (a : Int), .int .u64 (c : Int), .int .i64 (b : Int)]] w fun e w' => e = .returned (.tuple #[.string (bs (prt ⟨(a : Int), c, (b : Int)⟩)), .int .i64 0]) ∧ Below w.heap.size w w' := by
  obtain ⟨x, hx⟩ : ∃ x : Lab, x = ⟨(a : Int), c, (b : Int)⟩ := ⟨_, rfl⟩
  have hr : x.right = true := by rw [hx, Lab.right_iff]; simp only; omega
  have hlen : [[76], dd a, braced c, [73], dd b].flatten.length ≤ 1000000 := by
    have := prt_len x hr
    rw [hx] at this
    unfold prt at this
    simp at this ⊢
    omega
  have HR := Lib.hid (Lb.right_any x (by rw [hx]; exact hu) (w.alloc (.cells #[.int .i64 (a : Int), .int .u64 (c : Int), .int .i64 (b : Int)] 24)))
  have hb0 := Below.new w (.cells #[.int .i64 (a : Int), .int .u64 (c : Int), .int .i64 (b : Int)] 24)
  have hl0 : Lb3 (w.alloc (.cells #[.int .i64 (a : Int), .int .u64 (c : Int), .int .i64 (b : Int)] 24)) w.heap.size x := by rw [hx]; exact World.alloc_heap_new w _
  have HE0 := Lib.hid (hE0.more hb0)
  have HB0 := Lib.hid hb0
  have HL0 := Lib.hid hl0
  have HX := Lib.hid hx
  have HHR := Lib.hid hr
  clear hE0 hb0 hl0 hx hr
  go_enter Tryd.func9, Tryd.ntmps9
  go_wp2_with fail
  have HRO := HR.out
  rw [HX.out] at HRO
  refine HRO.mono ?_
  rintro e w1 ⟨he, hb1⟩
  rw [← HX.out, HHR.out] at he
  subst he
  have hlb := HL0.out.block (hb1.block _ HL0.out.lt)
  have hE := HE0.out.more hb1
  have hB := below_more HB0.out hb1
  rw [HX.out] at hlb
  clear hb1 HRO HR
  go_wp2
  refine wp_region_held_drew (S := fun w' => Lb3 w' w.heap.size ⟨(a : Int), c, (b : Int)⟩ ∧ Env ga w' ∧ Below w.heap.size w w') (by kernel_rfl) (⟨hlb, hE.more ((Below.refl _ w1).drew), hB.drew⟩) (fun hS0 => ?_)
  refine wpAnyH_take (i := 0) (v := ?_) rfl (by kernel_rfl) (by kernel_rfl) (by kernel_rfl) (fun _ _ _ h => h) (Or.inl ⟨by rfl, ?_⟩) hS0 ?_; rotate_left; (· (intro wq hSw; have k0 := hSw.1.c0; have k1 := hSw.1.c1; have k2 := hSw.1.c2; go_simp; try with_reducible rfl))
  refine wpAnyH_take (i := 1) (v := ?_) rfl (by kernel_rfl) (by kernel_rfl) (by kernel_rfl) (fun _ _ _ h => h) (Or.inl ⟨by rfl, ?_⟩) hS0 ?_; rotate_left; (· (intro wq hSw; have k0 := hSw.1.c0; have k1 := hSw.1.c1; have k2 := hSw.1.c2; go_simp; try with_reducible rfl))
  refine wpAnyH_take (i := 3) (v := ?_) rfl (by kernel_rfl) (by kernel_rfl) (by kernel_rfl) (fun _ _ _ h => h) (Or.inl ⟨by rfl, ?_⟩) hS0 ?_; rotate_left; (· (intro wq hSw; have k0 := hSw.1.c0; have k1 := hSw.1.c1; have k2 := hSw.1.c2; go_simp; try with_reducible rfl))
  refine wpAnyH_take (i := 4) (v := ?_) rfl (by kernel_rfl) (by kernel_rfl) (by kernel_rfl) (fun _ _ _ h => h) (Or.inl ⟨by rfl, ?_⟩) hS0 ?_; rotate_left; (· (intro wq hSw; have k0 := hSw.1.c0; have k1 := hSw.1.c1; have k2 := hSw.1.c2; go_simp; try with_reducible rfl))
  refine wpAnyH_take (i := 6) (v := ?_) rfl (by kernel_rfl) (by kernel_rfl) (by kernel_rfl) (fun _ _ _ h => h) (Or.inl ⟨by rfl, ?_⟩) hS0 ?_; rotate_left; (· (intro wq hSw; have k0 := hSw.1.c0; have k1 := hSw.1.c1; have k2 := hSw.1.c2; go_simp; try with_reducible rfl))
  refine wpAnyH_take (i := 7) (v := ?_) rfl (by kernel_rfl) (by kernel_rfl) (by kernel_rfl) (fun _ _ _ h => h) (Or.inl ⟨by rfl, ?_⟩) hS0 ?_; rotate_left; (· (intro wq hSw; have k0 := hSw.1.c0; have k1 := hSw.1.c1; have k2 := hSw.1.c2; go_simp; try with_reducible rfl))
  refine wpAnyH_ready (rs := [2]) (by kernel_rfl) (by simp) ?_
  refine AllReadyH.cons rfl (fun K hK => ?_) AllReadyH.nil
  go_simp
  refine (digits_any ga a (by omega) _ hS0.2.1).mono ?_
  rintro e v1 ⟨rfl, hb⟩
  refine hK.out _ _ (⟨hS0.1.block (hb.block _ hS0.1.lt), hS0.2.1.more hb, below_more hS0.2.2 hb⟩) (fun hS1 => ?_)
  clear hK K hS0 hb
  try simp only [Act.put, List.setIfInBounds_toArray, List.set_cons_zero, List.set_cons_succ]
  refine wpAnyH_ready (rs := [5]) (by kernel_rfl) (by simp) ?_
  refine AllReadyH.cons rfl (fun K hK => ?_) AllReadyH.nil
  go_simp
  refine (braced_any ga c hu _ hS1.2.1).mono ?_
  rintro e v2 ⟨rfl, hb⟩
  refine hK.out _ _ (⟨hS1.1.block (hb.block _ hS1.1.lt), hS1.2.1.more hb, below_more hS1.2.2 hb⟩) (fun hS2 => ?_)
  clear hK K hS1 hb
  try simp only [Act.put, List.setIfInBounds_toArray, List.set_cons_zero, List.set_cons_succ]
  refine wpAnyH_ready (rs := [8]) (by kernel_rfl) (by simp) ?_
  refine AllReadyH.cons rfl (fun K hK => ?_) AllReadyH.nil
  go_simp
  refine (digits_any ga b (by omega) _ hS2.2.1).mono ?_
  rintro e v3 ⟨rfl, hb⟩
  refine hK.out _ _ (⟨hS2.1.block (hb.block _ hS2.1.lt), hS2.2.1.more hb, below_more hS2.2.2 hb⟩) (fun hS3 => ?_)
  clear hK K hS2 hb
  try simp only [Act.put, List.setIfInBounds_toArray, List.set_cons_zero, List.set_cons_succ]
  refine wpAnyH_ready (rs := [9]) (by kernel_rfl) (by simp) ?_
  refine AllReadyH.cons rfl (fun K hK => ?_) AllReadyH.nil
  go_simp
  have HT := Lib.hid (texts5 v3 [76] (dd a) (braced c) [73] (dd b))
  have hb := Below.new v3 (.cells #[.string (bs [76]), .string (bs (dd a)), .string (bs (braced c)), .string (bs [73]), .string (bs (dd b))] 9)
  refine hK.out _ _ (⟨hS3.1.block (hb.block _ hS3.1.lt), hS3.2.1.more hb, below_more hS3.2.2 hb⟩) (fun hS4 => ?_)
  clear hK K hS3 hb
  try simp only [Act.put, List.setIfInBounds_toArray, List.set_cons_zero, List.set_cons_succ]
  refine wpAnyH_ready (rs := [10]) (by kernel_rfl) (by simp) ?_
  refine AllReadyH.cons rfl (fun K hK => ?_) AllReadyH.nil
  go_simp
  refine (glue_any v3.heap.size 5 5 [[76], dd a, braced c, [73], dd b] _ HT.out rfl (by simp) (by simp) hlen).mono ?_
  rintro e v4 ⟨rfl, hb⟩
  refine hK.out _ _ (⟨hS4.1.block (hb.block _ hS4.1.lt), hS4.2.1.more hb, below_more hS4.2.2 hb⟩) (fun hS5 => ?_)
  clear hK K hS4 hb
  try simp only [Act.put, List.setIfInBounds_toArray, List.set_cons_zero, List.set_cons_succ]
  refine wpAnyH_take (i := 11) (v := ?_) rfl (by kernel_rfl) (by kernel_rfl) (by kernel_rfl) (fun _ _ _ h => h) (Or.inl ⟨by rfl, ?_⟩) hS5 ?_; rotate_left; (· (intro wq hSw; have k0 := hSw.1.c0; have k1 := hSw.1.c1; have k2 := hSw.1.c2; go_simp; try with_reducible rfl))
  try simp only [List.getElem_toArray, List.getElem_cons_succ, List.getElem_cons_zero, Act.put, List.setIfInBounds_toArray, List.set_cons_zero, List.set_cons_succ]
  refine wpAnyH_take (i := 12) (v := ?_) rfl (by kernel_rfl) (by kernel_rfl) (by kernel_rfl) (fun _ _ _ h => h) (Or.inl ⟨by rfl, ?_⟩) hS5 ?_; rotate_left; (· (intro wq hSw; have k0 := hSw.1.c0; have k1 := hSw.1.c1; have k2 := hSw.1.c2; go_simp; try with_reducible rfl))
  refine wpAnyH_done (by kernel_rfl) ?_ _
  try simp only [List.getElem_toArray, List.getElem_cons_succ, List.getElem_cons_zero, Act.put, List.setIfInBounds_toArray, List.set_cons_zero, List.set_cons_succ]
  go_wp2
  go_ret2
  refine ⟨?_, hS5.2.2⟩
  unfold prt
  simp

set_option maxHeartbeats 1000000 in
theorem print_no (x : Lab) (hf : x.fits) (h : x.right = false) (w : World) :
    Calls Tryd.prog 9 #[.agg #[.int .i64 x.l, .int .u64 (x.c : Int), .int .i64 x.i]] w fun e w' => e = .returned (.tuple #[.string (bs []), .int .i64 20]) ∧ Below w.heap.size w w' := by
  have HR := Lib.hid (Lb.right_any x hf (w.alloc (.cells #[.int .i64 x.l, .int .u64 (x.c : Int), .int .i64 x.i] 24)))
  have HB0 := Lib.hid (Below.new w (.cells #[.int .i64 x.l, .int .u64 (x.c : Int), .int .i64 x.i] 24))
  have HH := Lib.hid h
  clear h
  go_enter Tryd.func9, Tryd.ntmps9
  go_wp2_with fail
  refine HR.out.mono ?_
  rintro e w1 ⟨he, hb1⟩
  rw [HH.out] at he
  subst he
  have HB := Lib.hid (below_more HB0.out hb1)
  clear hb1
  go_wp2
  go_ret2
  exact ⟨rfl, HB.out⟩

theorem print_any (ga : Addr) (x : Lab) (hf : x.fits) (w : World) (hE : Env ga w) :
    Calls Tryd.prog 9 #[.agg #[.int .i64 x.l, .int .u64 (x.c : Int), .int .i64 x.i]] w (PrintPost x w) := by
  cases h : x.right
  · refine (print_no x hf h w).mono fun e w' ⟨he, hb⟩ => ⟨?_, hb⟩
    rw [he, h]
    rfl
  · have hr := (Lab.right_iff x).1 h
    have hx : x = ⟨((x.l.toNat : Nat) : Int), x.c, ((x.i.toNat : Nat) : Int)⟩ := Lab.ext (by simp only; omega) rfl (by simp only; omega)
    have k := print_yes ga x.l.toNat x.i.toNat x.c (by omega) (by omega) hf w hE
    rw [← hx] at k
    have e1 : ((x.l.toNat : Nat) : Int) = x.l := by omega
    have e2 : ((x.i.toNat : Nat) : Int) = x.i := by omega
    rw [e1, e2] at k
    refine k.mono fun e w' ⟨he, hb⟩ => ⟨?_, hb⟩
    rw [he, h]
    rfl

end Go.Proofs.YtcjokjipgeaikaaDoor

