/- with: others in place of some. -/
import Derived.Test.YtnbpfbmhheimbaaGreatDoorSpOwn2
namespace Go.Proofs.YtnbpfbmhheimbaaGreatDoor
open Go.RowKit Go.Proofs.Fld Go.Proofs.Rng Go.Proofs.Spc Go.Shelf Go.Sort

theorem elemO : Tryz.prog.elem 60 = 55 := by kernel_rfl
theorem sizeO (w : World) : (sizeOf 55).run Tryz.prog w = .ok 5 w := by
  obtain ⟨i0, hi, hz0, hz1, hz2⟩ := info_parts infoO
  simp [sizeOf, typeInfo, hi, hz1]
theorem slice_uptoO (ao : Option Addr) (len cap k : Nat) (hk : k ≤ cap) (W : World) : (Instr.slice 60 (.slice ao len cap) none (some (.int .i64 (k : Int))) (some (.int .i64 (k : Int)))).run Tryz.prog W = .ok (.slice ao k k) W := by
  rw [run_slice_hm W _ ao len cap (by kernel_rfl) .i64 .i64 (k : Int) (k : Int) (by omega) (by omega) (by omega), elemO, sizeO]
  simp only [Result.andThen, sliced, Int.toNat_natCast, Nat.sub_zero, Nat.zero_mul]
  split
  · rfl
  · cases ao with
    | none => rfl
    | some x => simp [add_zero']
theorem slice_fromO (ao : Option Addr) (len cap e : Nat) (he : e ≤ len) (W : World) : (Instr.slice 60 (.slice ao len cap) (some (.int .i64 (e : Int))) none none).run Tryz.prog W = .ok (.slice (fromO ao e cap) (len - e) (cap - e)) W := by
  rw [run_slice_l W _ ao len cap (by kernel_rfl) .i64 (e : Int) (by omega) (by omega), elemO, sizeO]
  simp only [Result.andThen, sliced, Int.toNat_natCast, fromO]
theorem row_grown {w w' : World} (h : w.grownBy w' none) : Below w.heap.size w w' := ⟨h.os, h.tape, h.output, h.size, fun k hk => h.block k hk (by simp)⟩
/-- An append that has no room: a row of its own. -/
theorem objs_grow {t tx : TypeId} (ht : Tryz.prog.underlying t = some (.slice 55)) (hk : Tryz.prog.underlying tx = some (.slice 55)) {W : World} {a1 : Option Addr} {n c1 m c2 : Nat} {ad : Addr} {vs1 vs2 : List Ov} (h1 : Objs W a1 n c1 vs1) (h2 : Objs W (some ad) m c2 vs2) (hg : c1 < n + m) (hn : n + m ≤ 2000000) :
    ∃ g cap w', (∀ ty, (Builtin.append_ #[t, tx] ty #[.slice a1 n c1, .slice (some ad) m c2]).run Tryz.prog W = .ok (.slice (some ⟨g, 0, none⟩) (n + m) cap) w') ∧ OwnO W.heap.size w' (.slice (some ⟨g, 0, none⟩) (n + m) cap) (vs1 ++ vs2) ∧ Below W.heap.size W w' := by
  obtain ⟨i0, hi, hz0, hz1, hz2⟩ := info_parts infoO
  have l1 : (ocl vs1).length = n * 5 := by rw [ocl_length, h1.hlen]
  have l2 : (ocl vs2).length = m * 5 := by rw [ocl_length, h2.hlen]
  have hold : (Builtin.firstCells i0.size n (.slice a1 n c1)).run Tryz.prog W.drew = .ok (ocl vs1).toArray W.drew := by
    rw [hz1]
    cases a1 with
    | none =>
      obtain ⟨rfl, rfl⟩ := h1.nones rfl
      obtain rfl : vs1 = [] := List.eq_nil_of_length_eq_zero h1.hlen
      exact run_firstCells_none W.drew 5 0 0 0
    | some b => exact run_firstCells_some W.drew 5 n b n c1 (ocl vs1) l1 (by simpa using h1.news b rfl)
  have hs : Src Tryz.prog i0.size tx (.slice (some ad) m c2) m (ocl vs2) W := by
    rw [hz1]
    exact Src.ofSlice W hk ad m c2 (ocl vs2) l2 (h2.news ad rfl) (ocl_cells vs2)
  have hr := fun ty => run_append_grow_src (P := Tryz.prog) W t tx ty 55 i0 _ ht hi hz0 a1 n c1 (ocl vs1) hold (.slice (some ad) m c2) m (ocl vs2) hs hg (by omega) (growslice_fits hg (by rw [hz2]; omega))
  have hge := grownCap_ge W (n + m) c1 55
  have hcm := grownCap_le_maxLen W (n + m) c1 55 (by unfold maxLen; omega)
  refine ⟨_, _, _, hr, ?_, (Below.refl _ W).drew.alloc (Nat.le_refl _) _⟩
  unfold OwnO
  have hL : (vs1 ++ vs2).length = n + m := by rw [List.length_append, h1.hlen, h2.hlen]
  rw [hL, ocl_append]
  refine ⟨by rw [List.length_append, l1, l2]; omega, .inr ⟨W.heap.size, _, _, rfl, Nat.le_refl _, World.alloc_heap_new W.drew _, hge, hcm, ?_, ?_⟩⟩
  · simp only [Array.size_append, List.size_toArray, size_zeroCells, l1, l2, List.length_append]
    show n * 5 + m * 5 + (grownCap W (n + m) c1 55 - (n + m)) * 5 = _
    omega
  · simp only [Array.toList_append]
    rw [show (n + m) * 5 = (ocl vs1 ++ ocl vs2).length by rw [List.length_append, l1, l2]; omega]
    exact List.take_left
theorem objs_nothing {t tx : TypeId} (ht : Tryz.prog.underlying t = some (.slice 55)) (hk : Tryz.prog.underlying tx = some (.slice 55)) {W : World} {a1 a2 : Option Addr} {n c1 c2 : Nat} (h : n ≤ c1) (h2 : a2 = none → c2 = 0) : ∀ ty, (Builtin.append_ #[t, tx] ty #[.slice a1 n c1, .slice a2 0 c2]).run Tryz.prog W = .ok (.slice a1 n c1) W := by
  obtain ⟨i0, hi, hz0, hz1, hz2⟩ := info_parts infoO
  intro ty
  refine run_append_nothing W t tx ty 55 i0 ht hi a1 n c1 h (.slice a2 0 c2) ?_
  rw [hz1]
  cases a2 with
  | none => exact Src.ofNil W hk c2
  | some ad => exact Src.ofSlice W hk ad 0 c2 [] rfl (fun j u hu => by cases hu) (fun u hu => by cases hu)
theorem withL_obs (zs ps : List Ov) (s e : Nat) : obs (zs.take s ++ ps ++ zs.drop e) = withL (obs zs) s e (obs ps) := by
  unfold withL
  rw [obs_append, obs_append, obs_take, obs_drop]
theorem SeqO.of {os : List Ob} {k : Nat} {w w1 : World} {e : Ending} {w' : World} (h : SeqO os k w1 e w') (hb : Below w.heap.size w w1) : SeqO os k w e w' := by
  obtain ⟨vs, va, vc, he, ho, hO, hb1⟩ := h
  exact ⟨vs, va, vc, he, ho, hO, below_more hb hb1⟩

set_option maxRecDepth 100000 in
set_option maxHeartbeats 4000000 in
theorem withO_one (p : Ov) (ad : Addr) (s e : Nat) (ao : Option Addr) (len cap : Nat) (zs : List Ov) (hreach : len ≤ 100000) (hs : s ≤ len) (he : e ≤ len) (hbd : ∀ x ∈ zs, Bd x.o) (hbp : Bd p.o) (w : World) (hL : Objs w ao len cap zs) (hP : Objs w (some ad) 1 1 [p]) :
    Calls Tryz.prog 107 #[.slice ao len cap, .int .i64 (s : Int), .int .i64 (e : Int), .slice (some ad) 1 1] w (SeqO (withL (obs zs) s e [p.o]) (s + 1 + (len - e)) w) := by
  obtain ⟨i0, hi, hz0, hz1, hz2⟩ := info_parts infoO
  have u1 := slice_uptoO ao len cap s (by have := hL.hle; omega)
  have u2 := slice_fromO ao len cap e he
  have hT := hL.take s s hs (Nat.le_refl _) (by have := hL.hle; omega)
  have hF := hL.from e he
  obtain ⟨g, gc, w1, hr, hO, hb1⟩ := objs_grow (t := 60) (tx := 22) Tryz.underlying60 Tryz.underlying22 hT hP (by omega) (by omega)
  have HR := Lib.hid hr
  have hF1 := hF.more hb1
  have hl1 : (zs.take s ++ [p]).length = s + 1 := by rw [List.length_append, hT.hlen]; rfl
  have hO1 : w1.ownsRow w.heap.size 55 5 (.slice (some ⟨g, 0, none⟩) (s + 1) gc) (s + 1) (ocl (zs.take s ++ [p])) := by
    unfold OwnO at hO
    rw [hl1] at hO
    exact hO
  have H2 := Lib.hid (And.intro hO1 (And.intro hF1.news (And.intro hF1.nones (And.intro (show (ocl (zs.drop e)).length = (len - e) * 5 by rw [ocl_length, hF.hlen]) (And.intro hb1.size hb1)))))
  have HX := Lib.hid (And.intro hL (And.intro hP (And.intro hbd (And.intro hbp (And.intro hl1 hF.hlen)))))
  have HE := Lib.hid (withL_obs zs [p] s e)
  obtain ⟨a2, ha2⟩ : ∃ a2, fromO ao e cap = a2 := ⟨_, rfl⟩
  obtain ⟨m, hm⟩ : ∃ m, len - e = m := ⟨_, rfl⟩
  obtain ⟨c2, hc2⟩ : ∃ c2, cap - e = c2 := ⟨_, rfl⟩
  rw [ha2, hm, hc2] at u2 H2
  rw [hm] at HX ⊢
  have hmb : m ≤ 100000 := by omega
  clear hr hF1 hO hO1 hl1 hb1 hT hF hL hP hbd hbp ha2 hm hc2
  go_enter Tryz.func107, Tryz.ntmps107
  go_wp2_with (first
    | (at_builtin; refine Lib.wpList_append_run _ rfl _ _ 60 22 rfl _ _ rfl rfl _ _ (HR.out _) ?_)
    | (at_builtin; refine wpList_append_some _ rfl _ _ 60 rfl w.heap.size 55 i0 (.agg #[.string { data := #[] }, .int .i64 0, .string { data := #[] }, .int .i64 0, .slice none 0 0]) 5 72 Tryz.underlying60 hi hz0 hz1 hz2 rfl (by decide) (.slice (some ⟨g, 0, none⟩) (s + 1) gc) (s + 1) (ocl (zs.take s ++ [p])) rfl H2.out.1 a2 m c2 (ocl (zs.drop e)) rfl H2.out.2.2.2.1 H2.out.2.2.1 H2.out.2.1 (ocl_cells _) (by unfold maxLen; omega) (by omega) H2.out.2.2.2.2.1 ?_; intro v2 w2 hq; obtain ⟨va, vc, rfl⟩ := row_slice hq.1; have HQ := Lib.hid hq; clear hq))
  obtain ⟨hown2, hgrow2⟩ := HQ.out
  have b2 : Below w.heap.size w w2 := H2.out.2.2.2.2.2.grown hgrow2 H2.out.2.2.2.2.1 (fun k e => (World.ownsRow.lt H2.out.1 k e).1)
  have hl2 : (zs.take s ++ [p] ++ zs.drop e).length = s + 1 + m := by rw [List.length_append, HX.out.2.2.2.2.1, HX.out.2.2.2.2.2]
  have hO2 : OwnO w.heap.size w2 (.slice va (s + 1 + m) vc) (zs.take s ++ [p] ++ zs.drop e) := by
    unfold OwnO
    rw [hl2, ocl_append]
    exact hown2
  have hO3 := hO2.objs hl2 (fun x hx => by
    rcases List.mem_append.1 hx with hx | hx
    · rcases List.mem_append.1 hx with hx | hx
      · exact (HX.out.1.hrows x (List.mem_of_mem_take hx)).more b2
      · exact (HX.out.2.1.hrows x hx).more b2
    · exact (HX.out.1.hrows x (List.mem_of_mem_drop hx)).more b2)
  have hbd2 : ∀ x ∈ zs.take s ++ [p] ++ zs.drop e, Bd x.o := fun x hx => by
    rcases List.mem_append.1 hx with hx | hx
    · rcases List.mem_append.1 hx with hx | hx
      · exact HX.out.2.2.1 x (List.mem_of_mem_take hx)
      · obtain rfl : x = p := by simpa using hx
        exact HX.out.2.2.2.1
    · exact HX.out.2.2.1 x (List.mem_of_mem_drop hx)
  have HC := Lib.hid (own_any va (s + 1 + m) vc _ (by omega) hbd2 w2 hO3)
  rw [HE.out] at HC
  have HB := Lib.hid b2
  clear hown2 hgrow2 b2 hl2 hO2 hO3 hbd2
  refine HC.out.mono ?_
  intro e1 w3 h3
  obtain ⟨vs, ra, rc, rfl, hvs, hOb, hb3⟩ := h3.of HB.out
  have HF := Lib.hid (And.intro hvs (And.intro hOb hb3))
  clear hvs hOb hb3 h3
  go_wp2
  go_ret
  exact ⟨vs, ra, rc, rfl, HF.out.1, HF.out.2.1, HF.out.2.2⟩

set_option maxRecDepth 100000 in
set_option maxHeartbeats 4000000 in
theorem withO_none (s e : Nat) (ao : Option Addr) (len cap : Nat) (zs : List Ov) (hreach : len ≤ 100000) (hs : s ≤ len) (he : e ≤ len) (hbd : ∀ x ∈ zs, Bd x.o) (w : World) (hL : Objs w ao len cap zs) :
    Calls Tryz.prog 107 #[.slice ao len cap, .int .i64 (s : Int), .int .i64 (e : Int), .slice none 0 0] w (SeqO (withL (obs zs) s e []) (s + (len - e)) w) := by
  have u1 := slice_uptoO ao len cap s (by have := hL.hle; omega)
  have u2 := slice_fromO ao len cap e he
  have hT := hL.take s s hs (Nat.le_refl _) (by have := hL.hle; omega)
  have hF := hL.from e he
  have HR := Lib.hid (objs_nothing (t := 60) (tx := 22) (W := w) (a1 := ao) (a2 := none) (n := s) (c1 := s) (c2 := 0) Tryz.underlying60 Tryz.underlying22 (Nat.le_refl _) (fun _ => rfl))
  have HE := Lib.hid (withL_obs zs [] s e)
  have hbd2 : ∀ x ∈ zs.take s ++ [] ++ zs.drop e, Bd x.o := fun x hx => by
    rw [List.append_nil] at hx
    rcases List.mem_append.1 hx with hx | hx
    · exact hbd x (List.mem_of_mem_take hx)
    · exact hbd x (List.mem_of_mem_drop hx)
  have H2 : ∃ va vc w2, (∀ ty, (Builtin.append_ #[60, 60] ty #[.slice ao s s, .slice (fromO ao e cap) (len - e) (cap - e)]).run Tryz.prog w = .ok (.slice va (s + (len - e)) vc) w2) ∧ Objs w2 va (s + (len - e)) vc (zs.take s ++ [] ++ zs.drop e) ∧ Below w.heap.size w w2 := by
    rw [List.append_nil]
    by_cases hm : len - e = 0
    · have hd : zs.drop e = [] := List.eq_nil_of_length_eq_zero (by rw [hF.hlen]; exact hm)
      rw [hd, List.append_nil, hm]
      exact ⟨ao, s, w, objs_nothing Tryz.underlying60 Tryz.underlying60 (Nat.le_refl _) hF.hnone, hT, Below.refl _ _⟩
    · obtain ⟨b, off, ea, _⟩ := hF.at (by omega)
      rw [ea] at hF ⊢
      obtain ⟨g, gc, w1, hr, hO, hb1⟩ := objs_grow (t := 60) (tx := 60) Tryz.underlying60 Tryz.underlying60 hT hF (by omega) (by omega)
      refine ⟨_, gc, w1, hr, hO.objs (by rw [List.length_append, hT.hlen, hF.hlen]) (fun x hx => ?_), hb1⟩
      rcases List.mem_append.1 hx with hx | hx
      · exact (hL.hrows x (List.mem_of_mem_take hx)).more hb1
      · exact (hL.hrows x (List.mem_of_mem_drop hx)).more hb1
  obtain ⟨va, vc, w2, hr2, hO2, hb2⟩ := H2
  have HC := Lib.hid (own_any va (s + (len - e)) vc _ (by omega) hbd2 w2 hO2)
  rw [HE.out] at HC
  have HR2 := Lib.hid hr2
  have HB := Lib.hid hb2
  obtain ⟨a2, ha2⟩ : ∃ a2, fromO ao e cap = a2 := ⟨_, rfl⟩
  obtain ⟨m, hm⟩ : ∃ m, len - e = m := ⟨_, rfl⟩
  obtain ⟨c2, hc2⟩ : ∃ c2, cap - e = c2 := ⟨_, rfl⟩
  rw [ha2, hm, hc2] at u2 HR2
  rw [hm] at HC ⊢
  clear hr2 hO2 hb2 hbd2 hT hF hL hbd ha2 hm hc2
  go_enter Tryz.func107, Tryz.ntmps107
  go_wp2_with (first
    | (at_builtin; refine Lib.wpList_append_run _ rfl _ _ 60 22 rfl _ _ rfl rfl _ _ (HR.out _) ?_)
    | (at_builtin; refine Lib.wpList_append_run _ rfl _ _ 60 60 rfl _ _ rfl rfl _ _ (HR2.out _) ?_)
    | (go_at_call 122; refine HC.out.mono ?_))
  intro e1 w3 h3
  obtain ⟨vs, ra, rc, rfl, hvs, hOb, hb3⟩ := h3.of HB.out
  have HF := Lib.hid (And.intro hvs (And.intro hOb hb3))
  clear hvs hOb hb3 h3
  go_wp2
  go_ret
  exact ⟨vs, ra, rc, rfl, HF.out.1, HF.out.2.1, HF.out.2.2⟩

end Go.Proofs.YtnbpfbmhheimbaaGreatDoor
