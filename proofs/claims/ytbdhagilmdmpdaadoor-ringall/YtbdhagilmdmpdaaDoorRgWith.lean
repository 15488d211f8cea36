/- with, rest: rings in new memory. -/
import Derived.Test.YtbdhagilmdmpdaaDoorRgOpen
import Derived.Laws.CopyOwn
import Derived.Deep.OwnRows
namespace Go.Proofs.YtbdhagilmdmpdaaDoor
open Go.RowKit Go.Proofs.Fld Go.Proofs.Rng Go.Shelf Go.Sort

/-- What with tells: the ring, its row the call's own. -/
def WithP (m : Int) (l : List It) (k : Nat) (w : World) (e : Ending) (w' : World) : Prop :=
  ∃ va vc, e = .returned (.agg #[.int .i64 m, .slice va k vc]) ∧ OwnT w.heap.size w' (.slice va k vc) l ∧ Below w.heap.size w w'
theorem elemS : Tryd.prog.elem 22 = 9 := by kernel_rfl
theorem sizeS (w : World) : (sizeOf 9).run Tryd.prog w = .ok 1 w := by
  obtain ⟨i0, hi, hz0, hz1, hz2⟩ := info_parts infoS
  simp [sizeOf, typeInfo, hi, hz1]
theorem sizeInfoS : (Tryd.prog.info? 9).map (·.size) = some 1 := by kernel_rfl
theorem add_zero' (x : Addr) : x.add 0 = x := by simp [Addr.add]
/-- The address of what is behind e. -/
def fromA (ao : Option Addr) (e cap : Nat) : Option Addr := if cap = e then ao else ao.map (·.add e)
theorem slice_l (ao : Option Addr) (len cap e : Nat) (he : e ≤ len) (_hl : len ≤ cap) (W : World) : (Instr.slice 22 (.slice ao len cap) (some (.int .i64 (e : Int))) none none).run Tryd.prog W = .ok (.slice (fromA ao e cap) (len - e) (cap - e)) W := by
  rw [run_slice_l W _ ao len cap (by kernel_rfl) .i64 (e : Int) (by omega) (by omega), elemS, sizeS]
  simp only [Result.andThen, sliced, Int.toNat_natCast, fromA, Nat.mul_one]
theorem slice_lhm (ao : Option Addr) (len cap e : Nat) (he : e ≤ len) (hl : len ≤ cap) (W : World) : (Instr.slice 22 (.slice ao len cap) (some (.int .i64 (e : Int))) (some (.int .i64 (len : Int))) (some (.int .i64 (len : Int)))).run Tryd.prog W = .ok (.slice (fromA ao e len) (len - e) (len - e)) W := by
  rw [run_slice_lhm W _ ao len cap (by kernel_rfl) .i64 .i64 .i64 (e : Int) (len : Int) (len : Int) (by omega) (by omega) (by omega) (by omega), elemS, sizeS]
  simp only [Result.andThen, sliced, Int.toNat_natCast, fromA, Nat.mul_one]
theorem slice_hm (ao : Option Addr) (len cap k : Nat) (hk : k ≤ cap) (W : World) : (Instr.slice 22 (.slice ao len cap) none (some (.int .i64 (k : Int))) (some (.int .i64 (k : Int)))).run Tryd.prog W = .ok (.slice ao k k) W := by
  rw [run_slice_hm W _ ao len cap (by kernel_rfl) .i64 .i64 (k : Int) (k : Int) (by omega) (by omega) (by omega), elemS, sizeS]
  simp only [Result.andThen, sliced, Int.toNat_natCast, Nat.sub_zero, Nat.zero_mul]
  split
  · rfl
  · cases ao with
    | none => rfl
    | some x => simp [add_zero']
theorem Txs.from {W : World} {ao : Option Addr} {len cap : Nat} {zs : List It} (h : Txs W ao len cap zs) (e : Nat) (he : e ≤ len) : Txs W (fromA ao e len) (len - e) (len - e) (zs.drop e) := by
  have hm := h.hmax
  have hle := h.hle
  refine ⟨by rw [List.length_drop, h.hlen], Nat.le_refl _, by omega, fun q => ?_, fun x hx => h.hfits x (List.mem_of_mem_drop hx), fun hz => ?_⟩
  · unfold fromA at q
    by_cases e1 : len = e
    · omega
    · rw [if_neg e1] at q
      cases ao with
      | none => have := h.hnone rfl; omega
      | some x => simp at q
  · have hlt : e < len := by
      rcases Nat.lt_or_ge e len with q | q
      · exact q
      · exact absurd (List.drop_eq_nil_of_le (by rw [h.hlen]; exact q)) hz
    obtain ⟨b, off, rfl, hc⟩ := h.hcells (fun q => hz (by rw [q]; simp))
    refine ⟨b, off + e, ?_, fun j x hj => ?_⟩
    · unfold fromA
      rw [if_neg (by omega)]
      simp [add_at]
    · rw [List.getElem?_drop] at hj
      have := hc _ x hj
      rw [show off + e + j = off + (e + j) by omega]
      exact this
/-- The cells that a copy takes. -/
theorem Txs.src {W : World} {ao : Option Addr} {len cap : Nat} {zs : List It} (h : Txs W ao len cap zs) (hp : 0 < (tcl zs).length) : ∃ ad, ao = some ad ∧ ∀ j v, (tcl zs)[j]? = some v → W.cell? (ad.add j) = some v := by
  rw [tcl_length, h.hlen] at hp
  obtain ⟨b, off, e, _, _⟩ := h.at hp
  exact ⟨_, e, h.news _ e⟩
theorem splice_two {α : Type} (Z X Y : List α) (k : Nat) (hk : X.length = k) (hZ : Z.length = k + Y.length) : splice (splice Z 0 X) k Y = X ++ Y := by
  have e1 : splice Z 0 X = X ++ Z.drop X.length := by simp [splice]
  rw [e1]
  unfold splice
  subst hk
  have e2 : (X ++ Z.drop X.length).take X.length = X := by simp
  have e3 : (X ++ Z.drop X.length).drop (X.length + Y.length) = [] := by
    apply List.drop_eq_nil_of_le
    simp
    omega
  rw [e2, e3, List.append_nil]

set_option maxRecDepth 100000 in
set_option maxHeartbeats 4000000 in
theorem with_any (m : Int) (ao bo : Option Addr) (len cap k kc : Nat) (zs ys : List It) (u : Value) (_hu : u.oneCell' = true) (hr1 : len ≤ 1000000) (hr2 : k ≤ 1000000) (w : World) (hL : Txs w ao len cap zs) (hM : Txs w bo k kc ys) :
    Calls Tryd.prog 35 #[.agg #[.int .i64 m, .slice ao len cap, u], .slice bo k kc] w (WithP m (zs ++ ys) (len + k) w) := by
  have hB1 := Below.new w (.cells #[.int .i64 m, .slice ao len cap, u] 45)
  have hB2 := below_more hB1 (Below.new _ (.cells #[.int .i64 0, .slice none 0 0] 24))
  have r1 := (R3.new w (.int .i64 m) (.slice ao len cap) u 45).more (Below.new _ (.cells #[.int .i64 0, .slice none 0 0] 24))
  have r2 := R2.new (w.alloc (.cells #[.int .i64 m, .slice ao len cap, u] 45)) (.int .i64 0) (.slice none 0 0) 24
  rw [World.size_alloc] at r2
  have hz0 : ((w.alloc (.cells #[.int .i64 m, .slice ao len cap, u] 45)).alloc (.cells #[.int .i64 0, .slice none 0 0] 24)).heap.size = w.heap.size + 2 := by simp
  obtain ⟨W0, hW0⟩ : ∃ W0, (w.alloc (.cells #[.int .i64 m, .slice ao len cap, u] 45)).alloc (.cells #[.int .i64 0, .slice none 0 0] 24) = W0 := ⟨_, rfl⟩
  rw [hW0] at hB2 r1 r2 hz0
  obtain ⟨N, hN⟩ : ∃ N, len + k = N := ⟨_, rfl⟩
  have hwr : IntKind.i64.wrap ((len : Int) + (k : Int)) = (N : Int) := by rw [IntKind.wrap_i64]; omega
  have mk := run_make_row' (P := Tryd.prog) 22 9 (.string { data := #[] }) 16 Tryd.underlying22 infoS rfl .i64 .i64 N (by omega) (by omega)
  have HZ := size_madeCells #[.string { data := #[] }] N
  obtain ⟨Z, hZ⟩ : ∃ Z : List Value, madeCells #[.string { data := #[] }] N = Z.toArray := ⟨(madeCells #[.string { data := #[] }] N).toList, by simp⟩
  rw [hZ] at mk HZ
  rw [List.size_toArray] at HZ
  have sl := slice_l (some ⟨w.heap.size + 2, 0, none⟩) N N len (by omega) (Nat.le_refl _)
  rw [show N - len = k by omega] at sl
  have HA := Lib.hid (show 0 < k → fromA (some ⟨w.heap.size + 2, 0, none⟩) len N = some ⟨w.heap.size + 2, len, none⟩ from fun hk => by unfold fromA; rw [if_neg (by omega)]; simp [add_at])
  obtain ⟨A2, hA2⟩ : ∃ A2, fromA (some ⟨w.heap.size + 2, 0, none⟩) len N = A2 := ⟨_, rfl⟩
  rw [hA2] at sl HA
  obtain ⟨X1, hX1⟩ : ∃ X1, tcl zs = X1 := ⟨_, rfl⟩
  obtain ⟨X2, hX2⟩ : ∃ X2, tcl ys = X2 := ⟨_, rfl⟩
  have l1 : X1.length = len := by rw [← hX1, tcl_length, hL.hlen]
  have l2 : X2.length = k := by rw [← hX2, tcl_length, hM.hlen]
  have hBn := Below.new W0 (.cells Z.toArray 9)
  have hgn : (W0.alloc (.cells Z.toArray 9)).heap[w.heap.size + 2]? = some (.cells Z.toArray 9 (0, 0)) := by
    have := World.alloc_heap_new W0 (.cells Z.toArray 9)
    rw [hz0] at this
    exact this
  obtain ⟨W1, hW1⟩ : ∃ W1, W0.alloc (.cells Z.toArray 9) = W1 := ⟨_, rfl⟩
  rw [hW1] at hBn hgn
  have q1 := r1.more hBn
  have HX := Lib.hid (And.intro (hL.more hB2) (And.intro (hM.more hB2) (And.intro r1 (And.intro r2 (And.intro hB2 (And.intro hz0 (And.intro hX1 (And.intro hX2 (And.intro l1 (And.intro l2 (And.intro hN (And.intro hBn (And.intro hgn hW1)))))))))))))
  have hs1 := (hL.more hB2).more hBn
  have HQ := Lib.hid (And.intro (show X1.length = Nat.min len N by rw [l1]; exact (Nat.min_eq_left (by omega)).symm) (And.intro (show 0 < X1.length → (some ⟨w.heap.size + 2, 0, none⟩ : Option Addr) = some ⟨w.heap.size + 2, 0, none⟩ ∧ ∃ ad, ao = some ad ∧ ∀ j v, X1[j]? = some v → W1.cell? (ad.add j) = some v from fun hp => ⟨rfl, hX1 ▸ hs1.src (by rw [hX1]; exact hp)⟩) (And.intro (show 0 + X1.length ≤ Z.length by omega) (And.intro (show ∀ v ∈ X1, v.oneCell' = true from hX1 ▸ tcl_one zs) (And.intro (show X2.length = Nat.min k k by rw [l2]; exact (Nat.min_self k).symm) (And.intro (show len + X2.length ≤ (splice Z 0 X1).length by rw [length_splice _ _ _ (by omega)]; omega) (And.intro hX2 (And.intro l2 (show ∀ v ∈ X2, v.oneCell' = true from hX2 ▸ tcl_one ys)))))))))
  have HZ := Lib.hid HZ
  obtain ⟨c0, c1, c2, _, _, _⟩ := id r1
  obtain ⟨e0, e1, e2, _, _, _⟩ := q1
  clear hs1 hB1 hB2 r1 r2 hZ hA2 hX1 hX2 l1 l2 hL hM hBn hgn
  go_enter Tryd.func35, Tryd.ntmps35
  go_wp2_with (with_reducible refine wpList_copy_splice rfl (.tmp 15) (.tmp 18) 22 22 rfl 9 Tryd.underlying22 sizeInfoS (some ⟨w.heap.size + 2, 0, none⟩) ao N N len cap rfl rfl (w.heap.size + 2) 0 Z 9 HX.out.2.2.2.2.2.2.2.2.2.2.2.2.1 X1 (HQ.out.1) HQ.out.2.1 HQ.out.2.2.1 HQ.out.2.2.2.1 W0.heap.size W0 HX.out.2.2.2.2.2.2.2.2.2.2.2.1 (Nat.le_of_eq HX.out.2.2.2.2.2.1) ?_)
  intro w2 HG2 hb2
  replace hb2 : Below W0.heap.size W0 w2 := by rw [hz0]; exact hb2
  obtain ⟨e0, e1, e2, _, _, _⟩ := HX.out.2.2.1.more hb2
  have HB2 := Lib.hid hb2
  have HM2 := Lib.hid (HX.out.2.1.more hb2)
  clear hb2
  have HP2 := Lib.hid (show 0 < X2.length → A2 = some ⟨w.heap.size + 2, len, none⟩ ∧ ∃ ad, bo = some ad ∧ ∀ j v, X2[j]? = some v → w2.cell? (ad.add j) = some v from fun hp => ⟨HA.out (by rw [← HQ.out.2.2.2.2.2.2.2.1]; exact hp), by
    have := HM2.out.src (by rw [HQ.out.2.2.2.2.2.2.1]; exact hp)
    rw [HQ.out.2.2.2.2.2.2.1] at this
    exact this⟩)
  have hxl := HX.out.2.2.2.2.2.2.2.2.1
  rw [hxl]
  clear hxl
  go_wp2_with (with_reducible refine wpList_copy_splice rfl (.tmp 22) (.tmp 23) 22 22 rfl 9 Tryd.underlying22 sizeInfoS A2 bo k k k kc rfl rfl (w.heap.size + 2) len (splice Z 0 X1) 9 HG2.out X2 HQ.out.2.2.2.2.1 HP2.out HQ.out.2.2.2.2.2.1 HQ.out.2.2.2.2.2.2.2.2 W0.heap.size W0 HB2.out (Nat.le_of_eq HX.out.2.2.2.2.2.1) ?_)
  intro w3 HG3 hb3
  replace hb3 : Below W0.heap.size W0 w3 := by rw [hz0]; exact hb3
  obtain ⟨e0, e1, e2, _, _, _⟩ := HX.out.2.2.1.more hb3
  obtain ⟨y0, y1, _, _⟩ := (HX.out.2.2.2.1.more hb3).set (.int .i64 m) (.slice (some ⟨w.heap.size + 2, 0, none⟩) N N)
  obtain ⟨d0, d1, f0, f1⟩ := HX.out.2.2.2.1.more hb3
  have HB3 := Lib.hid (set2B (below_more HX.out.2.2.2.2.1 hb3) (b := w.heap.size + 1) (by omega) (.int .i64 m) (.slice (some ⟨w.heap.size + 2, 0, none⟩) N N))
  have hO : OwnT w.heap.size ((w3.setCell ⟨w.heap.size + 1, 0, none⟩ (.int .i64 m)).setCell ⟨w.heap.size + 1, 1, none⟩ (.slice (some ⟨w.heap.size + 2, 0, none⟩) N N)) (.slice (some ⟨w.heap.size + 2, 0, none⟩) N N) (zs ++ ys) := by
    have hnl : (zs ++ ys).length = N := by rw [List.length_append, HX.out.1.hlen, HX.out.2.1.hlen]; exact hN
    refine ⟨by rw [tcl_length]; omega, .inr ⟨w.heap.size + 2, N, (splice (splice Z 0 X1) len X2).toArray, by rw [hnl], by omega, ?_, by omega, by unfold maxLen; omega, ?_, ?_⟩⟩
    · exact (Below.heap_setCell _ _ _ _ (by simp)).trans ((Below.heap_setCell _ _ _ _ (by simp)).trans HG3.out)
    · rw [List.size_toArray, length_splice _ _ _ HQ.out.2.2.2.2.2.1, length_splice _ _ _ HQ.out.2.2.1, HZ.out, Nat.mul_one]
    · rw [splice_two _ _ _ _ HX.out.2.2.2.2.2.2.2.2.1 (by rw [HZ.out, HX.out.2.2.2.2.2.2.2.2.2.1]; exact hN.symm), ← HX.out.2.2.2.2.2.2.1, ← HX.out.2.2.2.2.2.2.2.1, ← tcl_append]
      exact List.take_of_length_le (by rw [tcl_length]; simp)
  have HO := Lib.hid hO
  clear hb3 hO
  go_wp2
  generalize hWF : ((w3.setCell ⟨w.heap.size + 1, 0, none⟩ (.int .i64 m)).setCell ⟨w.heap.size + 1, 1, none⟩ (.slice (some ⟨w.heap.size + 2, 0, none⟩) N N)) = WF at y0 y1 HB3 HO ⊢
  refine bodyPost_ret (v := .agg #[.int .i64 m, .slice (some ⟨w.heap.size + 2, 0, none⟩) N N]) (by simp [results, Tryd.results35, go_sem, y0, y1]) rfl ?_
  rw [hN]
  exact ⟨_, _, rfl, HO.out, HB3.out⟩

theorem OwnT.set1 {n0 b i : Nat} {W : World} {v x : Value} {l : List It} (h : OwnT n0 W v l) (hb : b < n0) : OwnT n0 (W.setCell ⟨b, i, none⟩ x) v l := by
  refine ⟨h.1, ?_⟩
  rcases h.2 with ⟨e, h0⟩ | ⟨g, cap, cur, e, hg0, hg, rest⟩
  · exact .inl ⟨e, h0⟩
  · exact .inr ⟨g, cap, cur, e, hg0, (Below.heap_setCell _ _ _ _ (fun q => by have q' : g = b := q; omega)).trans hg, rest⟩
theorem with_none (m : Int) (ao : Option Addr) (len cap : Nat) (zs : List It) (hr1 : len ≤ 1000000) (w : World) (hL : Txs w ao len cap zs) :
    Calls Tryd.prog 35 #[.agg #[.int .i64 m, .slice ao len cap, .int .i64 0], .slice none 0 0] w (WithP m zs len w) := by
  have := with_any m ao none len cap 0 0 zs [] (.int .i64 0) rfl hr1 (by omega) w hL (Txs.nil w)
  rw [List.append_nil, Nat.add_zero] at this
  exact this

set_option maxRecDepth 100000 in
set_option maxHeartbeats 4000000 in
theorem rest_any (m : Int) (ao : Option Addr) (len cap : Nat) (zs : List It) (u : Value) (_hu : u.oneCell' = true) (hr1 : len ≤ 1000000) (h1 : 1 ≤ len) (w : World) (hL : Txs w ao len cap zs) :
    Calls Tryd.prog 37 #[.agg #[.int .i64 m, .slice ao len cap, u]] w (WithP m (zs.drop 1) (len - 1) w) := by
  have hB1 := Below.new w (.cells #[.int .i64 m, .slice ao len cap, u] 45)
  have hB2 := below_more hB1 (Below.new _ (.cells #[.int .i64 0, .slice none 0 0] 24))
  have r1 := (R3.new w (.int .i64 m) (.slice ao len cap) u 45).more (Below.new _ (.cells #[.int .i64 0, .slice none 0 0] 24))
  have r2 := R2.new (w.alloc (.cells #[.int .i64 m, .slice ao len cap, u] 45)) (.int .i64 0) (.slice none 0 0) 24
  rw [World.size_alloc] at r2
  obtain ⟨W0, hW0⟩ : ∃ W0, (w.alloc (.cells #[.int .i64 m, .slice ao len cap, u] 45)).alloc (.cells #[.int .i64 0, .slice none 0 0] 24) = W0 := ⟨_, rfl⟩
  rw [hW0] at hB2 r1 r2
  obtain ⟨k, hk⟩ : ∃ k, len - 1 = k := ⟨_, rfl⟩
  have sl := slice_lhm ao len cap 1 h1 hL.hle
  have hf := hL.from 1 h1
  rw [hk] at sl hf
  rw [show ((1 : Nat) : Int) = 1 from rfl] at sl
  obtain ⟨A2, hA2⟩ : ∃ A2, fromA ao 1 len = A2 := ⟨_, rfl⟩
  rw [hA2] at sl hf
  have hD : Below W0.heap.size W0 W0.drew := (Below.refl _ W0).drew
  have HF := Lib.hid (And.intro ((hf.more hB2).more hD) (And.intro (below_more hB2 hD) (r2.more hD)))
  have c0 := r1.c0
  have c1 := r1.c1
  have x0 := cell_later hD c0
  have x1 := cell_later hD c1
  have HN := Lib.hid hk
  have hlt := r2.lt
  have hk6 : k ≤ 1000000 := by omega
  clear hB1 hB2 r1 r2 hA2 hf hL hD
  rw [hk]
  clear hk
  go_enter Tryd.func37, Tryd.ntmps37
  go_wp2
  go_region_held3 (fun w' => w'.cell? ⟨w.heap.size, 0, none⟩ = some (.int .i64 m) ∧ w'.cell? ⟨w.heap.size, 1, none⟩ = some (.slice ao len cap))
    (first | (simp only [World.cell?_drew, c0, c1, and_self]; done) | (with_reducible exact ⟨cell_later hb x0, cell_later hb x1⟩) | (with_reducible exact ⟨set2O (cell_later hb x0) (by omega), set2O (cell_later hb x1) (by omega)⟩))
    (first | (go_at_call 35; ((with_reducible refine (with_none m A2 k k (zs.drop 1) hk6 _ HF.out.1).mono ?_); rintro e w1 ⟨va, vc, rfl, hO, hb⟩; obtain ⟨d0, d1, f0, f1⟩ := HF.out.2.2.more hb)))
  obtain ⟨y0, y1, _, _⟩ := R2.set ⟨d0, d1, f0, f1⟩ (.int .i64 m) (.slice va k vc)
  have hz : W0.drew.heap.size = W0.heap.size := rfl
  have HB3 := Lib.hid (set2B (below_more HF.out.2.1 hb) (b := w.heap.size + 1) (by omega) (.int .i64 m) (.slice va k vc))
  have HO := Lib.hid (((hO.set1 (b := w.heap.size + 1) (i := 0) (x := .int .i64 m) (by omega)).set1 (b := w.heap.size + 1) (i := 1) (x := .slice va k vc) (by omega)).mono (n1 := w.heap.size) (by omega))
  clear hO hb
  go_wp2
  generalize hWF : ((w1.setCell ⟨w.heap.size + 1, 0, none⟩ (.int .i64 m)).setCell ⟨w.heap.size + 1, 1, none⟩ (.slice va k vc)) = WF at y0 y1 HB3 HO ⊢
  refine bodyPost_ret (v := .agg #[.int .i64 m, .slice va k vc]) (by simp [results, Tryd.results37, go_sem, y0, y1]) rfl ?_
  exact ⟨_, _, rfl, HO.out, HB3.out⟩

end Go.Proofs.YtbdhagilmdmpdaaDoor
