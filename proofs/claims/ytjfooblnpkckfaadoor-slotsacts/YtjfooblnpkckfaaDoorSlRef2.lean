/- The document's New. -/
import Derived.Test.YtjfooblnpkckfaaDoorSlRef
namespace Go.Proofs.YtjfooblnpkckfaaDoor
open Go.RowKit Go.Proofs.Slt Go.Shelf

/-- Marks: the first k are free. -/
def fk (n k : Nat) : List Value := List.replicate k (.bool true) ++ List.replicate (n - k) (.bool false)
theorem fk_length {n k : Nat} (h : k ≤ n) : (fk n k).length = n := by simp [fk]; omega
theorem fk_set {n k : Nat} (h : k < n) : (fk n k).set k (.bool true) = fk n (k + 1) := by
  obtain ⟨m, hm⟩ : ∃ m, n - k = m + 1 := ⟨n - k - 1, by omega⟩
  have hm2 : n - (k + 1) = m := by omega
  unfold fk
  rw [hm, hm2, List.set_append_right _ _ (by simp)]
  rw [List.length_replicate, Nat.sub_self, List.replicate_succ, List.set_cons_zero, List.replicate_succ', List.append_assoc]
  rfl
theorem fk_get {n k : Nat} (h : k < n) : (fk n k)[k]? = some (.bool false) := by
  unfold fk
  rw [List.getElem?_append_right (by simp), List.length_replicate, Nat.sub_self, List.getElem?_replicate, if_pos (by omega)]
theorem fk_end (n : Nat) : fk n n = fc (fresh n) := by simp [fk, fc, fresh]
theorem gc_fresh (n : Nat) : List.replicate n (Value.int .i64 0) = gc (fresh n) := by simp [gc, fresh]

/-- The document's New between two rounds. -/
structure RNewI (w : World) (n k R G F : Nat) (wr : World) : Prop where
  obj : wr.heap[R]? = some (.cells #[.slice (some ⟨G, 0, none⟩) n n, .slice (some ⟨F, 0, none⟩) n n] 63 (0, 0))
  rg : wr.ownsRow w.heap.size 3 1 (.slice (some ⟨G, 0, none⟩) n n) n (List.replicate n (.int .i64 0))
  rf : wr.ownsRow w.heap.size 4 1 (.slice (some ⟨F, 0, none⟩) n n) n (fk n k)
  base : w.heap.size ≤ R
  below : Below w.heap.size w wr
theorem RNewI.c1 {w : World} {n k R G F : Nat} {wr : World} (h : RNewI w n k R G F wr) : wr.cell? ⟨R, 1, none⟩ = some (.slice (some ⟨F, 0, none⟩) n n) := by simp [World.cell?, h.obj]
theorem RNewI.next {w : World} {n k R G F : Nat} {wr : World} (h : RNewI w n k R G F wr) (hk : k < n) : RNewI w n (k + 1) R G F (wr.setCell ⟨F, k, none⟩ (.bool true)) := by
  obtain ⟨_, _, c1, h1⟩ := ownsRow_at h.rg
  obtain ⟨b2, _, c2, h2⟩ := ownsRow_at h.rf
  have hRF : R ≠ F := fun e => by
    have := h.obj
    rw [e, h2] at this
    cases this
  have hGF : G ≠ F := fun e => by
    rw [e, h2] at h1
    cases h1
  refine ⟨(Below.heap_setCell _ _ _ _ hRF).trans h.obj, ownsRow_block h.rg (Below.heap_setCell _ _ _ _ hGF), ?_, h.base, h.below.setCell (p := ⟨F, k, none⟩) b2 _⟩
  rw [← fk_set hk]
  exact (World.ownsRow.stored h.rf k (.bool true)).1
theorem rnew_start {w W : World} {n R G F : Nat} {zg zf : Array Value} (hg : zg.toList = List.replicate n (.int .i64 0)) (hf : zf.toList = List.replicate n (.bool false)) (zg1 : zg.size = n) (zf1 : zf.size = n) (hn : n ≤ 64) (b : Below w.heap.size w W) (bG : w.heap.size ≤ G) (bF : w.heap.size ≤ F) (bR : w.heap.size ≤ R)
    (k0 : W.heap[R]? = some (.cells #[.slice (some ⟨G, 0, none⟩) n n, .slice (some ⟨F, 0, none⟩) n n] 63 (0, 0))) (k1 : W.heap[G]? = some (.cells zg 3 (0, 0))) (k2 : W.heap[F]? = some (.cells zf 4 (0, 0))) : RNewI w n 0 R G F W := by
  have hm : n ≤ maxLen := by unfold maxLen; omega
  refine ⟨k0, ⟨by simp, .inr ⟨G, n, zg, rfl, bG, k1, Nat.le_refl _, hm, by omega, ?_⟩⟩, ⟨by simp [fk], .inr ⟨F, n, zf, rfl, bF, k2, Nat.le_refl _, hm, by omega, ?_⟩⟩, bR, b⟩
  · rw [hg]; simp
  · rw [hf]; simp [fk]
theorem three_blocks (w : World) (a b c : Obj) : (((w.alloc a).alloc b).alloc c).drew.heap[w.heap.size]? = some a ∧ (((w.alloc a).alloc b).alloc c).drew.heap[w.heap.size + 1]? = some b ∧ (((w.alloc a).alloc b).alloc c).drew.heap[w.heap.size + 1 + 1]? = some c ∧ Below w.heap.size w (((w.alloc a).alloc b).alloc c).drew := by
  have e1 : ((w.alloc a).alloc b).heap[w.heap.size + 1]? = some b := by have := World.alloc_heap_new (w.alloc a) b; rwa [World.size_alloc] at this
  have e2 : (((w.alloc a).alloc b).alloc c).heap[w.heap.size + 1 + 1]? = some c := by have := World.alloc_heap_new ((w.alloc a).alloc b) c; rwa [World.size_alloc, World.size_alloc] at this
  exact ⟨(Below.heap_alloc _ _ _ (by simp; omega)).trans ((Below.heap_alloc _ _ _ (by simp)).trans (World.alloc_heap_new w a)), (Below.heap_alloc _ _ _ (by simp)).trans e1, e2, (((Below.new w a).alloc (by simp) b).alloc (by simp; omega) c).drew⟩
theorem rnew_done {w : World} {n R G F : Nat} {wr : World} (h : RNewI w n n R G F wr) (hn : n ≤ 64) : Rf w.heap.size wr ⟨R, G, F⟩ (fresh n) ∧ Below w.heap.size w wr := by
  refine ⟨⟨?_, ?_, ?_, h.base, by rw [fresh_length]; exact hn⟩, h.below⟩
  · rw [fresh_length]; exact h.obj
  · rw [fresh_length, ← gc_fresh]; exact h.rg
  · rw [fresh_length, ← fk_end]; exact h.rf

set_option maxRecDepth 100000 in
set_option maxHeartbeats 4000000 in
theorem RNew_ok (n : Nat) (w : World) (h1 : 1 ≤ n) (h2 : n ≤ 64) : Calls Tryd.prog 11 #[.int .i64 n] w (RNewPost n w) := by
  obtain ⟨ig, hig, hg0, hg1, hg2⟩ := info_parts infoInt
  obtain ⟨jf, hjf, hf0, hf1, hf2⟩ := info_parts infoBool
  have mkG : ∀ v : World, (Instr.makeSlice 44 (.int .i64 (n : Int)) (.int .i64 (n : Int))).run Tryd.prog v = .ok (.slice (some ⟨v.heap.size, 0, none⟩) n n) (v.alloc (.cells (madeCells #[.int .i64 0] n) 3)) := fun v => by
    have := run_make (P := Tryd.prog) v 44 3 ig (.int .i64 0) Tryd.underlying44 hig hg0 .i64 .i64 (n : Int) (n : Int) (by omega) (Int.le_refl _) (by rw [hg2]; omega) (by omega)
    rw [hg1, Nat.mul_one, Int.toNat_natCast] at this
    exact this
  have mkF : ∀ v : World, (Instr.makeSlice 61 (.int .i64 (n : Int)) (.int .i64 (n : Int))).run Tryd.prog v = .ok (.slice (some ⟨v.heap.size, 0, none⟩) n n) (v.alloc (.cells (madeCells #[.bool false] n) 4)) := fun v => by
    have := run_make (P := Tryd.prog) v 61 4 jf (.bool false) Tryd.underlying61 hjf hf0 .i64 .i64 (n : Int) (n : Int) (by omega) (Int.le_refl _) (by rw [hf2]; omega) (by omega)
    rw [hf1, Nat.mul_one, Int.toNat_natCast] at this
    exact this
  have HG := Lib.hid (toList_madeCells_one (.int .i64 0) n)
  have HF := Lib.hid (toList_madeCells_one (.bool false) n)
  have HZ := Lib.hid (And.intro (size_madeCells #[.int .i64 0] n) (size_madeCells #[.bool false] n))
  obtain ⟨zg, hzg⟩ : ∃ zg, madeCells #[.int .i64 0] n = zg := ⟨_, rfl⟩
  obtain ⟨zf, hzf⟩ : ∃ zf, madeCells #[.bool false] n = zf := ⟨_, rfl⟩
  rw [hzg] at mkG HG HZ
  rw [hzf] at mkF HF HZ
  clear hzg hzf
  go_enter Tryd.func11, Tryd.ntmps11
  go_wp2
  go_region
  · obtain ⟨t0, t1, t2, tb⟩ := three_blocks w (.cells zg 3) (.cells zf 4) (.cells #[.slice (some ⟨w.heap.size, 0, none⟩) n n, .slice (some ⟨w.heap.size + 1, 0, none⟩) n n] 63)
    have HI := Lib.hid (rnew_start (R := w.heap.size + 1 + 1) (G := w.heap.size) (F := w.heap.size + 1) HG.out HF.out HZ.out.1 HZ.out.2 h2 tb (by omega) (by omega) (by omega) t2 t0 t1)
    obtain ⟨W0, hW0⟩ : ∃ W0, (((w.alloc (.cells zg 3)).alloc (.cells zf 4)).alloc (.cells #[.slice (some ⟨w.heap.size, 0, none⟩) n n, .slice (some ⟨w.heap.size + 1, 0, none⟩) n n] 63)).drew = W0 := ⟨_, rfl⟩
    rw [hW0] at HI ⊢
    clear t0 t1 t2 tb hW0 mkG mkF
    go_wp2
    go_loopw [5] (fun v wr => ∃ k : Nat, k ≤ n ∧ v = .int .i64 k ∧ Hid (RNewI w n k (w.heap.size + 1 + 1) (w.heap.size) (w.heap.size + 1) wr)) (fun v _ => n - (intOf v).toNat)
    case atStart => exact ⟨0, by omega, rfl, HI.out⟩
    case round =>
      obtain ⟨k, hk, rfl, HX⟩ := hrel
      by_cases hlt : k < n
      · have c1 := HX.out.c1
        have cF : wr.cell? ⟨w.heap.size + 1, k, none⟩ = some (.bool false) := (World.ownsRow.cellAt HX.out.rf k (by omega)).trans (fk_get hlt)
        have zF := World.ownsRow.frozenAt HX.out.rf k
        have HN := Lib.hid (HX.out.next hlt)
        go_wp2
        go_roundw
        case rel => exact ⟨k + 1, by omega, by simp, HN.out⟩
        case measure => simp [intOf]; omega
      · obtain rfl : k = n := by omega
        go_wp2
        go_ret2
        exact ⟨⟨w.heap.size + 1 + 1, w.heap.size, w.heap.size + 1⟩, rfl, rnew_done HX.out h2⟩
  · obtain ⟨t0, t1, t2, tb⟩ := three_blocks w (.cells zf 4) (.cells zg 3) (.cells #[.slice (some ⟨w.heap.size + 1, 0, none⟩) n n, .slice (some ⟨w.heap.size, 0, none⟩) n n] 63)
    have HI := Lib.hid (rnew_start (R := w.heap.size + 1 + 1) (G := w.heap.size + 1) (F := w.heap.size) HG.out HF.out HZ.out.1 HZ.out.2 h2 tb (by omega) (by omega) (by omega) t2 t1 t0)
    obtain ⟨W0, hW0⟩ : ∃ W0, (((w.alloc (.cells zf 4)).alloc (.cells zg 3)).alloc (.cells #[.slice (some ⟨w.heap.size + 1, 0, none⟩) n n, .slice (some ⟨w.heap.size, 0, none⟩) n n] 63)).drew = W0 := ⟨_, rfl⟩
    rw [hW0] at HI ⊢
    clear t0 t1 t2 tb hW0 mkG mkF
    go_wp2
    go_loopw [5] (fun v wr => ∃ k : Nat, k ≤ n ∧ v = .int .i64 k ∧ Hid (RNewI w n k (w.heap.size + 1 + 1) (w.heap.size + 1) (w.heap.size) wr)) (fun v _ => n - (intOf v).toNat)
    case atStart => exact ⟨0, by omega, rfl, HI.out⟩
    case round =>
      obtain ⟨k, hk, rfl, HX⟩ := hrel
      by_cases hlt : k < n
      · have c1 := HX.out.c1
        have cF : wr.cell? ⟨w.heap.size, k, none⟩ = some (.bool false) := (World.ownsRow.cellAt HX.out.rf k (by omega)).trans (fk_get hlt)
        have zF := World.ownsRow.frozenAt HX.out.rf k
        have HN := Lib.hid (HX.out.next hlt)
        go_wp2
        go_roundw
        case rel => exact ⟨k + 1, by omega, by simp, HN.out⟩
        case measure => simp [intOf]; omega
      · obtain rfl : k = n := by omega
        go_wp2
        go_ret2
        exact ⟨⟨w.heap.size + 1 + 1, w.heap.size + 1, w.heap.size⟩, rfl, rnew_done HX.out h2⟩

end Go.Proofs.YtjfooblnpkckfaaDoor
