/- The contracts of label.Meet. -/
import Derived.Test.YtafghaceahchhaaDoorLabToldM
import Derived.Test.YtafghaceahchhaaDoorLabJoin
namespace Go.Proofs.YtafghaceahchhaaDoor
open Go.RowKit Go.Proofs.Cats Go.Shelf

/-- What Meet tells of two. -/
def twoM (a b : Lab) : Lab := if a.right && b.right then a.meet b else Lab.zero
theorem twoM_eq (a b : Lab) (ha : a.fits) (_hb : b.fits) : toldM Lab.top [a, b] = twoM a b := by
  unfold toldM twoM
  cases h : a.right
  · simp [h]
  · cases k : b.right
    · simp [h, k]
    · simp only [List.all_cons, List.all_nil, h, k, Bool.and_true, if_true]
      show (Lab.top.meet a).meet b = a.meet b
      rw [Lab.top_meet a ha h]
theorem toldM_start (a : Option Addr) (len cap : Nat) (zs : List Lab) (hreach : zs.length * 24 ≤ 140737488351232) (w : World) (hI : Labs w.heap.size w (.slice a len cap) zs) (hg : ErrT w) :
    Calls Tryd.prog 29 #[.agg #[.int .i64 15, .int .u64 18446744073709551615, .int .i64 0, .func (.func 41) #[] #[]], .slice a len cap] w fun e w' =>
      e = .returned (.tuple #[.agg #[.int .i64 (toldM Lab.top zs).l, .int .u64 (toldM Lab.top zs).c, .int .i64 (toldM Lab.top zs).i], .int .i64 (toldE zs)]) ∧ Below w.heap.size w w' := by
  have := toldM_any Lab.top Lab.fits_top a len cap zs hreach w hI hg
  rw [top_c] at this; exact this

set_option maxRecDepth 100000 in
set_option maxHeartbeats 2000000 in
theorem Meet_raw (a b : Lab) (ha : a.fits) (hb : b.fits) (w : World) (hg : ErrT w) :
    Calls Tryd.prog 14 #[.agg #[.int .i64 a.l, .int .u64 a.c, .int .i64 a.i], .agg #[.int .i64 b.l, .int .u64 b.c, .int .i64 b.i]] w fun e w' =>
      e = .returned (.tuple #[.agg #[.int .i64 (toldM Lab.top [a, b]).l, .int .u64 (toldM Lab.top [a, b]).c, .int .i64 (toldM Lab.top [a, b]).i], .int .i64 (toldE [a, b])]) ∧ Below w.heap.size w w' := by
  have hc := Lib.hid (two_new w a b (.cells #[.int .i64 0, .int .u64 0, .int .i64 0] 24))
  have ht := Lib.hid (room_new w (.cells #[.int .i64 a.l, .int .u64 a.c, .int .i64 a.i] 24) (.cells #[.int .i64 b.l, .int .u64 b.c, .int .i64 b.i] 24) hg)
  obtain ⟨T, hT⟩ : ∃ T, toldM Lab.top [a, b] = T := ⟨_, rfl⟩
  obtain ⟨E, hE⟩ : ∃ E, toldE [a, b] = E := ⟨_, rfl⟩
  rw [hT, hE]
  have HT := Lib.hid hT
  have HE := Lib.hid hE
  clear hg hT hE
  go_enter Tryd.func14, Tryd.ntmps14
  go_wp2_with fail
  generalize (((w.alloc (.cells #[.int .i64 a.l, .int .u64 a.c, .int .i64 a.i] 24)).alloc (.cells #[.int .i64 b.l, .int .u64 b.c, .int .i64 b.i] 24)).alloc (.cells #[.int .i64 0, .int .u64 0, .int .i64 0] 24)) = W0 at hc ht ⊢
  obtain ⟨⟨a0, a1, a2⟩, ⟨b0, b1, b2⟩⟩ := hc.out
  clear hc
  go_region_held3 (fun w' => w'.cell? ⟨w.heap.size, 0, none⟩ = some (.int .i64 a.l) ∧ w'.cell? ⟨w.heap.size, 1, none⟩ = some (.int .u64 a.c) ∧ w'.cell? ⟨w.heap.size, 2, none⟩ = some (.int .i64 a.i) ∧
      w'.cell? ⟨w.heap.size + 1, 0, none⟩ = some (.int .i64 b.l) ∧ w'.cell? ⟨w.heap.size + 1, 1, none⟩ = some (.int .u64 b.c) ∧ w'.cell? ⟨w.heap.size + 1, 2, none⟩ = some (.int .i64 b.i) ∧ Room w w')
    (first
      | (go_split_ands; with_reducible exact ⟨cell_later hbw (by assumption), cell_later hbw (by assumption), cell_later hbw (by assumption), cell_later hbw (by assumption), cell_later hbw (by assumption), cell_later hbw (by assumption), Room.below (by assumption) hbw⟩)
      | (go_split_ands; with_reducible exact ⟨cell_later (Below.new _ _) (by assumption), cell_later (Below.new _ _) (by assumption), cell_later (Below.new _ _) (by assumption), cell_later (Below.new _ _) (by assumption), cell_later (Below.new _ _) (by assumption), cell_later (Below.new _ _) (by assumption), Room.below (by assumption) (Below.new _ _)⟩)
      | (go_split_ands; with_reducible exact ⟨set3 (by assumption) (by omega), set3 (by assumption) (by omega), set3 (by assumption) (by omega), set3 (by assumption) (by omega), set3 (by assumption) (by omega), set3 (by assumption) (by omega), Room.set (by assumption) _ _ _⟩)
      | (exact ⟨a0, a1, a2, b0, b1, b2, ht.out.drew⟩))
    (first
      | (go_at_call 31; ((with_reducible refine (meets_any _).mono ?_); rintro e w' ⟨rfl, hbw⟩))
      | (go_at_call 29; go_split_ands; (with_reducible refine (toldM_start (some ⟨_, 0, none⟩) 2 2 [a, b] ?_ _ ?_ ?_).mono ?_)
         · simp
         · first | exact labs_pair (pair6_new _ a b _ (by simp)) ha hb | exact labs_pair ((pair6_new _ a b _ (by simp)).drew.later hbw) ha hb
         · exact Room.err (by assumption)
         rw [HT.out, HE.out]
         rintro e w' ⟨rfl, hbw⟩
         obtain ⟨v0, v1, v2, r0, r1, r2, f0, f1, f2⟩ := (Room.below (by assumption) hbw).1))
  all_goals
    go_split_ands
    have hB := Lib.hid (Room.mid (by assumption))
    have c0 := setO (x := .int .i64 T.i) (b := ⟨w.heap.size + 1 + 1, 2, none⟩) (setO (x := .int .u64 T.c) (b := ⟨w.heap.size + 1 + 1, 1, none⟩) (setS (.int .i64 T.l) r0) (ne_off (by omega))) (ne_off (by omega))
    have c1 := setO (x := .int .i64 T.i) (b := ⟨w.heap.size + 1 + 1, 2, none⟩) (setS (.int .u64 T.c) (setO (x := .int .i64 T.l) (b := ⟨w.heap.size + 1 + 1, 0, none⟩) r1 (ne_off (by omega)))) (ne_off (by omega))
    have c2 := setS (.int .i64 T.i) (setO (x := .int .u64 T.c) (b := ⟨w.heap.size + 1 + 1, 1, none⟩) (setO (x := .int .i64 T.l) (b := ⟨w.heap.size + 1 + 1, 0, none⟩) r2 (ne_off (by omega))) (ne_off (by omega)))
    have HC := Lib.hid (And.intro c0 (And.intro c1 c2))
    clear c0 c1 c2 r0 r1 r2 f0 f1 f2 hbw a0 a1 a2 b0 b1 b2
    clear ht
    go_wp2
    obtain ⟨c0, c1, c2⟩ := HC.out
    refine bodyPost_ret (v := .tuple #[.agg #[.int .i64 T.l, .int .u64 T.c, .int .i64 T.i], .int .i64 E]) ?_ rfl ⟨rfl, hB.out⟩
    clear HC hB
    generalize ((w'.setCell ⟨w.heap.size + 1 + 1, 0, none⟩ (.int .i64 T.l)).setCell ⟨w.heap.size + 1 + 1, 1, none⟩ (.int .u64 T.c)).setCell ⟨w.heap.size + 1 + 1, 2, none⟩ (.int .i64 T.i) = WF at c0 c1 c2 ⊢
    simp [results, Tryd.results14, go_sem, c0, c1, c2]

theorem Meet_any (a b : Lab) (ha : a.fits) (hb : b.fits) (w : World) (hg : ErrT w) :
    Calls Tryd.prog 14 #[.agg #[.int .i64 a.l, .int .u64 a.c, .int .i64 a.i], .agg #[.int .i64 b.l, .int .u64 b.c, .int .i64 b.i]] w fun e w' =>
      e = .returned (.tuple #[.agg #[.int .i64 (twoM a b).l, .int .u64 (twoM a b).c, .int .i64 (twoM a b).i], .int .i64 (twoE a b)]) ∧ Below w.heap.size w w' := by
  rw [← twoM_eq a b ha hb, ← twoE_eq a b]
  exact Meet_raw a b ha hb w hg

end Go.Proofs.YtafghaceahchhaaDoor
