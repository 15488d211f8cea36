/- The contracts of label.Join. -/
import Derived.Test.YtafghaceahchhaaDoorLabToldJ
namespace Go.Proofs.YtafghaceahchhaaDoor
open Go.RowKit Go.Proofs.Cats Go.Shelf

/-- The answer's room: three cells that may be written. -/
def Room3 (b : Nat) (W : World) : Prop := ∃ v0 v1 v2, W.cell? ⟨b, 0, none⟩ = some v0 ∧ W.cell? ⟨b, 1, none⟩ = some v1 ∧ W.cell? ⟨b, 2, none⟩ = some v2 ∧
  W.frozen? ⟨b, 0, none⟩ = false ∧ W.frozen? ⟨b, 1, none⟩ = false ∧ W.frozen? ⟨b, 2, none⟩ = false
/-- What a call of two labels keeps: the answer's room, what lay before, error's type. -/
def Room (w W : World) : Prop := Room3 (w.heap.size + 1 + 1) W ∧ Below w.heap.size w W ∧ ErrT W ∧ 0 < w.heap.size
theorem Room3.below {b : Nat} {W W1 : World} : Room3 b W → Below W.heap.size W W1 → Room3 b W1
  | ⟨v0, v1, v2, h0, h1, h2, f0, f1, f2⟩, hb => ⟨v0, v1, v2, cell_later hb h0, cell_later hb h1, cell_later hb h2,
    (hb.frozen (World.block_lt_of_cell? W _ h0)).trans f0, (hb.frozen (World.block_lt_of_cell? W _ h1)).trans f1, (hb.frozen (World.block_lt_of_cell? W _ h2)).trans f2⟩
theorem Room.below {w W W1 : World} (h : Room w W) (hb : Below W.heap.size W W1) : Room w W1 := ⟨h.1.below hb, below_more h.2.1 hb, h.2.2.1.more hb, h.2.2.2⟩
theorem Room.err {w W : World} (h : Room w W) : ErrT W := h.2.2.1
theorem Room.mid {w W : World} (h : Room w W) : Below w.heap.size w W := h.2.1
theorem Room.drew {w W : World} (h : Room w W) : Room w W.drew := ⟨h.1, h.2.1.drew, h.2.2⟩
theorem set3 {W : World} {n b o : Nat} {v x y z : Value} (h : W.cell? ⟨b, o, none⟩ = some v) (hb : n ≠ b) : (((W.setCell ⟨n, 0, none⟩ x).setCell ⟨n, 1, none⟩ y).setCell ⟨n, 2, none⟩ z).cell? ⟨b, o, none⟩ = some v :=
  setO (setO (setO h (ne_blk hb)) (ne_blk hb)) (ne_blk hb)
theorem Room.set {w W : World} (h : Room w W) (x y z : Value) : Room w (((W.setCell ⟨w.heap.size + 1 + 1, 0, none⟩ x).setCell ⟨w.heap.size + 1 + 1, 1, none⟩ y).setCell ⟨w.heap.size + 1 + 1, 2, none⟩ z) := by
  obtain ⟨⟨v0, v1, v2, h0, h1, h2, f0, f1, f2⟩, hB, hE, hl⟩ := h
  refine ⟨⟨x, y, z, setO (setO (setS _ h0) (ne_off (by omega))) (ne_off (by omega)), setO (setS _ (setO h1 (ne_off (by omega)))) (ne_off (by omega)), setS _ (setO (setO h2 (ne_off (by omega))) (ne_off (by omega))), setF (setF (setF f0)), setF (setF (setF f1)), setF (setF (setF f2))⟩,
    ((hB.setCell (p := ⟨w.heap.size + 1 + 1, 0, none⟩) (by simp; omega) _).setCell (p := ⟨w.heap.size + 1 + 1, 1, none⟩) (by simp; omega) _).setCell (p := ⟨w.heap.size + 1 + 1, 2, none⟩) (by simp; omega) _, set3 hE (by omega), hl⟩
theorem room_new (w : World) (o1 o2 : Obj) (hg : ErrT w) : Room w (((w.alloc o1).alloc o2).alloc (.cells #[.int .i64 0, .int .u64 0, .int .i64 0] 24)) := by
  have hB : Below w.heap.size w (((w.alloc o1).alloc o2).alloc (.cells #[.int .i64 0, .int .u64 0, .int .i64 0] 24)) := (((Below.refl _ w).alloc (Nat.le_refl _) _).alloc (by simp) _).alloc (by simp; omega) _
  exact ⟨⟨_, _, _, World.cell?_alloc_at _ _ _ _ (by simp), World.cell?_alloc_at _ _ _ _ (by simp), World.cell?_alloc_at _ _ _ _ (by simp), by go_simp, by go_simp, by go_simp⟩, hB, hg.more hB, hg.lt⟩

/-- Two labels in one block. -/
def Pair6 (W : World) (b : Nat) (x y : Lab) : Prop := LabAt W b 0 x ∧ LabAt W b 3 y
theorem Pair6.later {W W1 : World} {b : Nat} {x y : Lab} (h : Pair6 W b x y) (hb : Below W.heap.size W W1) : Pair6 W1 b x y :=
  ⟨⟨cell_later hb h.1.1, cell_later hb h.1.2.1, cell_later hb h.1.2.2⟩, ⟨cell_later hb h.2.1, cell_later hb h.2.2.1, cell_later hb h.2.2.2⟩⟩
theorem Pair6.drew {W : World} {b : Nat} {x y : Lab} (h : Pair6 W b x y) : Pair6 W.drew b x y := h
theorem pair6_new (W : World) (x y : Lab) (b : Nat) (h : b = W.heap.size) : Pair6 (W.alloc (.cells #[.int .i64 x.l, .int .u64 x.c, .int .i64 x.i, .int .i64 y.l, .int .u64 y.c, .int .i64 y.i] 24)) b x y :=
  ⟨⟨World.cell?_alloc_at _ _ _ _ h, World.cell?_alloc_at _ _ _ _ h, World.cell?_alloc_at _ _ _ _ h⟩, ⟨World.cell?_alloc_at _ _ _ _ h, World.cell?_alloc_at _ _ _ _ h, World.cell?_alloc_at _ _ _ _ h⟩⟩
theorem two_new (w : World) (x y : Lab) (o : Obj) : LabAt (((w.alloc (.cells #[.int .i64 x.l, .int .u64 x.c, .int .i64 x.i] 24)).alloc (.cells #[.int .i64 y.l, .int .u64 y.c, .int .i64 y.i] 24)).alloc o) w.heap.size 0 x ∧ LabAt (((w.alloc (.cells #[.int .i64 x.l, .int .u64 x.c, .int .i64 x.i] 24)).alloc (.cells #[.int .i64 y.l, .int .u64 y.c, .int .i64 y.i] 24)).alloc o) (w.heap.size + 1) 0 y :=
  ⟨⟨by go_simp, by go_simp, by go_simp⟩, ⟨by go_simp, by go_simp, by go_simp⟩⟩
def twoE (a b : Lab) : Int := if a.right && b.right then 0 else 20
theorem twoE_eq (a b : Lab) : toldE [a, b] = twoE a b := by
  unfold toldE twoE
  simp
theorem labs_pair {W : World} {b : Nat} {x y : Lab} (h : Pair6 W b x y) (hx : x.fits) (hy : y.fits) : Labs W.heap.size W (.slice (some ⟨b, 0, none⟩) 2 2) [x, y] :=
  ⟨_, 2, rfl, fun _ => ⟨b, 0, rfl, World.block_lt_of_cell? W _ h.1.1, fun j z hj => by
    match j with
    | 0 => obtain rfl := Option.some.inj hj; exact ⟨hx, h.1⟩
    | 1 => obtain rfl := Option.some.inj hj; exact ⟨hy, h.2⟩
    | n + 2 => simp at hj⟩⟩
/-- What Join tells of two. -/
def twoJ (a b : Lab) : Lab := if a.right && b.right then a.join b else Lab.zero
theorem twoJ_eq (a b : Lab) (_ha : a.fits) (_hb : b.fits) : toldJ Lab.bot [a, b] = twoJ a b := by
  unfold toldJ twoJ
  cases h : a.right
  · simp [h]
  · cases k : b.right
    · simp [h, k]
    · simp only [List.all_cons, List.all_nil, h, k, Bool.and_true, if_true]
      show (Lab.bot.join a).join b = a.join b
      rw [Lab.bot_join a h]
theorem toldJ_start (a : Option Addr) (len cap : Nat) (zs : List Lab) (hreach : zs.length * 24 ≤ 140737488351232) (w : World) (hI : Labs w.heap.size w (.slice a len cap) zs) (hg : ErrT w) :
    Calls Tryd.prog 29 #[.agg #[.int .i64 0, .int .u64 0, .int .i64 7, .func (.func 36) #[] #[]], .slice a len cap] w fun e w' =>
      e = .returned (.tuple #[.agg #[.int .i64 (toldJ Lab.bot zs).l, .int .u64 (toldJ Lab.bot zs).c, .int .i64 (toldJ Lab.bot zs).i], .int .i64 (toldE zs)]) ∧ Below w.heap.size w w' := by
  have := toldJ_any Lab.bot Lab.fits_bot a len cap zs hreach w hI hg
  exact this

set_option maxRecDepth 100000 in
set_option maxHeartbeats 2000000 in
theorem Join_raw (a b : Lab) (ha : a.fits) (hb : b.fits) (w : World) (hg : ErrT w) :
    Calls Tryd.prog 12 #[.agg #[.int .i64 a.l, .int .u64 a.c, .int .i64 a.i], .agg #[.int .i64 b.l, .int .u64 b.c, .int .i64 b.i]] w fun e w' =>
      e = .returned (.tuple #[.agg #[.int .i64 (toldJ Lab.bot [a, b]).l, .int .u64 (toldJ Lab.bot [a, b]).c, .int .i64 (toldJ Lab.bot [a, b]).i], .int .i64 (toldE [a, b])]) ∧ Below w.heap.size w w' := by
  have hc := Lib.hid (two_new w a b (.cells #[.int .i64 0, .int .u64 0, .int .i64 0] 24))
  have ht := Lib.hid (room_new w (.cells #[.int .i64 a.l, .int .u64 a.c, .int .i64 a.i] 24) (.cells #[.int .i64 b.l, .int .u64 b.c, .int .i64 b.i] 24) hg)
  obtain ⟨T, hT⟩ : ∃ T, toldJ Lab.bot [a, b] = T := ⟨_, rfl⟩
  obtain ⟨E, hE⟩ : ∃ E, toldE [a, b] = E := ⟨_, rfl⟩
  rw [hT, hE]
  have HT := Lib.hid hT
  have HE := Lib.hid hE
  clear hg hT hE
  go_enter Tryd.func12, Tryd.ntmps12
  go_wp2_with fail
  generalize (((w.alloc (.cells #[.int .i64 a.l, .int .u64 a.c, .int .i64 a.i] 24)).alloc (.cells #[.int .i64 b.l, .int .u64 b.c, .int .i64 b.i] 24)).alloc (.cells #[.int .i64 0, .int .u64 0, .int .i64 0] 24)) = W0 at hc ht ⊢
  obtain ⟨⟨a0, a1, a2⟩, ⟨b0, b1, b2⟩⟩ := hc.out
  clear hc
  go_region_held3 (fun w' => w'.cell? ⟨w.heap.size, 0, none⟩ = some (.int .i64 a.l) ∧ w'.cell? ⟨w.heap.size, 1, none⟩ = some (.int .u64 a.c) ∧ w'.cell? ⟨w.heap.size, 2, none⟩ = some (.int .i64 a.i) ∧
      w'.cell? ⟨w.heap.size + 1, 0, none⟩ = some (.int .i64 b.l) ∧ w'.cell? ⟨w.heap.size + 1, 1, none⟩ = some (.int .u64 b.c) ∧ w'.cell? ⟨w.heap.size + 1, 2, none⟩ = some (.int .i64 b.i) ∧ Room w w')
    (first
      | (go_split_ands; with_reducible exact ⟨cell_later hbw (by assumption), cell_later hbw (by assumption), cell_later hbw (by assumption), cell_later hbw (by assumption), cell_later hbw (by assumption), cell_later hbw (by assumption), Room.below (by assumption) hbw⟩)
      | (go_split_ands; with_reducible exact ⟨cell_later (Below.new _ _) (by assumption), cell_later (Below.new _ _) (by assumption), cell_later (Below.new _ _) (by assumption), cell_later (Below.new _ _) (by assumption), cell_later (Below.new _ _) (by assumption), cell_later (Below.new _ _) (by assumption), Room.below (by assumption) (Below.new _ _)⟩)
      | (go_split_ands; with_reducible exact ⟨set3 (by assumption) (by omega), set3 (by assumption) (by omega), set3 (by assumption) (by omega), set3 (by assumption) (by omega), set3 (by assumption) (by omega), set3 (by assumption) (by omega), Room.set (by assumption) _ _ _⟩)
      | (exact ⟨a0, a1, a2, b0, b1, b2, ht.out.drew⟩))
    (first
      | (go_at_call 28; ((with_reducible refine (joins_any _).mono ?_); rintro e w' ⟨rfl, hbw⟩))
      | (go_at_call 29; go_split_ands; (with_reducible refine (toldJ_start (some ⟨_, 0, none⟩) 2 2 [a, b] ?_ _ ?_ ?_).mono ?_)
         · simp
         · first | exact labs_pair (pair6_new _ a b _ (by simp)) ha hb | exact labs_pair ((pair6_new _ a b _ (by simp)).drew.later hbw) ha hb
         · exact Room.err (by assumption)
         rw [HT.out, HE.out]
         rintro e w' ⟨rfl, hbw⟩
         obtain ⟨v0, v1, v2, r0, r1, r2, f0, f1, f2⟩ := (Room.below (by assumption) hbw).1))
  all_goals
    go_split_ands
    have hB := Lib.hid (Room.mid (by assumption))
    have c0 := setO (x := .int .i64 T.i) (b := ⟨w.heap.size + 1 + 1, 2, none⟩) (setO (x := .int .u64 T.c) (b := ⟨w.heap.size + 1 + 1, 1, none⟩) (setS (.int .i64 T.l) r0) (ne_off (by omega))) (ne_off (by omega))
    have c1 := setO (x := .int .i64 T.i) (b := ⟨w.heap.size + 1 + 1, 2, none⟩) (setS (.int .u64 T.c) (setO (x := .int .i64 T.l) (b := ⟨w.heap.size + 1 + 1, 0, none⟩) r1 (ne_off (by omega)))) (ne_off (by omega))
    have c2 := setS (.int .i64 T.i) (setO (x := .int .u64 T.c) (b := ⟨w.heap.size + 1 + 1, 1, none⟩) (setO (x := .int .i64 T.l) (b := ⟨w.heap.size + 1 + 1, 0, none⟩) r2 (ne_off (by omega))) (ne_off (by omega)))
    have HC := Lib.hid (And.intro c0 (And.intro c1 c2))
    clear c0 c1 c2 r0 r1 r2 f0 f1 f2 hbw a0 a1 a2 b0 b1 b2
    clear ht
    go_wp2
    obtain ⟨c0, c1, c2⟩ := HC.out
    refine bodyPost_ret (v := .tuple #[.agg #[.int .i64 T.l, .int .u64 T.c, .int .i64 T.i], .int .i64 E]) ?_ rfl ⟨rfl, hB.out⟩
    clear HC hB
    generalize ((w'.setCell ⟨w.heap.size + 1 + 1, 0, none⟩ (.int .i64 T.l)).setCell ⟨w.heap.size + 1 + 1, 1, none⟩ (.int .u64 T.c)).setCell ⟨w.heap.size + 1 + 1, 2, none⟩ (.int .i64 T.i) = WF at c0 c1 c2 ⊢
    simp [results, Tryd.results12, go_sem, c0, c1, c2]

theorem Join_any (a b : Lab) (ha : a.fits) (hb : b.fits) (w : World) (hg : ErrT w) :
    Calls Tryd.prog 12 #[.agg #[.int .i64 a.l, .int .u64 a.c, .int .i64 a.i], .agg #[.int .i64 b.l, .int .u64 b.c, .int .i64 b.i]] w fun e w' =>
      e = .returned (.tuple #[.agg #[.int .i64 (twoJ a b).l, .int .u64 (twoJ a b).c, .int .i64 (twoJ a b).i], .int .i64 (twoE a b)]) ∧ Below w.heap.size w w' := by
  rw [← twoJ_eq a b ha hb, ← twoE_eq a b]
  exact Join_raw a b ha hb w hg

end Go.Proofs.YtafghaceahchhaaDoor
