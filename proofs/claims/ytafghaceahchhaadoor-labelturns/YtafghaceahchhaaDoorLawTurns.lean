/- The law LabelTurns, walked. -/
import Derived.Test.YtafghaceahchhaaDoorLabShown
import Derived.Test.YtafghaceahchhaaDoorLabFacts
namespace Go.Proofs.YtafghaceahchhaaDoor
open Go.RowKit Go.Proofs.Cats Go.Shelf

set_option maxRecDepth 100000 in
set_option maxHeartbeats 2000000 in
theorem labelTurns_no (a b c : Lab) (hfa : a.fits) (hfb : b.fits) (hfc : c.fits) (hr : (a.right && b.right) = false) (w : World) (hg : ErrT w) :
    Calls Tryd.prog 8 #[.agg #[.int .i64 a.l, .int .u64 a.c, .int .i64 a.i], .agg #[.int .i64 b.l, .int .u64 b.c, .int .i64 b.i], .agg #[.int .i64 c.l, .int .u64 c.c, .int .i64 c.i]] w fun e w' => e = .returned (.bool true) ∧ Below w.heap.size w w' := by
  have _hu := And.intro hfa (And.intro hfb (hfc))
  clear _hu
  have hfx : (twoJ a b).fits := fits_twoJ hfa hfb
  have hfz : (twoJ b c).fits := fits_twoJ hfb hfc
  have hfu : (twoM a b).fits := fits_twoM hfa hfb
  have hr2 : (b.right && a.right) = false := by rw [Bool.and_comm]; exact hr
  have E1 := Lib.hid (twoE_no hr)
  have E2 := Lib.hid (twoE_no hr2)
  clear hr hr2
  obtain ⟨hB, hg1, a0, a1, a2, b0, b1, b2, c0, c1, c2⟩ := three_at w a b c hg
  clear hg
  go_enter Tryd.func8, Tryd.ntmps8
  go_wp2_with fail
  refine (shown_any _ hg1).mono ?_
  rintro e w1 ⟨he, hb⟩
  subst he
  replace a0 := cell_later hb a0
  replace a1 := cell_later hb a1
  replace a2 := cell_later hb a2
  replace b0 := cell_later hb b0
  replace b1 := cell_later hb b1
  replace b2 := cell_later hb b2
  replace c0 := cell_later hb c0
  replace c1 := cell_later hb c1
  replace c2 := cell_later hb c2
  replace hB := below_more hB hb
  replace hg1 := hg1.more hb
  clear hb
  go_wp2_with fail
  refine (Join_any a b hfa hfb _ hg1).mono ?_
  rintro e w2 ⟨he, hb⟩
  rw [E1.out] at he
  subst he
  replace a0 := cell_later hb a0
  replace a1 := cell_later hb a1
  replace a2 := cell_later hb a2
  replace b0 := cell_later hb b0
  replace b1 := cell_later hb b1
  replace b2 := cell_later hb b2
  replace c0 := cell_later hb c0
  replace c1 := cell_later hb c1
  replace c2 := cell_later hb c2
  replace hB := below_more hB hb
  replace hg1 := hg1.more hb
  clear hb
  have hn := Below.new w2 (.cells #[.int .i64 (twoJ a b).l, .int .u64 (twoJ a b).c, .int .i64 (twoJ a b).i] 24)
  replace a0 := cell_later hn a0
  replace a1 := cell_later hn a1
  replace a2 := cell_later hn a2
  replace b0 := cell_later hn b0
  replace b1 := cell_later hn b1
  replace b2 := cell_later hn b2
  replace c0 := cell_later hn c0
  replace c1 := cell_later hn c1
  replace c2 := cell_later hn c2
  replace hB := below_more hB hn
  replace hg1 := hg1.more hn
  have x0 : (w2.alloc (.cells #[.int .i64 (twoJ a b).l, .int .u64 (twoJ a b).c, .int .i64 (twoJ a b).i] 24)).cell? ⟨w2.heap.size, 0, none⟩ = some (.int .i64 (twoJ a b).l) := by simp
  have x1 : (w2.alloc (.cells #[.int .i64 (twoJ a b).l, .int .u64 (twoJ a b).c, .int .i64 (twoJ a b).i] 24)).cell? ⟨w2.heap.size, 1, none⟩ = some (.int .u64 (twoJ a b).c) := by simp
  have x2 : (w2.alloc (.cells #[.int .i64 (twoJ a b).l, .int .u64 (twoJ a b).c, .int .i64 (twoJ a b).i] 24)).cell? ⟨w2.heap.size, 2, none⟩ = some (.int .i64 (twoJ a b).i) := by simp
  clear hn
  go_wp2_with fail
  refine (Join_any b a hfb hfa _ hg1).mono ?_
  rintro e w3 ⟨he, hb⟩
  rw [E2.out] at he
  subst he
  replace a0 := cell_later hb a0
  replace a1 := cell_later hb a1
  replace a2 := cell_later hb a2
  replace b0 := cell_later hb b0
  replace b1 := cell_later hb b1
  replace b2 := cell_later hb b2
  replace c0 := cell_later hb c0
  replace c1 := cell_later hb c1
  replace c2 := cell_later hb c2
  replace x0 := cell_later hb x0
  replace x1 := cell_later hb x1
  replace x2 := cell_later hb x2
  replace hB := below_more hB hb
  replace hg1 := hg1.more hb
  clear hb
  have hn := Below.new w3 (.cells #[.int .i64 (twoJ b a).l, .int .u64 (twoJ b a).c, .int .i64 (twoJ b a).i] 24)
  replace a0 := cell_later hn a0
  replace a1 := cell_later hn a1
  replace a2 := cell_later hn a2
  replace b0 := cell_later hn b0
  replace b1 := cell_later hn b1
  replace b2 := cell_later hn b2
  replace c0 := cell_later hn c0
  replace c1 := cell_later hn c1
  replace c2 := cell_later hn c2
  replace x0 := cell_later hn x0
  replace x1 := cell_later hn x1
  replace x2 := cell_later hn x2
  replace hB := below_more hB hn
  replace hg1 := hg1.more hn
  have y0 : (w3.alloc (.cells #[.int .i64 (twoJ b a).l, .int .u64 (twoJ b a).c, .int .i64 (twoJ b a).i] 24)).cell? ⟨w3.heap.size, 0, none⟩ = some (.int .i64 (twoJ b a).l) := by simp
  have y1 : (w3.alloc (.cells #[.int .i64 (twoJ b a).l, .int .u64 (twoJ b a).c, .int .i64 (twoJ b a).i] 24)).cell? ⟨w3.heap.size, 1, none⟩ = some (.int .u64 (twoJ b a).c) := by simp
  have y2 : (w3.alloc (.cells #[.int .i64 (twoJ b a).l, .int .u64 (twoJ b a).c, .int .i64 (twoJ b a).i] 24)).cell? ⟨w3.heap.size, 2, none⟩ = some (.int .i64 (twoJ b a).i) := by simp
  clear hn
  go_wp2_with fail
  refine (Join_any (twoJ a b) c hfx hfc _ hg1).mono ?_
  rintro e w4 ⟨he, hb⟩
  subst he
  replace a0 := cell_later hb a0
  replace a1 := cell_later hb a1
  replace a2 := cell_later hb a2
  replace b0 := cell_later hb b0
  replace b1 := cell_later hb b1
  replace b2 := cell_later hb b2
  replace c0 := cell_later hb c0
  replace c1 := cell_later hb c1
  replace c2 := cell_later hb c2
  replace x0 := cell_later hb x0
  replace x1 := cell_later hb x1
  replace x2 := cell_later hb x2
  replace y0 := cell_later hb y0
  replace y1 := cell_later hb y1
  replace y2 := cell_later hb y2
  replace hB := below_more hB hb
  replace hg1 := hg1.more hb
  clear hb
  have hn := Below.new w4 (.cells #[.int .i64 (twoJ (twoJ a b) c).l, .int .u64 (twoJ (twoJ a b) c).c, .int .i64 (twoJ (twoJ a b) c).i] 24)
  replace a0 := cell_later hn a0
  replace a1 := cell_later hn a1
  replace a2 := cell_later hn a2
  replace b0 := cell_later hn b0
  replace b1 := cell_later hn b1
  replace b2 := cell_later hn b2
  replace c0 := cell_later hn c0
  replace c1 := cell_later hn c1
  replace c2 := cell_later hn c2
  replace x0 := cell_later hn x0
  replace x1 := cell_later hn x1
  replace x2 := cell_later hn x2
  replace y0 := cell_later hn y0
  replace y1 := cell_later hn y1
  replace y2 := cell_later hn y2
  replace hB := below_more hB hn
  replace hg1 := hg1.more hn
  have p0 : (w4.alloc (.cells #[.int .i64 (twoJ (twoJ a b) c).l, .int .u64 (twoJ (twoJ a b) c).c, .int .i64 (twoJ (twoJ a b) c).i] 24)).cell? ⟨w4.heap.size, 0, none⟩ = some (.int .i64 (twoJ (twoJ a b) c).l) := by simp
  have p1 : (w4.alloc (.cells #[.int .i64 (twoJ (twoJ a b) c).l, .int .u64 (twoJ (twoJ a b) c).c, .int .i64 (twoJ (twoJ a b) c).i] 24)).cell? ⟨w4.heap.size, 1, none⟩ = some (.int .u64 (twoJ (twoJ a b) c).c) := by simp
  have p2 : (w4.alloc (.cells #[.int .i64 (twoJ (twoJ a b) c).l, .int .u64 (twoJ (twoJ a b) c).c, .int .i64 (twoJ (twoJ a b) c).i] 24)).cell? ⟨w4.heap.size, 2, none⟩ = some (.int .i64 (twoJ (twoJ a b) c).i) := by simp
  clear hn
  go_wp2_with fail
  refine (Join_any b c hfb hfc _ hg1).mono ?_
  rintro e w5 ⟨he, hb⟩
  subst he
  replace a0 := cell_later hb a0
  replace a1 := cell_later hb a1
  replace a2 := cell_later hb a2
  replace b0 := cell_later hb b0
  replace b1 := cell_later hb b1
  replace b2 := cell_later hb b2
  replace c0 := cell_later hb c0
  replace c1 := cell_later hb c1
  replace c2 := cell_later hb c2
  replace x0 := cell_later hb x0
  replace x1 := cell_later hb x1
  replace x2 := cell_later hb x2
  replace y0 := cell_later hb y0
  replace y1 := cell_later hb y1
  replace y2 := cell_later hb y2
  replace p0 := cell_later hb p0
  replace p1 := cell_later hb p1
  replace p2 := cell_later hb p2
  replace hB := below_more hB hb
  replace hg1 := hg1.more hb
  clear hb
  have hn := Below.new w5 (.cells #[.int .i64 (twoJ b c).l, .int .u64 (twoJ b c).c, .int .i64 (twoJ b c).i] 24)
  replace a0 := cell_later hn a0
  replace a1 := cell_later hn a1
  replace a2 := cell_later hn a2
  replace b0 := cell_later hn b0
  replace b1 := cell_later hn b1
  replace b2 := cell_later hn b2
  replace c0 := cell_later hn c0
  replace c1 := cell_later hn c1
  replace c2 := cell_later hn c2
  replace x0 := cell_later hn x0
  replace x1 := cell_later hn x1
  replace x2 := cell_later hn x2
  replace y0 := cell_later hn y0
  replace y1 := cell_later hn y1
  replace y2 := cell_later hn y2
  replace p0 := cell_later hn p0
  replace p1 := cell_later hn p1
  replace p2 := cell_later hn p2
  replace hB := below_more hB hn
  replace hg1 := hg1.more hn
  have z0 : (w5.alloc (.cells #[.int .i64 (twoJ b c).l, .int .u64 (twoJ b c).c, .int .i64 (twoJ b c).i] 24)).cell? ⟨w5.heap.size, 0, none⟩ = some (.int .i64 (twoJ b c).l) := by simp
  have z1 : (w5.alloc (.cells #[.int .i64 (twoJ b c).l, .int .u64 (twoJ b c).c, .int .i64 (twoJ b c).i] 24)).cell? ⟨w5.heap.size, 1, none⟩ = some (.int .u64 (twoJ b c).c) := by simp
  have z2 : (w5.alloc (.cells #[.int .i64 (twoJ b c).l, .int .u64 (twoJ b c).c, .int .i64 (twoJ b c).i] 24)).cell? ⟨w5.heap.size, 2, none⟩ = some (.int .i64 (twoJ b c).i) := by simp
  clear hn
  go_wp2_with fail
  refine (Join_any a (twoJ b c) hfa hfz _ hg1).mono ?_
  rintro e w6 ⟨he, hb⟩
  subst he
  replace a0 := cell_later hb a0
  replace a1 := cell_later hb a1
  replace a2 := cell_later hb a2
  replace b0 := cell_later hb b0
  replace b1 := cell_later hb b1
  replace b2 := cell_later hb b2
  replace c0 := cell_later hb c0
  replace c1 := cell_later hb c1
  replace c2 := cell_later hb c2
  replace x0 := cell_later hb x0
  replace x1 := cell_later hb x1
  replace x2 := cell_later hb x2
  replace y0 := cell_later hb y0
  replace y1 := cell_later hb y1
  replace y2 := cell_later hb y2
  replace p0 := cell_later hb p0
  replace p1 := cell_later hb p1
  replace p2 := cell_later hb p2
  replace z0 := cell_later hb z0
  replace z1 := cell_later hb z1
  replace z2 := cell_later hb z2
  replace hB := below_more hB hb
  replace hg1 := hg1.more hb
  clear hb
  have hn := Below.new w6 (.cells #[.int .i64 (twoJ a (twoJ b c)).l, .int .u64 (twoJ a (twoJ b c)).c, .int .i64 (twoJ a (twoJ b c)).i] 24)
  replace a0 := cell_later hn a0
  replace a1 := cell_later hn a1
  replace a2 := cell_later hn a2
  replace b0 := cell_later hn b0
  replace b1 := cell_later hn b1
  replace b2 := cell_later hn b2
  replace c0 := cell_later hn c0
  replace c1 := cell_later hn c1
  replace c2 := cell_later hn c2
  replace x0 := cell_later hn x0
  replace x1 := cell_later hn x1
  replace x2 := cell_later hn x2
  replace y0 := cell_later hn y0
  replace y1 := cell_later hn y1
  replace y2 := cell_later hn y2
  replace p0 := cell_later hn p0
  replace p1 := cell_later hn p1
  replace p2 := cell_later hn p2
  replace z0 := cell_later hn z0
  replace z1 := cell_later hn z1
  replace z2 := cell_later hn z2
  replace hB := below_more hB hn
  replace hg1 := hg1.more hn
  have q0 : (w6.alloc (.cells #[.int .i64 (twoJ a (twoJ b c)).l, .int .u64 (twoJ a (twoJ b c)).c, .int .i64 (twoJ a (twoJ b c)).i] 24)).cell? ⟨w6.heap.size, 0, none⟩ = some (.int .i64 (twoJ a (twoJ b c)).l) := by simp
  have q1 : (w6.alloc (.cells #[.int .i64 (twoJ a (twoJ b c)).l, .int .u64 (twoJ a (twoJ b c)).c, .int .i64 (twoJ a (twoJ b c)).i] 24)).cell? ⟨w6.heap.size, 1, none⟩ = some (.int .u64 (twoJ a (twoJ b c)).c) := by simp
  have q2 : (w6.alloc (.cells #[.int .i64 (twoJ a (twoJ b c)).l, .int .u64 (twoJ a (twoJ b c)).c, .int .i64 (twoJ a (twoJ b c)).i] 24)).cell? ⟨w6.heap.size, 2, none⟩ = some (.int .i64 (twoJ a (twoJ b c)).i) := by simp
  clear hn
  go_wp2_with fail
  refine (Meet_any a b hfa hfb _ hg1).mono ?_
  rintro e w7 ⟨he, hb⟩
  rw [E1.out] at he
  subst he
  replace a0 := cell_later hb a0
  replace a1 := cell_later hb a1
  replace a2 := cell_later hb a2
  replace b0 := cell_later hb b0
  replace b1 := cell_later hb b1
  replace b2 := cell_later hb b2
  replace c0 := cell_later hb c0
  replace c1 := cell_later hb c1
  replace c2 := cell_later hb c2
  replace x0 := cell_later hb x0
  replace x1 := cell_later hb x1
  replace x2 := cell_later hb x2
  replace y0 := cell_later hb y0
  replace y1 := cell_later hb y1
  replace y2 := cell_later hb y2
  replace p0 := cell_later hb p0
  replace p1 := cell_later hb p1
  replace p2 := cell_later hb p2
  replace z0 := cell_later hb z0
  replace z1 := cell_later hb z1
  replace z2 := cell_later hb z2
  replace q0 := cell_later hb q0
  replace q1 := cell_later hb q1
  replace q2 := cell_later hb q2
  replace hB := below_more hB hb
  replace hg1 := hg1.more hb
  clear hb
  have hn := Below.new w7 (.cells #[.int .i64 (twoM a b).l, .int .u64 (twoM a b).c, .int .i64 (twoM a b).i] 24)
  replace a0 := cell_later hn a0
  replace a1 := cell_later hn a1
  replace a2 := cell_later hn a2
  replace b0 := cell_later hn b0
  replace b1 := cell_later hn b1
  replace b2 := cell_later hn b2
  replace c0 := cell_later hn c0
  replace c1 := cell_later hn c1
  replace c2 := cell_later hn c2
  replace x0 := cell_later hn x0
  replace x1 := cell_later hn x1
  replace x2 := cell_later hn x2
  replace y0 := cell_later hn y0
  replace y1 := cell_later hn y1
  replace y2 := cell_later hn y2
  replace p0 := cell_later hn p0
  replace p1 := cell_later hn p1
  replace p2 := cell_later hn p2
  replace z0 := cell_later hn z0
  replace z1 := cell_later hn z1
  replace z2 := cell_later hn z2
  replace q0 := cell_later hn q0
  replace q1 := cell_later hn q1
  replace q2 := cell_later hn q2
  replace hB := below_more hB hn
  replace hg1 := hg1.more hn
  have u0 : (w7.alloc (.cells #[.int .i64 (twoM a b).l, .int .u64 (twoM a b).c, .int .i64 (twoM a b).i] 24)).cell? ⟨w7.heap.size, 0, none⟩ = some (.int .i64 (twoM a b).l) := by simp
  have u1 : (w7.alloc (.cells #[.int .i64 (twoM a b).l, .int .u64 (twoM a b).c, .int .i64 (twoM a b).i] 24)).cell? ⟨w7.heap.size, 1, none⟩ = some (.int .u64 (twoM a b).c) := by simp
  have u2 : (w7.alloc (.cells #[.int .i64 (twoM a b).l, .int .u64 (twoM a b).c, .int .i64 (twoM a b).i] 24)).cell? ⟨w7.heap.size, 2, none⟩ = some (.int .i64 (twoM a b).i) := by simp
  clear hn
  go_wp2_with fail
  refine (Meet_any b a hfb hfa _ hg1).mono ?_
  rintro e w8 ⟨he, hb⟩
  rw [E2.out] at he
  subst he
  replace a0 := cell_later hb a0
  replace a1 := cell_later hb a1
  replace a2 := cell_later hb a2
  replace b0 := cell_later hb b0
  replace b1 := cell_later hb b1
  replace b2 := cell_later hb b2
  replace c0 := cell_later hb c0
  replace c1 := cell_later hb c1
  replace c2 := cell_later hb c2
  replace x0 := cell_later hb x0
  replace x1 := cell_later hb x1
  replace x2 := cell_later hb x2
  replace y0 := cell_later hb y0
  replace y1 := cell_later hb y1
  replace y2 := cell_later hb y2
  replace p0 := cell_later hb p0
  replace p1 := cell_later hb p1
  replace p2 := cell_later hb p2
  replace z0 := cell_later hb z0
  replace z1 := cell_later hb z1
  replace z2 := cell_later hb z2
  replace q0 := cell_later hb q0
  replace q1 := cell_later hb q1
  replace q2 := cell_later hb q2
  replace u0 := cell_later hb u0
  replace u1 := cell_later hb u1
  replace u2 := cell_later hb u2
  replace hB := below_more hB hb
  replace hg1 := hg1.more hb
  clear hb
  have hn := Below.new w8 (.cells #[.int .i64 (twoM b a).l, .int .u64 (twoM b a).c, .int .i64 (twoM b a).i] 24)
  replace a0 := cell_later hn a0
  replace a1 := cell_later hn a1
  replace a2 := cell_later hn a2
  replace b0 := cell_later hn b0
  replace b1 := cell_later hn b1
  replace b2 := cell_later hn b2
  replace c0 := cell_later hn c0
  replace c1 := cell_later hn c1
  replace c2 := cell_later hn c2
  replace x0 := cell_later hn x0
  replace x1 := cell_later hn x1
  replace x2 := cell_later hn x2
  replace y0 := cell_later hn y0
  replace y1 := cell_later hn y1
  replace y2 := cell_later hn y2
  replace p0 := cell_later hn p0
  replace p1 := cell_later hn p1
  replace p2 := cell_later hn p2
  replace z0 := cell_later hn z0
  replace z1 := cell_later hn z1
  replace z2 := cell_later hn z2
  replace q0 := cell_later hn q0
  replace q1 := cell_later hn q1
  replace q2 := cell_later hn q2
  replace u0 := cell_later hn u0
  replace u1 := cell_later hn u1
  replace u2 := cell_later hn u2
  replace hB := below_more hB hn
  replace hg1 := hg1.more hn
  have v0 : (w8.alloc (.cells #[.int .i64 (twoM b a).l, .int .u64 (twoM b a).c, .int .i64 (twoM b a).i] 24)).cell? ⟨w8.heap.size, 0, none⟩ = some (.int .i64 (twoM b a).l) := by simp
  have v1 : (w8.alloc (.cells #[.int .i64 (twoM b a).l, .int .u64 (twoM b a).c, .int .i64 (twoM b a).i] 24)).cell? ⟨w8.heap.size, 1, none⟩ = some (.int .u64 (twoM b a).c) := by simp
  have v2 : (w8.alloc (.cells #[.int .i64 (twoM b a).l, .int .u64 (twoM b a).c, .int .i64 (twoM b a).i] 24)).cell? ⟨w8.heap.size, 2, none⟩ = some (.int .i64 (twoM b a).i) := by simp
  clear hn
  go_wp2_with fail
  refine (Join_any a (twoM a b) hfa hfu _ hg1).mono ?_
  rintro e w9 ⟨he, hb⟩
  subst he
  replace a0 := cell_later hb a0
  replace a1 := cell_later hb a1
  replace a2 := cell_later hb a2
  replace b0 := cell_later hb b0
  replace b1 := cell_later hb b1
  replace b2 := cell_later hb b2
  replace c0 := cell_later hb c0
  replace c1 := cell_later hb c1
  replace c2 := cell_later hb c2
  replace x0 := cell_later hb x0
  replace x1 := cell_later hb x1
  replace x2 := cell_later hb x2
  replace y0 := cell_later hb y0
  replace y1 := cell_later hb y1
  replace y2 := cell_later hb y2
  replace p0 := cell_later hb p0
  replace p1 := cell_later hb p1
  replace p2 := cell_later hb p2
  replace z0 := cell_later hb z0
  replace z1 := cell_later hb z1
  replace z2 := cell_later hb z2
  replace q0 := cell_later hb q0
  replace q1 := cell_later hb q1
  replace q2 := cell_later hb q2
  replace u0 := cell_later hb u0
  replace u1 := cell_later hb u1
  replace u2 := cell_later hb u2
  replace v0 := cell_later hb v0
  replace v1 := cell_later hb v1
  replace v2 := cell_later hb v2
  replace hB := below_more hB hb
  replace hg1 := hg1.more hb
  clear hb
  have hn := Below.new w9 (.cells #[.int .i64 (twoJ a (twoM a b)).l, .int .u64 (twoJ a (twoM a b)).c, .int .i64 (twoJ a (twoM a b)).i] 24)
  replace a0 := cell_later hn a0
  replace a1 := cell_later hn a1
  replace a2 := cell_later hn a2
  replace b0 := cell_later hn b0
  replace b1 := cell_later hn b1
  replace b2 := cell_later hn b2
  replace c0 := cell_later hn c0
  replace c1 := cell_later hn c1
  replace c2 := cell_later hn c2
  replace x0 := cell_later hn x0
  replace x1 := cell_later hn x1
  replace x2 := cell_later hn x2
  replace y0 := cell_later hn y0
  replace y1 := cell_later hn y1
  replace y2 := cell_later hn y2
  replace p0 := cell_later hn p0
  replace p1 := cell_later hn p1
  replace p2 := cell_later hn p2
  replace z0 := cell_later hn z0
  replace z1 := cell_later hn z1
  replace z2 := cell_later hn z2
  replace q0 := cell_later hn q0
  replace q1 := cell_later hn q1
  replace q2 := cell_later hn q2
  replace u0 := cell_later hn u0
  replace u1 := cell_later hn u1
  replace u2 := cell_later hn u2
  replace v0 := cell_later hn v0
  replace v1 := cell_later hn v1
  replace v2 := cell_later hn v2
  replace hB := below_more hB hn
  replace hg1 := hg1.more hn
  have m0 : (w9.alloc (.cells #[.int .i64 (twoJ a (twoM a b)).l, .int .u64 (twoJ a (twoM a b)).c, .int .i64 (twoJ a (twoM a b)).i] 24)).cell? ⟨w9.heap.size, 0, none⟩ = some (.int .i64 (twoJ a (twoM a b)).l) := by simp
  have m1 : (w9.alloc (.cells #[.int .i64 (twoJ a (twoM a b)).l, .int .u64 (twoJ a (twoM a b)).c, .int .i64 (twoJ a (twoM a b)).i] 24)).cell? ⟨w9.heap.size, 1, none⟩ = some (.int .u64 (twoJ a (twoM a b)).c) := by simp
  have m2 : (w9.alloc (.cells #[.int .i64 (twoJ a (twoM a b)).l, .int .u64 (twoJ a (twoM a b)).c, .int .i64 (twoJ a (twoM a b)).i] 24)).cell? ⟨w9.heap.size, 2, none⟩ = some (.int .i64 (twoJ a (twoM a b)).i) := by simp
  clear hn
  go_wp2
  go_ret
  exact ⟨rfl, hB⟩

set_option maxRecDepth 100000 in
set_option maxHeartbeats 2000000 in
theorem labelTurns_yes_no (a b c : Lab) (hfa : a.fits) (hfb : b.fits) (hfc : c.fits) (hr : (a.right && b.right) = true) (hc : c.right = false) (w : World) (hg : ErrT w) :
    Calls Tryd.prog 8 #[.agg #[.int .i64 a.l, .int .u64 a.c, .int .i64 a.i], .agg #[.int .i64 b.l, .int .u64 b.c, .int .i64 b.i], .agg #[.int .i64 c.l, .int .u64 c.c, .int .i64 c.i]] w fun e w' => e = .returned (.bool true) ∧ Below w.heap.size w w' := by
  have _hu := And.intro hfa (And.intro hfb (hfc))
  clear _hu
  have hfx : (twoJ a b).fits := fits_twoJ hfa hfb
  have hfz : (twoJ b c).fits := fits_twoJ hfb hfc
  have hfu : (twoM a b).fits := fits_twoM hfa hfb
  have hr2 : (b.right && a.right) = true := by rw [Bool.and_comm]; exact hr
  obtain ⟨ra, rb⟩ := (right2_of a b).1 hr
  have E1 := Lib.hid (twoE_yes hr)
  have E2 := Lib.hid (twoE_yes hr2)
  have ru : (a.right && (twoM a b).right) = true := by rw [twoM_yes hr, ra, Lab.right_meet ra rb]; rfl
  have E3 := Lib.hid (twoE_yes ru)
  have s1 : (twoJ a b).same (twoJ b a) = true := by rw [twoJ_yes hr, twoJ_yes hr2, join_comm b a]; exact same_self _
  have s2 : (twoM a b).same (twoM b a) = true := by rw [twoM_yes hr, twoM_yes hr2, meet_comm b a]; exact same_self _
  have s3 : (twoJ a (twoM a b)).same a = true := by rw [twoJ_yes ru, twoM_yes hr, join_meet]; exact same_self _
  have rg : ((twoJ a b).right && c.right) = false := by rw [hc, Bool.and_false]
  have E4 := Lib.hid (twoE_no rg)
  have q1a := eqL (twoJ a b) (twoJ b a)
  have q1b := eqInL (twoJ a b) (twoJ b a)
  rw [s1] at q1a q1b
  have q2a := eqL (twoM a b) (twoM b a)
  have q2b := eqInL (twoM a b) (twoM b a)
  rw [s2] at q2a q2b
  have q3a := eqL (twoJ a (twoM a b)) a
  have q3b := eqInL (twoJ a (twoM a b)) a
  rw [s3] at q3a q3b
  clear hr hr2 ra rb ru s1 s2 s3 rg hc
  obtain ⟨hB, hg1, a0, a1, a2, b0, b1, b2, c0, c1, c2⟩ := three_at w a b c hg
  clear hg
  go_enter Tryd.func8, Tryd.ntmps8
  go_wp2_with fail
  refine (shown_any _ hg1).mono ?_
  rintro e w1 ⟨he, hb⟩
  subst he
  replace a0 := cell_later hb a0
  replace a1 := cell_later hb a1
  replace a2 := cell_later hb a2
  replace b0 := cell_later hb b0
  replace b1 := cell_later hb b1
  replace b2 := cell_later hb b2
  replace c0 := cell_later hb c0
  replace c1 := cell_later hb c1
  replace c2 := cell_later hb c2
  replace hB := below_more hB hb
  replace hg1 := hg1.more hb
  clear hb
  go_wp2_with fail
  refine (Join_any a b hfa hfb _ hg1).mono ?_
  rintro e w2 ⟨he, hb⟩
  rw [E1.out] at he
  subst he
  replace a0 := cell_later hb a0
  replace a1 := cell_later hb a1
  replace a2 := cell_later hb a2
  replace b0 := cell_later hb b0
  replace b1 := cell_later hb b1
  replace b2 := cell_later hb b2
  replace c0 := cell_later hb c0
  replace c1 := cell_later hb c1
  replace c2 := cell_later hb c2
  replace hB := below_more hB hb
  replace hg1 := hg1.more hb
  clear hb
  have hn := Below.new w2 (.cells #[.int .i64 (twoJ a b).l, .int .u64 (twoJ a b).c, .int .i64 (twoJ a b).i] 24)
  replace a0 := cell_later hn a0
  replace a1 := cell_later hn a1
  replace a2 := cell_later hn a2
  replace b0 := cell_later hn b0
  replace b1 := cell_later hn b1
  replace b2 := cell_later hn b2
  replace c0 := cell_later hn c0
  replace c1 := cell_later hn c1
  replace c2 := cell_later hn c2
  replace hB := below_more hB hn
  replace hg1 := hg1.more hn
  have x0 : (w2.alloc (.cells #[.int .i64 (twoJ a b).l, .int .u64 (twoJ a b).c, .int .i64 (twoJ a b).i] 24)).cell? ⟨w2.heap.size, 0, none⟩ = some (.int .i64 (twoJ a b).l) := by simp
  have x1 : (w2.alloc (.cells #[.int .i64 (twoJ a b).l, .int .u64 (twoJ a b).c, .int .i64 (twoJ a b).i] 24)).cell? ⟨w2.heap.size, 1, none⟩ = some (.int .u64 (twoJ a b).c) := by simp
  have x2 : (w2.alloc (.cells #[.int .i64 (twoJ a b).l, .int .u64 (twoJ a b).c, .int .i64 (twoJ a b).i] 24)).cell? ⟨w2.heap.size, 2, none⟩ = some (.int .i64 (twoJ a b).i) := by simp
  clear hn
  go_wp2_with fail
  refine (Join_any b a hfb hfa _ hg1).mono ?_
  rintro e w3 ⟨he, hb⟩
  rw [E2.out] at he
  subst he
  replace a0 := cell_later hb a0
  replace a1 := cell_later hb a1
  replace a2 := cell_later hb a2
  replace b0 := cell_later hb b0
  replace b1 := cell_later hb b1
  replace b2 := cell_later hb b2
  replace c0 := cell_later hb c0
  replace c1 := cell_later hb c1
  replace c2 := cell_later hb c2
  replace x0 := cell_later hb x0
  replace x1 := cell_later hb x1
  replace x2 := cell_later hb x2
  replace hB := below_more hB hb
  replace hg1 := hg1.more hb
  clear hb
  have hn := Below.new w3 (.cells #[.int .i64 (twoJ b a).l, .int .u64 (twoJ b a).c, .int .i64 (twoJ b a).i] 24)
  replace a0 := cell_later hn a0
  replace a1 := cell_later hn a1
  replace a2 := cell_later hn a2
  replace b0 := cell_later hn b0
  replace b1 := cell_later hn b1
  replace b2 := cell_later hn b2
  replace c0 := cell_later hn c0
  replace c1 := cell_later hn c1
  replace c2 := cell_later hn c2
  replace x0 := cell_later hn x0
  replace x1 := cell_later hn x1
  replace x2 := cell_later hn x2
  replace hB := below_more hB hn
  replace hg1 := hg1.more hn
  have y0 : (w3.alloc (.cells #[.int .i64 (twoJ b a).l, .int .u64 (twoJ b a).c, .int .i64 (twoJ b a).i] 24)).cell? ⟨w3.heap.size, 0, none⟩ = some (.int .i64 (twoJ b a).l) := by simp
  have y1 : (w3.alloc (.cells #[.int .i64 (twoJ b a).l, .int .u64 (twoJ b a).c, .int .i64 (twoJ b a).i] 24)).cell? ⟨w3.heap.size, 1, none⟩ = some (.int .u64 (twoJ b a).c) := by simp
  have y2 : (w3.alloc (.cells #[.int .i64 (twoJ b a).l, .int .u64 (twoJ b a).c, .int .i64 (twoJ b a).i] 24)).cell? ⟨w3.heap.size, 2, none⟩ = some (.int .i64 (twoJ b a).i) := by simp
  clear hn
  go_wp2_with fail
  refine (Join_any (twoJ a b) c hfx hfc _ hg1).mono ?_
  rintro e w4 ⟨he, hb⟩
  rw [E4.out] at he
  subst he
  replace a0 := cell_later hb a0
  replace a1 := cell_later hb a1
  replace a2 := cell_later hb a2
  replace b0 := cell_later hb b0
  replace b1 := cell_later hb b1
  replace b2 := cell_later hb b2
  replace c0 := cell_later hb c0
  replace c1 := cell_later hb c1
  replace c2 := cell_later hb c2
  replace x0 := cell_later hb x0
  replace x1 := cell_later hb x1
  replace x2 := cell_later hb x2
  replace y0 := cell_later hb y0
  replace y1 := cell_later hb y1
  replace y2 := cell_later hb y2
  replace hB := below_more hB hb
  replace hg1 := hg1.more hb
  clear hb
  have hn := Below.new w4 (.cells #[.int .i64 (twoJ (twoJ a b) c).l, .int .u64 (twoJ (twoJ a b) c).c, .int .i64 (twoJ (twoJ a b) c).i] 24)
  replace a0 := cell_later hn a0
  replace a1 := cell_later hn a1
  replace a2 := cell_later hn a2
  replace b0 := cell_later hn b0
  replace b1 := cell_later hn b1
  replace b2 := cell_later hn b2
  replace c0 := cell_later hn c0
  replace c1 := cell_later hn c1
  replace c2 := cell_later hn c2
  replace x0 := cell_later hn x0
  replace x1 := cell_later hn x1
  replace x2 := cell_later hn x2
  replace y0 := cell_later hn y0
  replace y1 := cell_later hn y1
  replace y2 := cell_later hn y2
  replace hB := below_more hB hn
  replace hg1 := hg1.more hn
  have p0 : (w4.alloc (.cells #[.int .i64 (twoJ (twoJ a b) c).l, .int .u64 (twoJ (twoJ a b) c).c, .int .i64 (twoJ (twoJ a b) c).i] 24)).cell? ⟨w4.heap.size, 0, none⟩ = some (.int .i64 (twoJ (twoJ a b) c).l) := by simp
  have p1 : (w4.alloc (.cells #[.int .i64 (twoJ (twoJ a b) c).l, .int .u64 (twoJ (twoJ a b) c).c, .int .i64 (twoJ (twoJ a b) c).i] 24)).cell? ⟨w4.heap.size, 1, none⟩ = some (.int .u64 (twoJ (twoJ a b) c).c) := by simp
  have p2 : (w4.alloc (.cells #[.int .i64 (twoJ (twoJ a b) c).l, .int .u64 (twoJ (twoJ a b) c).c, .int .i64 (twoJ (twoJ a b) c).i] 24)).cell? ⟨w4.heap.size, 2, none⟩ = some (.int .i64 (twoJ (twoJ a b) c).i) := by simp
  clear hn
  go_wp2_with fail
  refine (Join_any b c hfb hfc _ hg1).mono ?_
  rintro e w5 ⟨he, hb⟩
  subst he
  replace a0 := cell_later hb a0
  replace a1 := cell_later hb a1
  replace a2 := cell_later hb a2
  replace b0 := cell_later hb b0
  replace b1 := cell_later hb b1
  replace b2 := cell_later hb b2
  replace c0 := cell_later hb c0
  replace c1 := cell_later hb c1
  replace c2 := cell_later hb c2
  replace x0 := cell_later hb x0
  replace x1 := cell_later hb x1
  replace x2 := cell_later hb x2
  replace y0 := cell_later hb y0
  replace y1 := cell_later hb y1
  replace y2 := cell_later hb y2
  replace p0 := cell_later hb p0
  replace p1 := cell_later hb p1
  replace p2 := cell_later hb p2
  replace hB := below_more hB hb
  replace hg1 := hg1.more hb
  clear hb
  have hn := Below.new w5 (.cells #[.int .i64 (twoJ b c).l, .int .u64 (twoJ b c).c, .int .i64 (twoJ b c).i] 24)
  replace a0 := cell_later hn a0
  replace a1 := cell_later hn a1
  replace a2 := cell_later hn a2
  replace b0 := cell_later hn b0
  replace b1 := cell_later hn b1
  replace b2 := cell_later hn b2
  replace c0 := cell_later hn c0
  replace c1 := cell_later hn c1
  replace c2 := cell_later hn c2
  replace x0 := cell_later hn x0
  replace x1 := cell_later hn x1
  replace x2 := cell_later hn x2
  replace y0 := cell_later hn y0
  replace y1 := cell_later hn y1
  replace y2 := cell_later hn y2
  replace p0 := cell_later hn p0
  replace p1 := cell_later hn p1
  replace p2 := cell_later hn p2
  replace hB := below_more hB hn
  replace hg1 := hg1.more hn
  have z0 : (w5.alloc (.cells #[.int .i64 (twoJ b c).l, .int .u64 (twoJ b c).c, .int .i64 (twoJ b c).i] 24)).cell? ⟨w5.heap.size, 0, none⟩ = some (.int .i64 (twoJ b c).l) := by simp
  have z1 : (w5.alloc (.cells #[.int .i64 (twoJ b c).l, .int .u64 (twoJ b c).c, .int .i64 (twoJ b c).i] 24)).cell? ⟨w5.heap.size, 1, none⟩ = some (.int .u64 (twoJ b c).c) := by simp
  have z2 : (w5.alloc (.cells #[.int .i64 (twoJ b c).l, .int .u64 (twoJ b c).c, .int .i64 (twoJ b c).i] 24)).cell? ⟨w5.heap.size, 2, none⟩ = some (.int .i64 (twoJ b c).i) := by simp
  clear hn
  go_wp2_with fail
  refine (Join_any a (twoJ b c) hfa hfz _ hg1).mono ?_
  rintro e w6 ⟨he, hb⟩
  subst he
  replace a0 := cell_later hb a0
  replace a1 := cell_later hb a1
  replace a2 := cell_later hb a2
  replace b0 := cell_later hb b0
  replace b1 := cell_later hb b1
  replace b2 := cell_later hb b2
  replace c0 := cell_later hb c0
  replace c1 := cell_later hb c1
  replace c2 := cell_later hb c2
  replace x0 := cell_later hb x0
  replace x1 := cell_later hb x1
  replace x2 := cell_later hb x2
  replace y0 := cell_later hb y0
  replace y1 := cell_later hb y1
  replace y2 := cell_later hb y2
  replace p0 := cell_later hb p0
  replace p1 := cell_later hb p1
  replace p2 := cell_later hb p2
  replace z0 := cell_later hb z0
  replace z1 := cell_later hb z1
  replace z2 := cell_later hb z2
  replace hB := below_more hB hb
  replace hg1 := hg1.more hb
  clear hb
  have hn := Below.new w6 (.cells #[.int .i64 (twoJ a (twoJ b c)).l, .int .u64 (twoJ a (twoJ b c)).c, .int .i64 (twoJ a (twoJ b c)).i] 24)
  replace a0 := cell_later hn a0
  replace a1 := cell_later hn a1
  replace a2 := cell_later hn a2
  replace b0 := cell_later hn b0
  replace b1 := cell_later hn b1
  replace b2 := cell_later hn b2
  replace c0 := cell_later hn c0
  replace c1 := cell_later hn c1
  replace c2 := cell_later hn c2
  replace x0 := cell_later hn x0
  replace x1 := cell_later hn x1
  replace x2 := cell_later hn x2
  replace y0 := cell_later hn y0
  replace y1 := cell_later hn y1
  replace y2 := cell_later hn y2
  replace p0 := cell_later hn p0
  replace p1 := cell_later hn p1
  replace p2 := cell_later hn p2
  replace z0 := cell_later hn z0
  replace z1 := cell_later hn z1
  replace z2 := cell_later hn z2
  replace hB := below_more hB hn
  replace hg1 := hg1.more hn
  have q0 : (w6.alloc (.cells #[.int .i64 (twoJ a (twoJ b c)).l, .int .u64 (twoJ a (twoJ b c)).c, .int .i64 (twoJ a (twoJ b c)).i] 24)).cell? ⟨w6.heap.size, 0, none⟩ = some (.int .i64 (twoJ a (twoJ b c)).l) := by simp
  have q1 : (w6.alloc (.cells #[.int .i64 (twoJ a (twoJ b c)).l, .int .u64 (twoJ a (twoJ b c)).c, .int .i64 (twoJ a (twoJ b c)).i] 24)).cell? ⟨w6.heap.size, 1, none⟩ = some (.int .u64 (twoJ a (twoJ b c)).c) := by simp
  have q2 : (w6.alloc (.cells #[.int .i64 (twoJ a (twoJ b c)).l, .int .u64 (twoJ a (twoJ b c)).c, .int .i64 (twoJ a (twoJ b c)).i] 24)).cell? ⟨w6.heap.size, 2, none⟩ = some (.int .i64 (twoJ a (twoJ b c)).i) := by simp
  clear hn
  go_wp2_with fail
  refine (Meet_any a b hfa hfb _ hg1).mono ?_
  rintro e w7 ⟨he, hb⟩
  rw [E1.out] at he
  subst he
  replace a0 := cell_later hb a0
  replace a1 := cell_later hb a1
  replace a2 := cell_later hb a2
  replace b0 := cell_later hb b0
  replace b1 := cell_later hb b1
  replace b2 := cell_later hb b2
  replace c0 := cell_later hb c0
  replace c1 := cell_later hb c1
  replace c2 := cell_later hb c2
  replace x0 := cell_later hb x0
  replace x1 := cell_later hb x1
  replace x2 := cell_later hb x2
  replace y0 := cell_later hb y0
  replace y1 := cell_later hb y1
  replace y2 := cell_later hb y2
  replace p0 := cell_later hb p0
  replace p1 := cell_later hb p1
  replace p2 := cell_later hb p2
  replace z0 := cell_later hb z0
  replace z1 := cell_later hb z1
  replace z2 := cell_later hb z2
  replace q0 := cell_later hb q0
  replace q1 := cell_later hb q1
  replace q2 := cell_later hb q2
  replace hB := below_more hB hb
  replace hg1 := hg1.more hb
  clear hb
  have hn := Below.new w7 (.cells #[.int .i64 (twoM a b).l, .int .u64 (twoM a b).c, .int .i64 (twoM a b).i] 24)
  replace a0 := cell_later hn a0
  replace a1 := cell_later hn a1
  replace a2 := cell_later hn a2
  replace b0 := cell_later hn b0
  replace b1 := cell_later hn b1
  replace b2 := cell_later hn b2
  replace c0 := cell_later hn c0
  replace c1 := cell_later hn c1
  replace c2 := cell_later hn c2
  replace x0 := cell_later hn x0
  replace x1 := cell_later hn x1
  replace x2 := cell_later hn x2
  replace y0 := cell_later hn y0
  replace y1 := cell_later hn y1
  replace y2 := cell_later hn y2
  replace p0 := cell_later hn p0
  replace p1 := cell_later hn p1
  replace p2 := cell_later hn p2
  replace z0 := cell_later hn z0
  replace z1 := cell_later hn z1
  replace z2 := cell_later hn z2
  replace q0 := cell_later hn q0
  replace q1 := cell_later hn q1
  replace q2 := cell_later hn q2
  replace hB := below_more hB hn
  replace hg1 := hg1.more hn
  have u0 : (w7.alloc (.cells #[.int .i64 (twoM a b).l, .int .u64 (twoM a b).c, .int .i64 (twoM a b).i] 24)).cell? ⟨w7.heap.size, 0, none⟩ = some (.int .i64 (twoM a b).l) := by simp
  have u1 : (w7.alloc (.cells #[.int .i64 (twoM a b).l, .int .u64 (twoM a b).c, .int .i64 (twoM a b).i] 24)).cell? ⟨w7.heap.size, 1, none⟩ = some (.int .u64 (twoM a b).c) := by simp
  have u2 : (w7.alloc (.cells #[.int .i64 (twoM a b).l, .int .u64 (twoM a b).c, .int .i64 (twoM a b).i] 24)).cell? ⟨w7.heap.size, 2, none⟩ = some (.int .i64 (twoM a b).i) := by simp
  clear hn
  go_wp2_with fail
  refine (Meet_any b a hfb hfa _ hg1).mono ?_
  rintro e w8 ⟨he, hb⟩
  rw [E2.out] at he
  subst he
  replace a0 := cell_later hb a0
  replace a1 := cell_later hb a1
  replace a2 := cell_later hb a2
  replace b0 := cell_later hb b0
  replace b1 := cell_later hb b1
  replace b2 := cell_later hb b2
  replace c0 := cell_later hb c0
  replace c1 := cell_later hb c1
  replace c2 := cell_later hb c2
  replace x0 := cell_later hb x0
  replace x1 := cell_later hb x1
  replace x2 := cell_later hb x2
  replace y0 := cell_later hb y0
  replace y1 := cell_later hb y1
  replace y2 := cell_later hb y2
  replace p0 := cell_later hb p0
  replace p1 := cell_later hb p1
  replace p2 := cell_later hb p2
  replace z0 := cell_later hb z0
  replace z1 := cell_later hb z1
  replace z2 := cell_later hb z2
  replace q0 := cell_later hb q0
  replace q1 := cell_later hb q1
  replace q2 := cell_later hb q2
  replace u0 := cell_later hb u0
  replace u1 := cell_later hb u1
  replace u2 := cell_later hb u2
  replace hB := below_more hB hb
  replace hg1 := hg1.more hb
  clear hb
  have hn := Below.new w8 (.cells #[.int .i64 (twoM b a).l, .int .u64 (twoM b a).c, .int .i64 (twoM b a).i] 24)
  replace a0 := cell_later hn a0
  replace a1 := cell_later hn a1
  replace a2 := cell_later hn a2
  replace b0 := cell_later hn b0
  replace b1 := cell_later hn b1
  replace b2 := cell_later hn b2
  replace c0 := cell_later hn c0
  replace c1 := cell_later hn c1
  replace c2 := cell_later hn c2
  replace x0 := cell_later hn x0
  replace x1 := cell_later hn x1
  replace x2 := cell_later hn x2
  replace y0 := cell_later hn y0
  replace y1 := cell_later hn y1
  replace y2 := cell_later hn y2
  replace p0 := cell_later hn p0
  replace p1 := cell_later hn p1
  replace p2 := cell_later hn p2
  replace z0 := cell_later hn z0
  replace z1 := cell_later hn z1
  replace z2 := cell_later hn z2
  replace q0 := cell_later hn q0
  replace q1 := cell_later hn q1
  replace q2 := cell_later hn q2
  replace u0 := cell_later hn u0
  replace u1 := cell_later hn u1
  replace u2 := cell_later hn u2
  replace hB := below_more hB hn
  replace hg1 := hg1.more hn
  have v0 : (w8.alloc (.cells #[.int .i64 (twoM b a).l, .int .u64 (twoM b a).c, .int .i64 (twoM b a).i] 24)).cell? ⟨w8.heap.size, 0, none⟩ = some (.int .i64 (twoM b a).l) := by simp
  have v1 : (w8.alloc (.cells #[.int .i64 (twoM b a).l, .int .u64 (twoM b a).c, .int .i64 (twoM b a).i] 24)).cell? ⟨w8.heap.size, 1, none⟩ = some (.int .u64 (twoM b a).c) := by simp
  have v2 : (w8.alloc (.cells #[.int .i64 (twoM b a).l, .int .u64 (twoM b a).c, .int .i64 (twoM b a).i] 24)).cell? ⟨w8.heap.size, 2, none⟩ = some (.int .i64 (twoM b a).i) := by simp
  clear hn
  go_wp2_with fail
  refine (Join_any a (twoM a b) hfa hfu _ hg1).mono ?_
  rintro e w9 ⟨he, hb⟩
  rw [E3.out] at he
  subst he
  replace a0 := cell_later hb a0
  replace a1 := cell_later hb a1
  replace a2 := cell_later hb a2
  replace b0 := cell_later hb b0
  replace b1 := cell_later hb b1
  replace b2 := cell_later hb b2
  replace c0 := cell_later hb c0
  replace c1 := cell_later hb c1
  replace c2 := cell_later hb c2
  replace x0 := cell_later hb x0
  replace x1 := cell_later hb x1
  replace x2 := cell_later hb x2
  replace y0 := cell_later hb y0
  replace y1 := cell_later hb y1
  replace y2 := cell_later hb y2
  replace p0 := cell_later hb p0
  replace p1 := cell_later hb p1
  replace p2 := cell_later hb p2
  replace z0 := cell_later hb z0
  replace z1 := cell_later hb z1
  replace z2 := cell_later hb z2
  replace q0 := cell_later hb q0
  replace q1 := cell_later hb q1
  replace q2 := cell_later hb q2
  replace u0 := cell_later hb u0
  replace u1 := cell_later hb u1
  replace u2 := cell_later hb u2
  replace v0 := cell_later hb v0
  replace v1 := cell_later hb v1
  replace v2 := cell_later hb v2
  replace hB := below_more hB hb
  replace hg1 := hg1.more hb
  clear hb
  have hn := Below.new w9 (.cells #[.int .i64 (twoJ a (twoM a b)).l, .int .u64 (twoJ a (twoM a b)).c, .int .i64 (twoJ a (twoM a b)).i] 24)
  replace a0 := cell_later hn a0
  replace a1 := cell_later hn a1
  replace a2 := cell_later hn a2
  replace b0 := cell_later hn b0
  replace b1 := cell_later hn b1
  replace b2 := cell_later hn b2
  replace c0 := cell_later hn c0
  replace c1 := cell_later hn c1
  replace c2 := cell_later hn c2
  replace x0 := cell_later hn x0
  replace x1 := cell_later hn x1
  replace x2 := cell_later hn x2
  replace y0 := cell_later hn y0
  replace y1 := cell_later hn y1
  replace y2 := cell_later hn y2
  replace p0 := cell_later hn p0
  replace p1 := cell_later hn p1
  replace p2 := cell_later hn p2
  replace z0 := cell_later hn z0
  replace z1 := cell_later hn z1
  replace z2 := cell_later hn z2
  replace q0 := cell_later hn q0
  replace q1 := cell_later hn q1
  replace q2 := cell_later hn q2
  replace u0 := cell_later hn u0
  replace u1 := cell_later hn u1
  replace u2 := cell_later hn u2
  replace v0 := cell_later hn v0
  replace v1 := cell_later hn v1
  replace v2 := cell_later hn v2
  replace hB := below_more hB hn
  replace hg1 := hg1.more hn
  have m0 : (w9.alloc (.cells #[.int .i64 (twoJ a (twoM a b)).l, .int .u64 (twoJ a (twoM a b)).c, .int .i64 (twoJ a (twoM a b)).i] 24)).cell? ⟨w9.heap.size, 0, none⟩ = some (.int .i64 (twoJ a (twoM a b)).l) := by simp
  have m1 : (w9.alloc (.cells #[.int .i64 (twoJ a (twoM a b)).l, .int .u64 (twoJ a (twoM a b)).c, .int .i64 (twoJ a (twoM a b)).i] 24)).cell? ⟨w9.heap.size, 1, none⟩ = some (.int .u64 (twoJ a (twoM a b)).c) := by simp
  have m2 : (w9.alloc (.cells #[.int .i64 (twoJ a (twoM a b)).l, .int .u64 (twoJ a (twoM a b)).c, .int .i64 (twoJ a (twoM a b)).i] 24)).cell? ⟨w9.heap.size, 2, none⟩ = some (.int .i64 (twoJ a (twoM a b)).i) := by simp
  clear hn
  go_wp2
  go_ret
  exact ⟨rfl, hB⟩

set_option maxRecDepth 100000 in
set_option maxHeartbeats 2000000 in
theorem labelTurns_yes_yes (a b c : Lab) (hfa : a.fits) (hfb : b.fits) (hfc : c.fits) (hr : (a.right && b.right) = true) (hc : c.right = true) (w : World) (hg : ErrT w) :
    Calls Tryd.prog 8 #[.agg #[.int .i64 a.l, .int .u64 a.c, .int .i64 a.i], .agg #[.int .i64 b.l, .int .u64 b.c, .int .i64 b.i], .agg #[.int .i64 c.l, .int .u64 c.c, .int .i64 c.i]] w fun e w' => e = .returned (.bool true) ∧ Below w.heap.size w w' := by
  have _hu := And.intro hfa (And.intro hfb (hfc))
  clear _hu
  have hfx : (twoJ a b).fits := fits_twoJ hfa hfb
  have hfz : (twoJ b c).fits := fits_twoJ hfb hfc
  have hfu : (twoM a b).fits := fits_twoM hfa hfb
  have hr2 : (b.right && a.right) = true := by rw [Bool.and_comm]; exact hr
  obtain ⟨ra, rb⟩ := (right2_of a b).1 hr
  have E1 := Lib.hid (twoE_yes hr)
  have E2 := Lib.hid (twoE_yes hr2)
  have ru : (a.right && (twoM a b).right) = true := by rw [twoM_yes hr, ra, Lab.right_meet ra rb]; rfl
  have E3 := Lib.hid (twoE_yes ru)
  have s1 : (twoJ a b).same (twoJ b a) = true := by rw [twoJ_yes hr, twoJ_yes hr2, join_comm b a]; exact same_self _
  have s2 : (twoM a b).same (twoM b a) = true := by rw [twoM_yes hr, twoM_yes hr2, meet_comm b a]; exact same_self _
  have s3 : (twoJ a (twoM a b)).same a = true := by rw [twoJ_yes ru, twoM_yes hr, join_meet]; exact same_self _
  have rg : ((twoJ a b).right && c.right) = true := by rw [twoJ_yes hr, Lab.right_join ra rb, hc]; rfl
  have rz : (b.right && c.right) = true := by rw [rb, hc]; rfl
  have rh : (a.right && (twoJ b c).right) = true := by rw [twoJ_yes rz, ra, Lab.right_join rb hc]; rfl
  have E4 := Lib.hid (twoE_yes rg)
  have E5 := Lib.hid (twoE_yes rh)
  have s4 : (twoJ (twoJ a b) c).same (twoJ a (twoJ b c)) = true := by rw [twoJ_yes rg, twoJ_yes rh, twoJ_yes rz, twoJ_yes hr, join_assoc]; exact same_self _
  have q1a := eqL (twoJ a b) (twoJ b a)
  have q1b := eqInL (twoJ a b) (twoJ b a)
  rw [s1] at q1a q1b
  have q2a := eqL (twoM a b) (twoM b a)
  have q2b := eqInL (twoM a b) (twoM b a)
  rw [s2] at q2a q2b
  have q3a := eqL (twoJ a (twoM a b)) a
  have q3b := eqInL (twoJ a (twoM a b)) a
  rw [s3] at q3a q3b
  have q4a := eqL (twoJ (twoJ a b) c) (twoJ a (twoJ b c))
  have q4b := eqInL (twoJ (twoJ a b) c) (twoJ a (twoJ b c))
  rw [s4] at q4a q4b
  clear hr hr2 ra rb ru s1 s2 s3 rg hc rz rh s4
  obtain ⟨hB, hg1, a0, a1, a2, b0, b1, b2, c0, c1, c2⟩ := three_at w a b c hg
  clear hg
  go_enter Tryd.func8, Tryd.ntmps8
  go_wp2_with fail
  refine (shown_any _ hg1).mono ?_
  rintro e w1 ⟨he, hb⟩
  subst he
  replace a0 := cell_later hb a0
  replace a1 := cell_later hb a1
  replace a2 := cell_later hb a2
  replace b0 := cell_later hb b0
  replace b1 := cell_later hb b1
  replace b2 := cell_later hb b2
  replace c0 := cell_later hb c0
  replace c1 := cell_later hb c1
  replace c2 := cell_later hb c2
  replace hB := below_more hB hb
  replace hg1 := hg1.more hb
  clear hb
  go_wp2_with fail
  refine (Join_any a b hfa hfb _ hg1).mono ?_
  rintro e w2 ⟨he, hb⟩
  rw [E1.out] at he
  subst he
  replace a0 := cell_later hb a0
  replace a1 := cell_later hb a1
  replace a2 := cell_later hb a2
  replace b0 := cell_later hb b0
  replace b1 := cell_later hb b1
  replace b2 := cell_later hb b2
  replace c0 := cell_later hb c0
  replace c1 := cell_later hb c1
  replace c2 := cell_later hb c2
  replace hB := below_more hB hb
  replace hg1 := hg1.more hb
  clear hb
  have hn := Below.new w2 (.cells #[.int .i64 (twoJ a b).l, .int .u64 (twoJ a b).c, .int .i64 (twoJ a b).i] 24)
  replace a0 := cell_later hn a0
  replace a1 := cell_later hn a1
  replace a2 := cell_later hn a2
  replace b0 := cell_later hn b0
  replace b1 := cell_later hn b1
  replace b2 := cell_later hn b2
  replace c0 := cell_later hn c0
  replace c1 := cell_later hn c1
  replace c2 := cell_later hn c2
  replace hB := below_more hB hn
  replace hg1 := hg1.more hn
  have x0 : (w2.alloc (.cells #[.int .i64 (twoJ a b).l, .int .u64 (twoJ a b).c, .int .i64 (twoJ a b).i] 24)).cell? ⟨w2.heap.size, 0, none⟩ = some (.int .i64 (twoJ a b).l) := by simp
  have x1 : (w2.alloc (.cells #[.int .i64 (twoJ a b).l, .int .u64 (twoJ a b).c, .int .i64 (twoJ a b).i] 24)).cell? ⟨w2.heap.size, 1, none⟩ = some (.int .u64 (twoJ a b).c) := by simp
  have x2 : (w2.alloc (.cells #[.int .i64 (twoJ a b).l, .int .u64 (twoJ a b).c, .int .i64 (twoJ a b).i] 24)).cell? ⟨w2.heap.size, 2, none⟩ = some (.int .i64 (twoJ a b).i) := by simp
  clear hn
  go_wp2_with fail
  refine (Join_any b a hfb hfa _ hg1).mono ?_
  rintro e w3 ⟨he, hb⟩
  rw [E2.out] at he
  subst he
  replace a0 := cell_later hb a0
  replace a1 := cell_later hb a1
  replace a2 := cell_later hb a2
  replace b0 := cell_later hb b0
  replace b1 := cell_later hb b1
  replace b2 := cell_later hb b2
  replace c0 := cell_later hb c0
  replace c1 := cell_later hb c1
  replace c2 := cell_later hb c2
  replace x0 := cell_later hb x0
  replace x1 := cell_later hb x1
  replace x2 := cell_later hb x2
  replace hB := below_more hB hb
  replace hg1 := hg1.more hb
  clear hb
  have hn := Below.new w3 (.cells #[.int .i64 (twoJ b a).l, .int .u64 (twoJ b a).c, .int .i64 (twoJ b a).i] 24)
  replace a0 := cell_later hn a0
  replace a1 := cell_later hn a1
  replace a2 := cell_later hn a2
  replace b0 := cell_later hn b0
  replace b1 := cell_later hn b1
  replace b2 := cell_later hn b2
  replace c0 := cell_later hn c0
  replace c1 := cell_later hn c1
  replace c2 := cell_later hn c2
  replace x0 := cell_later hn x0
  replace x1 := cell_later hn x1
  replace x2 := cell_later hn x2
  replace hB := below_more hB hn
  replace hg1 := hg1.more hn
  have y0 : (w3.alloc (.cells #[.int .i64 (twoJ b a).l, .int .u64 (twoJ b a).c, .int .i64 (twoJ b a).i] 24)).cell? ⟨w3.heap.size, 0, none⟩ = some (.int .i64 (twoJ b a).l) := by simp
  have y1 : (w3.alloc (.cells #[.int .i64 (twoJ b a).l, .int .u64 (twoJ b a).c, .int .i64 (twoJ b a).i] 24)).cell? ⟨w3.heap.size, 1, none⟩ = some (.int .u64 (twoJ b a).c) := by simp
  have y2 : (w3.alloc (.cells #[.int .i64 (twoJ b a).l, .int .u64 (twoJ b a).c, .int .i64 (twoJ b a).i] 24)).cell? ⟨w3.heap.size, 2, none⟩ = some (.int .i64 (twoJ b a).i) := by simp
  clear hn
  go_wp2_with fail
  refine (Join_any (twoJ a b) c hfx hfc _ hg1).mono ?_
  rintro e w4 ⟨he, hb⟩
  rw [E4.out] at he
  subst he
  replace a0 := cell_later hb a0
  replace a1 := cell_later hb a1
  replace a2 := cell_later hb a2
  replace b0 := cell_later hb b0
  replace b1 := cell_later hb b1
  replace b2 := cell_later hb b2
  replace c0 := cell_later hb c0
  replace c1 := cell_later hb c1
  replace c2 := cell_later hb c2
  replace x0 := cell_later hb x0
  replace x1 := cell_later hb x1
  replace x2 := cell_later hb x2
  replace y0 := cell_later hb y0
  replace y1 := cell_later hb y1
  replace y2 := cell_later hb y2
  replace hB := below_more hB hb
  replace hg1 := hg1.more hb
  clear hb
  have hn := Below.new w4 (.cells #[.int .i64 (twoJ (twoJ a b) c).l, .int .u64 (twoJ (twoJ a b) c).c, .int .i64 (twoJ (twoJ a b) c).i] 24)
  replace a0 := cell_later hn a0
  replace a1 := cell_later hn a1
  replace a2 := cell_later hn a2
  replace b0 := cell_later hn b0
  replace b1 := cell_later hn b1
  replace b2 := cell_later hn b2
  replace c0 := cell_later hn c0
  replace c1 := cell_later hn c1
  replace c2 := cell_later hn c2
  replace x0 := cell_later hn x0
  replace x1 := cell_later hn x1
  replace x2 := cell_later hn x2
  replace y0 := cell_later hn y0
  replace y1 := cell_later hn y1
  replace y2 := cell_later hn y2
  replace hB := below_more hB hn
  replace hg1 := hg1.more hn
  have p0 : (w4.alloc (.cells #[.int .i64 (twoJ (twoJ a b) c).l, .int .u64 (twoJ (twoJ a b) c).c, .int .i64 (twoJ (twoJ a b) c).i] 24)).cell? ⟨w4.heap.size, 0, none⟩ = some (.int .i64 (twoJ (twoJ a b) c).l) := by simp
  have p1 : (w4.alloc (.cells #[.int .i64 (twoJ (twoJ a b) c).l, .int .u64 (twoJ (twoJ a b) c).c, .int .i64 (twoJ (twoJ a b) c).i] 24)).cell? ⟨w4.heap.size, 1, none⟩ = some (.int .u64 (twoJ (twoJ a b) c).c) := by simp
  have p2 : (w4.alloc (.cells #[.int .i64 (twoJ (twoJ a b) c).l, .int .u64 (twoJ (twoJ a b) c).c, .int .i64 (twoJ (twoJ a b) c).i] 24)).cell? ⟨w4.heap.size, 2, none⟩ = some (.int .i64 (twoJ (twoJ a b) c).i) := by simp
  clear hn
  go_wp2_with fail
  refine (Join_any b c hfb hfc _ hg1).mono ?_
  rintro e w5 ⟨he, hb⟩
  subst he
  replace a0 := cell_later hb a0
  replace a1 := cell_later hb a1
  replace a2 := cell_later hb a2
  replace b0 := cell_later hb b0
  replace b1 := cell_later hb b1
  replace b2 := cell_later hb b2
  replace c0 := cell_later hb c0
  replace c1 := cell_later hb c1
  replace c2 := cell_later hb c2
  replace x0 := cell_later hb x0
  replace x1 := cell_later hb x1
  replace x2 := cell_later hb x2
  replace y0 := cell_later hb y0
  replace y1 := cell_later hb y1
  replace y2 := cell_later hb y2
  replace p0 := cell_later hb p0
  replace p1 := cell_later hb p1
  replace p2 := cell_later hb p2
  replace hB := below_more hB hb
  replace hg1 := hg1.more hb
  clear hb
  have hn := Below.new w5 (.cells #[.int .i64 (twoJ b c).l, .int .u64 (twoJ b c).c, .int .i64 (twoJ b c).i] 24)
  replace a0 := cell_later hn a0
  replace a1 := cell_later hn a1
  replace a2 := cell_later hn a2
  replace b0 := cell_later hn b0
  replace b1 := cell_later hn b1
  replace b2 := cell_later hn b2
  replace c0 := cell_later hn c0
  replace c1 := cell_later hn c1
  replace c2 := cell_later hn c2
  replace x0 := cell_later hn x0
  replace x1 := cell_later hn x1
  replace x2 := cell_later hn x2
  replace y0 := cell_later hn y0
  replace y1 := cell_later hn y1
  replace y2 := cell_later hn y2
  replace p0 := cell_later hn p0
  replace p1 := cell_later hn p1
  replace p2 := cell_later hn p2
  replace hB := below_more hB hn
  replace hg1 := hg1.more hn
  have z0 : (w5.alloc (.cells #[.int .i64 (twoJ b c).l, .int .u64 (twoJ b c).c, .int .i64 (twoJ b c).i] 24)).cell? ⟨w5.heap.size, 0, none⟩ = some (.int .i64 (twoJ b c).l) := by simp
  have z1 : (w5.alloc (.cells #[.int .i64 (twoJ b c).l, .int .u64 (twoJ b c).c, .int .i64 (twoJ b c).i] 24)).cell? ⟨w5.heap.size, 1, none⟩ = some (.int .u64 (twoJ b c).c) := by simp
  have z2 : (w5.alloc (.cells #[.int .i64 (twoJ b c).l, .int .u64 (twoJ b c).c, .int .i64 (twoJ b c).i] 24)).cell? ⟨w5.heap.size, 2, none⟩ = some (.int .i64 (twoJ b c).i) := by simp
  clear hn
  go_wp2_with fail
  refine (Join_any a (twoJ b c) hfa hfz _ hg1).mono ?_
  rintro e w6 ⟨he, hb⟩
  rw [E5.out] at he
  subst he
  replace a0 := cell_later hb a0
  replace a1 := cell_later hb a1
  replace a2 := cell_later hb a2
  replace b0 := cell_later hb b0
  replace b1 := cell_later hb b1
  replace b2 := cell_later hb b2
  replace c0 := cell_later hb c0
  replace c1 := cell_later hb c1
  replace c2 := cell_later hb c2
  replace x0 := cell_later hb x0
  replace x1 := cell_later hb x1
  replace x2 := cell_later hb x2
  replace y0 := cell_later hb y0
  replace y1 := cell_later hb y1
  replace y2 := cell_later hb y2
  replace p0 := cell_later hb p0
  replace p1 := cell_later hb p1
  replace p2 := cell_later hb p2
  replace z0 := cell_later hb z0
  replace z1 := cell_later hb z1
  replace z2 := cell_later hb z2
  replace hB := below_more hB hb
  replace hg1 := hg1.more hb
  clear hb
  have hn := Below.new w6 (.cells #[.int .i64 (twoJ a (twoJ b c)).l, .int .u64 (twoJ a (twoJ b c)).c, .int .i64 (twoJ a (twoJ b c)).i] 24)
  replace a0 := cell_later hn a0
  replace a1 := cell_later hn a1
  replace a2 := cell_later hn a2
  replace b0 := cell_later hn b0
  replace b1 := cell_later hn b1
  replace b2 := cell_later hn b2
  replace c0 := cell_later hn c0
  replace c1 := cell_later hn c1
  replace c2 := cell_later hn c2
  replace x0 := cell_later hn x0
  replace x1 := cell_later hn x1
  replace x2 := cell_later hn x2
  replace y0 := cell_later hn y0
  replace y1 := cell_later hn y1
  replace y2 := cell_later hn y2
  replace p0 := cell_later hn p0
  replace p1 := cell_later hn p1
  replace p2 := cell_later hn p2
  replace z0 := cell_later hn z0
  replace z1 := cell_later hn z1
  replace z2 := cell_later hn z2
  replace hB := below_more hB hn
  replace hg1 := hg1.more hn
  have q0 : (w6.alloc (.cells #[.int .i64 (twoJ a (twoJ b c)).l, .int .u64 (twoJ a (twoJ b c)).c, .int .i64 (twoJ a (twoJ b c)).i] 24)).cell? ⟨w6.heap.size, 0, none⟩ = some (.int .i64 (twoJ a (twoJ b c)).l) := by simp
  have q1 : (w6.alloc (.cells #[.int .i64 (twoJ a (twoJ b c)).l, .int .u64 (twoJ a (twoJ b c)).c, .int .i64 (twoJ a (twoJ b c)).i] 24)).cell? ⟨w6.heap.size, 1, none⟩ = some (.int .u64 (twoJ a (twoJ b c)).c) := by simp
  have q2 : (w6.alloc (.cells #[.int .i64 (twoJ a (twoJ b c)).l, .int .u64 (twoJ a (twoJ b c)).c, .int .i64 (twoJ a (twoJ b c)).i] 24)).cell? ⟨w6.heap.size, 2, none⟩ = some (.int .i64 (twoJ a (twoJ b c)).i) := by simp
  clear hn
  go_wp2_with fail
  refine (Meet_any a b hfa hfb _ hg1).mono ?_
  rintro e w7 ⟨he, hb⟩
  rw [E1.out] at he
  subst he
  replace a0 := cell_later hb a0
  replace a1 := cell_later hb a1
  replace a2 := cell_later hb a2
  replace b0 := cell_later hb b0
  replace b1 := cell_later hb b1
  replace b2 := cell_later hb b2
  replace c0 := cell_later hb c0
  replace c1 := cell_later hb c1
  replace c2 := cell_later hb c2
  replace x0 := cell_later hb x0
  replace x1 := cell_later hb x1
  replace x2 := cell_later hb x2
  replace y0 := cell_later hb y0
  replace y1 := cell_later hb y1
  replace y2 := cell_later hb y2
  replace p0 := cell_later hb p0
  replace p1 := cell_later hb p1
  replace p2 := cell_later hb p2
  replace z0 := cell_later hb z0
  replace z1 := cell_later hb z1
  replace z2 := cell_later hb z2
  replace q0 := cell_later hb q0
  replace q1 := cell_later hb q1
  replace q2 := cell_later hb q2
  replace hB := below_more hB hb
  replace hg1 := hg1.more hb
  clear hb
  have hn := Below.new w7 (.cells #[.int .i64 (twoM a b).l, .int .u64 (twoM a b).c, .int .i64 (twoM a b).i] 24)
  replace a0 := cell_later hn a0
  replace a1 := cell_later hn a1
  replace a2 := cell_later hn a2
  replace b0 := cell_later hn b0
  replace b1 := cell_later hn b1
  replace b2 := cell_later hn b2
  replace c0 := cell_later hn c0
  replace c1 := cell_later hn c1
  replace c2 := cell_later hn c2
  replace x0 := cell_later hn x0
  replace x1 := cell_later hn x1
  replace x2 := cell_later hn x2
  replace y0 := cell_later hn y0
  replace y1 := cell_later hn y1
  replace y2 := cell_later hn y2
  replace p0 := cell_later hn p0
  replace p1 := cell_later hn p1
  replace p2 := cell_later hn p2
  replace z0 := cell_later hn z0
  replace z1 := cell_later hn z1
  replace z2 := cell_later hn z2
  replace q0 := cell_later hn q0
  replace q1 := cell_later hn q1
  replace q2 := cell_later hn q2
  replace hB := below_more hB hn
  replace hg1 := hg1.more hn
  have u0 : (w7.alloc (.cells #[.int .i64 (twoM a b).l, .int .u64 (twoM a b).c, .int .i64 (twoM a b).i] 24)).cell? ⟨w7.heap.size, 0, none⟩ = some (.int .i64 (twoM a b).l) := by simp
  have u1 : (w7.alloc (.cells #[.int .i64 (twoM a b).l, .int .u64 (twoM a b).c, .int .i64 (twoM a b).i] 24)).cell? ⟨w7.heap.size, 1, none⟩ = some (.int .u64 (twoM a b).c) := by simp
  have u2 : (w7.alloc (.cells #[.int .i64 (twoM a b).l, .int .u64 (twoM a b).c, .int .i64 (twoM a b).i] 24)).cell? ⟨w7.heap.size, 2, none⟩ = some (.int .i64 (twoM a b).i) := by simp
  clear hn
  go_wp2_with fail
  refine (Meet_any b a hfb hfa _ hg1).mono ?_
  rintro e w8 ⟨he, hb⟩
  rw [E2.out] at he
  subst he
  replace a0 := cell_later hb a0
  replace a1 := cell_later hb a1
  replace a2 := cell_later hb a2
  replace b0 := cell_later hb b0
  replace b1 := cell_later hb b1
  replace b2 := cell_later hb b2
  replace c0 := cell_later hb c0
  replace c1 := cell_later hb c1
  replace c2 := cell_later hb c2
  replace x0 := cell_later hb x0
  replace x1 := cell_later hb x1
  replace x2 := cell_later hb x2
  replace y0 := cell_later hb y0
  replace y1 := cell_later hb y1
  replace y2 := cell_later hb y2
  replace p0 := cell_later hb p0
  replace p1 := cell_later hb p1
  replace p2 := cell_later hb p2
  replace z0 := cell_later hb z0
  replace z1 := cell_later hb z1
  replace z2 := cell_later hb z2
  replace q0 := cell_later hb q0
  replace q1 := cell_later hb q1
  replace q2 := cell_later hb q2
  replace u0 := cell_later hb u0
  replace u1 := cell_later hb u1
  replace u2 := cell_later hb u2
  replace hB := below_more hB hb
  replace hg1 := hg1.more hb
  clear hb
  have hn := Below.new w8 (.cells #[.int .i64 (twoM b a).l, .int .u64 (twoM b a).c, .int .i64 (twoM b a).i] 24)
  replace a0 := cell_later hn a0
  replace a1 := cell_later hn a1
  replace a2 := cell_later hn a2
  replace b0 := cell_later hn b0
  replace b1 := cell_later hn b1
  replace b2 := cell_later hn b2
  replace c0 := cell_later hn c0
  replace c1 := cell_later hn c1
  replace c2 := cell_later hn c2
  replace x0 := cell_later hn x0
  replace x1 := cell_later hn x1
  replace x2 := cell_later hn x2
  replace y0 := cell_later hn y0
  replace y1 := cell_later hn y1
  replace y2 := cell_later hn y2
  replace p0 := cell_later hn p0
  replace p1 := cell_later hn p1
  replace p2 := cell_later hn p2
  replace z0 := cell_later hn z0
  replace z1 := cell_later hn z1
  replace z2 := cell_later hn z2
  replace q0 := cell_later hn q0
  replace q1 := cell_later hn q1
  replace q2 := cell_later hn q2
  replace u0 := cell_later hn u0
  replace u1 := cell_later hn u1
  replace u2 := cell_later hn u2
  replace hB := below_more hB hn
  replace hg1 := hg1.more hn
  have v0 : (w8.alloc (.cells #[.int .i64 (twoM b a).l, .int .u64 (twoM b a).c, .int .i64 (twoM b a).i] 24)).cell? ⟨w8.heap.size, 0, none⟩ = some (.int .i64 (twoM b a).l) := by simp
  have v1 : (w8.alloc (.cells #[.int .i64 (twoM b a).l, .int .u64 (twoM b a).c, .int .i64 (twoM b a).i] 24)).cell? ⟨w8.heap.size, 1, none⟩ = some (.int .u64 (twoM b a).c) := by simp
  have v2 : (w8.alloc (.cells #[.int .i64 (twoM b a).l, .int .u64 (twoM b a).c, .int .i64 (twoM b a).i] 24)).cell? ⟨w8.heap.size, 2, none⟩ = some (.int .i64 (twoM b a).i) := by simp
  clear hn
  go_wp2_with fail
  refine (Join_any a (twoM a b) hfa hfu _ hg1).mono ?_
  rintro e w9 ⟨he, hb⟩
  rw [E3.out] at he
  subst he
  replace a0 := cell_later hb a0
  replace a1 := cell_later hb a1
  replace a2 := cell_later hb a2
  replace b0 := cell_later hb b0
  replace b1 := cell_later hb b1
  replace b2 := cell_later hb b2
  replace c0 := cell_later hb c0
  replace c1 := cell_later hb c1
  replace c2 := cell_later hb c2
  replace x0 := cell_later hb x0
  replace x1 := cell_later hb x1
  replace x2 := cell_later hb x2
  replace y0 := cell_later hb y0
  replace y1 := cell_later hb y1
  replace y2 := cell_later hb y2
  replace p0 := cell_later hb p0
  replace p1 := cell_later hb p1
  replace p2 := cell_later hb p2
  replace z0 := cell_later hb z0
  replace z1 := cell_later hb z1
  replace z2 := cell_later hb z2
  replace q0 := cell_later hb q0
  replace q1 := cell_later hb q1
  replace q2 := cell_later hb q2
  replace u0 := cell_later hb u0
  replace u1 := cell_later hb u1
  replace u2 := cell_later hb u2
  replace v0 := cell_later hb v0
  replace v1 := cell_later hb v1
  replace v2 := cell_later hb v2
  replace hB := below_more hB hb
  replace hg1 := hg1.more hb
  clear hb
  have hn := Below.new w9 (.cells #[.int .i64 (twoJ a (twoM a b)).l, .int .u64 (twoJ a (twoM a b)).c, .int .i64 (twoJ a (twoM a b)).i] 24)
  replace a0 := cell_later hn a0
  replace a1 := cell_later hn a1
  replace a2 := cell_later hn a2
  replace b0 := cell_later hn b0
  replace b1 := cell_later hn b1
  replace b2 := cell_later hn b2
  replace c0 := cell_later hn c0
  replace c1 := cell_later hn c1
  replace c2 := cell_later hn c2
  replace x0 := cell_later hn x0
  replace x1 := cell_later hn x1
  replace x2 := cell_later hn x2
  replace y0 := cell_later hn y0
  replace y1 := cell_later hn y1
  replace y2 := cell_later hn y2
  replace p0 := cell_later hn p0
  replace p1 := cell_later hn p1
  replace p2 := cell_later hn p2
  replace z0 := cell_later hn z0
  replace z1 := cell_later hn z1
  replace z2 := cell_later hn z2
  replace q0 := cell_later hn q0
  replace q1 := cell_later hn q1
  replace q2 := cell_later hn q2
  replace u0 := cell_later hn u0
  replace u1 := cell_later hn u1
  replace u2 := cell_later hn u2
  replace v0 := cell_later hn v0
  replace v1 := cell_later hn v1
  replace v2 := cell_later hn v2
  replace hB := below_more hB hn
  replace hg1 := hg1.more hn
  have m0 : (w9.alloc (.cells #[.int .i64 (twoJ a (twoM a b)).l, .int .u64 (twoJ a (twoM a b)).c, .int .i64 (twoJ a (twoM a b)).i] 24)).cell? ⟨w9.heap.size, 0, none⟩ = some (.int .i64 (twoJ a (twoM a b)).l) := by simp
  have m1 : (w9.alloc (.cells #[.int .i64 (twoJ a (twoM a b)).l, .int .u64 (twoJ a (twoM a b)).c, .int .i64 (twoJ a (twoM a b)).i] 24)).cell? ⟨w9.heap.size, 1, none⟩ = some (.int .u64 (twoJ a (twoM a b)).c) := by simp
  have m2 : (w9.alloc (.cells #[.int .i64 (twoJ a (twoM a b)).l, .int .u64 (twoJ a (twoM a b)).c, .int .i64 (twoJ a (twoM a b)).i] 24)).cell? ⟨w9.heap.size, 2, none⟩ = some (.int .i64 (twoJ a (twoM a b)).i) := by simp
  clear hn
  go_wp2
  go_ret
  exact ⟨rfl, hB⟩

theorem labelTurns_any (a b c : Lab) (hfa : a.fits) (hfb : b.fits) (hfc : c.fits) (w : World) (hg : ErrT w) :
    Calls Tryd.prog 8 #[.agg #[.int .i64 a.l, .int .u64 a.c, .int .i64 a.i], .agg #[.int .i64 b.l, .int .u64 b.c, .int .i64 b.i], .agg #[.int .i64 c.l, .int .u64 c.c, .int .i64 c.i]] w fun e w' => e = .returned (.bool true) ∧ Below w.heap.size w w' := by
  cases hr : (a.right && b.right)
  · exact labelTurns_no a b c hfa hfb hfc hr w hg
  · cases hc : c.right
    · exact labelTurns_yes_no a b c hfa hfb hfc hr hc w hg
    · exact labelTurns_yes_yes a b c hfa hfb hfc hr hc w hg

end Go.Proofs.YtafghaceahchhaaDoor
