/- judge: is it a ledger? -/
import Derived.Test.YtpaaeojojbdikaaDoorLgRows
namespace Go.Proofs.YtpaaeojojbdikaaDoor
open Go.RowKit Go.Proofs.Cats Go.Proofs.Lgr Go.Shelf Go.Sort

/-- What is wrong: the number that callers are told, and why. -/
def flt (k : Int) (s : ByteArray) : Value := .iface 68 (.agg #[.int .i64 k, .string s])
/-- What judge tells. -/
def JudgeP (b : Bool) (w : World) (e : Ending) (w' : World) : Prop := ((b = true ∧ e = .returned .nilIface) ∨ (b = false ∧ ∃ s, e = .returned (flt 20 s))) ∧ Below w.heap.size w w'

theorem good_no_line {l : List Ln} {k : Nat} {x : Ln} (hx : l[k]? = some x) (h : lineOk x = false) : goodAt l k = false := by
  unfold goodAt; rw [hx]; simp [h]
theorem good_zero {l : List Ln} {x : Ln} (hx : l[0]? = some x) (h : lineOk x = true) : goodAt l 0 = true := by
  unfold goodAt; rw [hx]; simp [h]
theorem good_succ {l : List Ln} {k : Nat} {x y : Ln} (hx : l[k + 1]? = some x) (hy : l[k]? = some y) (h : lineOk x = true) : goodAt l (k + 1) = y.a.ahead x.a := by
  unfold goodAt; rw [hx]; simp [h, hy]
theorem ok_right {x : Ln} (h : x.a.right = false) : lineOk x = false := by unfold lineOk; rw [h]; rfl
theorem ok_used {x : Ln} (h : x.u < 1 ∨ 100000 < x.u) : lineOk x = false := by
  cases e : lineOk x
  · rfl
  · have := (lineOk_iff x).1 e; omega

/-- judge between two rounds. -/
structure JdI (l : List Ln) (k : Nat) (w wr : World) : Prop where
  good : ∀ j, j < k → goodAt l j = true
  below : Below w.heap.size w wr
theorem JdI.next {l : List Ln} {k : Nat} {w wr w' : World} (h : JdI l k w wr) (hg : goodAt l k = true) (hb : Below wr.heap.size wr w') : JdI l (k + 1) w w' :=
  ⟨fun j hj => if e : j = k then e ▸ hg else h.good j (by omega), below_more h.below hb⟩

set_option maxRecDepth 100000 in
set_option maxHeartbeats 4000000 in
theorem lgJudge_any (a : Option Addr) (len cap : Nat) (l : List Ln) (w : World) (hL : Lns w a len cap l) :
    Calls Tryd.prog 30 #[.slice a len cap] w (JudgeP (rightL l) w) := by
  have hcap := hL.hmax
  have hle := hL.hle
  have hm : maxLen = 9223372036854775807 := by unfold maxLen; rfl
  have hll := hL.hlen
  by_cases hbig : 1000 < len
  · have HR := Lib.hid (rightL_long (l := l) (by omega))
    clear hL hll
    go_enter Tryd.func30, Tryd.ntmps30
    go_wp2
    go_ret
    exact ⟨.inr ⟨HR.out, _, rfl⟩, Below.refl _ _⟩
  · have hd : decide ((len : Int) > 1000) = false := decide_eq_false (by omega)
    have HLL := Lib.hid hll
    have HL := Lib.hid hL
    clear hL hll
    go_enter Tryd.func30, Tryd.ntmps30
    go_wp2
    go_loopw [12] (fun v wr => ∃ k : Nat, k ≤ len ∧ v = .int .i64 k ∧ JdI l k w wr) (fun v _ => len - (intOf v).toNat)
    case atStart => exact ⟨0, Nat.zero_le _, rfl, fun j hj => absurd hj (by omega), Below.refl _ _⟩
    case round =>
      obtain ⟨k, hk, rfl, hI⟩ := hrel
      have HI := Lib.hid hI
      clear hI
      by_cases hlt : k < len
      · obtain ⟨x, hx⟩ : ∃ x, l[k]? = some x := ⟨_, List.getElem?_eq_getElem (by rw [HLL.out]; exact hlt)⟩
        obtain ⟨b, off, rfl, hb, hcs⟩ := HL.out.at (by omega)
        have hfx := HL.out.hfits x (List.mem_of_getElem? hx)
        obtain ⟨q0, q1, q2, q3⟩ := (hcs k x hx).of_block (HI.out.below.block b hb)
        have HX := Lib.hid hx
        have HC := Lib.hid hcs
        have HN := Lib.hid (Below.new wr (.cells #[.int .i64 x.a.l, .int .u64 x.a.c, .int .i64 x.a.i, .int .i64 x.u] 43))
        clear hx hcs
        go_wp2_with fail
        refine (right_any x.a hfx _).mono ?_
        rintro e w1 ⟨he, hb1⟩
        have HB1 := Lib.hid (below_more HN.out hb1)
        have d0 : w1.cell? ⟨wr.heap.size, 0, none⟩ = some (.int .i64 x.a.l) := cell_later hb1 (by simp)
        have d1 : w1.cell? ⟨wr.heap.size, 1, none⟩ = some (.int .u64 x.a.c) := cell_later hb1 (by simp)
        have d2 : w1.cell? ⟨wr.heap.size, 2, none⟩ = some (.int .i64 x.a.i) := cell_later hb1 (by simp)
        have d3 : w1.cell? ⟨wr.heap.size, 3, none⟩ = some (.int .i64 x.u) := cell_later hb1 (by simp)
        clear hb1
        cases hr : x.a.right with
        | false =>
          rw [hr] at he
          subst he
          have HG := Lib.hid (rightL_bad (good_no_line HX.out (ok_right hr)))
          clear hr
          go_wp2
          go_ret
          exact ⟨.inr ⟨HG.out, _, rfl⟩, below_more HI.out.below HB1.out⟩
        | true =>
          rw [hr] at he
          subst he
          by_cases hu1 : x.u < 1
          · have HG := Lib.hid (rightL_bad (good_no_line HX.out (ok_used (.inl hu1))))
            clear hr
            go_wp2
            go_ret
            exact ⟨.inr ⟨HG.out, _, rfl⟩, below_more HI.out.below HB1.out⟩
          · by_cases hu2 : x.u > 100000
            · have HG := Lib.hid (rightL_bad (good_no_line HX.out (ok_used (.inr hu2))))
              clear hr
              go_wp2
              go_ret
              exact ⟨.inr ⟨HG.out, _, rfl⟩, below_more HI.out.below HB1.out⟩
            · have HO := Lib.hid ((lineOk_iff x).2 ⟨hr, by omega, by omega⟩)
              clear hr
              cases k with
              | zero =>
                have hk0 : decide (((0 : Nat) : Int) > 0) = false := by decide
                have HI2 := Lib.hid (HI.out.next (good_zero HX.out HO.out) HB1.out)
                go_wp2
                go_quiet (fail)
                go_wp2
                go_roundw
                case rel => exact ⟨1, by omega, by simp, ⟨HI2.out.good, below_drewN HI2.out.below nq⟩⟩
                case measure => simp [intOf]; omega
              | succ j =>
                obtain ⟨y, hy⟩ : ∃ y, l[j]? = some y := ⟨_, List.getElem?_eq_getElem (by rw [HLL.out]; omega)⟩
                obtain ⟨p0, p1, p2, _⟩ := (HC.out j y hy).of_block ((below_more HI.out.below HB1.out).block b hb)
                have hk0 : decide (((j + 1 : Nat) : Int) > 0) = true := decide_eq_true (by omega)
                have hwj : IntKind.i64.wrap (j : Int) = j := by rw [IntKind.wrap_i64]; omega
                have hjl : j < len := by omega
                have k0 := cell_regrown p0
                have k1 := cell_regrown p1
                have k2 := cell_regrown p2
                have e0 := cell_regrown d0
                have e1 := cell_regrown d1
                have e2 := cell_regrown d2
                have cC : ∀ d os, Calls Tryd.prog 45 #[.agg #[.int .i64 y.a.l, .int .u64 y.a.c, .int .i64 y.a.i], .agg #[.int .i64 x.a.l, .int .u64 x.a.c, .int .i64 x.a.i]] (grow (redrawn w1 d) os) fun e w'' => e = .returned (.int .i64 (y.a.cmp x.a)) ∧ ∃ p : Regrown, w'' = grow (redrawn w1 p.d) p.os := fun d os => Calls.regrown_of (compare_any _ _ _)
                have hge := cmp_ge y.a x.a
                cases hah : y.a.ahead x.a with
                | true =>
                  rw [hah] at hge
                  have HI2 := Lib.hid (HI.out.next ((good_succ HX.out hy HO.out).trans hah) HB1.out)
                  clear hy hah
                  go_wp2
                  refine wp_region_quiet_below (by kernel_rfl) (by kernel_rfl) ?_
                  repeat (quiet_step (first | exact cC _ _))
                  refine wpQuiet_nil ?_
                  intro _ hw'
                  obtain ⟨⟨dq, osq⟩, hw''⟩ := hw'
                  subst hw''
                  go_wp2
                  go_roundw
                  case rel => exact ⟨j + 1 + 1, by omega, by simp, ⟨HI2.out.good, below_more HI2.out.below (below_regrown w1 dq osq)⟩⟩
                  case measure => simp [intOf]; omega
                | false =>
                  rw [hah] at hge
                  have HG := Lib.hid (rightL_bad ((good_succ HX.out hy HO.out).trans hah))
                  clear hy hah
                  go_wp2
                  refine wp_region_quiet_below (by kernel_rfl) (by kernel_rfl) ?_
                  repeat (quiet_step (first | exact cC _ _))
                  refine wpQuiet_nil ?_
                  intro _ hw'
                  obtain ⟨⟨dq, osq⟩, hw''⟩ := hw'
                  subst hw''
                  go_wp2
                  go_ret
                  exact ⟨.inr ⟨HG.out, _, rfl⟩, below_more (below_more HI.out.below HB1.out) (below_regrown w1 dq osq)⟩
      · obtain rfl : k = len := by omega
        have HR := Lib.hid (rightL_all (by rw [HLL.out]; omega) (by rw [HLL.out]; exact HI.out.good))
        go_wp2
        go_ret
        exact ⟨.inl ⟨HR.out, rfl⟩, HI.out.below⟩

end Go.Proofs.YtpaaeojojbdikaaDoor
