/- What is known: shown; the first lines: Few. -/
import Derived.Test.YtpaaeojojbdikaaDoorLgBook
namespace Go.Proofs.YtpaaeojojbdikaaDoor
open Go.RowKit Go.Proofs.Cats Go.Proofs.Lgr Go.Shelf Go.Sort

/-- It tells true, and leaves all as it was. -/
def TruePost (w : World) (e : Ending) (w' : World) : Prop := e = .returned (.bool true) ∧ Below w.heap.size w w'
/-- A value, all else as it was. -/
def ValP (v : Value) (w : World) (e : Ending) (w' : World) : Prop := e = .returned v ∧ Below w.heap.size w w'
theorem botP (w : World) : Calls Tryd.prog 29 #[] w (ValP (.agg #[.int .i64 0, .int .u64 0, .int .i64 7]) w) := bottom_any w
theorem Charge_bot (q n : Int) (ao : Option Addr) (len cap : Nat) (zs : List Ln) (r : List Ln × Int) (hr : chargeL zs q Lab.bot n = r) (w : World) (hL : Lns w ao len cap zs) (hg : ErrT w) :
    Calls Tryd.prog 23 #[.slice ao len cap, .int .i64 q, .agg #[.int .i64 0, .int .u64 0, .int .i64 7], .int .i64 n] w (TopP r w) := by
  have := Charge_any Lab.bot Lab.fits_bot q n ao len cap zs w hL hg
  rw [hr] at this
  exact this
theorem Refund_bot (n : Int) (ao : Option Addr) (len cap : Nat) (zs : List Ln) (r : List Ln × Int) (hr : refundL zs Lab.bot n = r) (w : World) (hL : Lns w ao len cap zs) (hg : ErrT w) :
    Calls Tryd.prog 25 #[.slice ao len cap, .agg #[.int .i64 0, .int .u64 0, .int .i64 7], .int .i64 n] w (TopP r w) := by
  have := Refund_any Lab.bot Lab.fits_bot n ao len cap zs w hL hg
  rw [hr] at this
  exact this
theorem Total_any (ao : Option Addr) (len cap : Nat) (zs : List Ln) (hreach : len ≤ 1000000) (w : World) (hL : Lns w ao len cap zs) : Calls Tryd.prog 20 #[.slice ao len cap] w (IntP (totalL zs) w) := callsIn_wide.1 (total_in 3 (Nat.le_refl _) ao len cap zs hreach w hL)
theorem one_fits (u : Int) : ∀ x ∈ [(⟨Lab.bot, u⟩ : Ln)], x.a.fits := fun x hx => by
  obtain rfl : x = ⟨Lab.bot, u⟩ := by simpa using hx
  exact Lab.fits_bot

theorem sh1 : chargeL [] 9 Lab.bot 5 = ([⟨Lab.bot, 5⟩], 0) := by rfl
theorem sh2 : chargeL [⟨Lab.bot, 5⟩] 9 Lab.bot 3 = ([⟨Lab.bot, 8⟩], 0) := by rfl
theorem sh3 : chargeL [⟨Lab.bot, 8⟩] 9 Lab.bot 2 = ([], 70) := by rfl
theorem sh4 : refundL [⟨Lab.bot, 8⟩] Lab.bot 8 = ([], 0) := by rfl
theorem sh5 : totalL [⟨Lab.bot, 8⟩] = 8 := by rfl

set_option maxRecDepth 100000 in
set_option maxHeartbeats 4000000 in
theorem shown_any (w : World) (hg : ErrT w) : Calls Tryd.prog 11 #[] w (TruePost w) := by
  have HG := Lib.hid hg
  clear hg
  go_enter Tryd.func11, Tryd.ntmps11
  go_wp2_with (go_at_call 29; refine (botP _).mono ?_)
  rintro e w1 ⟨rfl, hb1⟩
  have H1 := Lib.hid hb1
  have G1 := Lib.hid (HG.out.more hb1)
  clear hb1
  go_wp2_with (go_at_call 23; refine (Charge_bot 9 5 none 0 0 [] _ sh1 w1 (Lns.nil _) G1.out).mono ?_)
  rintro e w2 ⟨a2, c2, rfl, hO2, hb2⟩
  have L2 := Lib.hid (hO2.lns rfl (one_fits 5))
  have H2 := Lib.hid (below_more H1.out hb2)
  have G2 := Lib.hid (G1.out.more hb2)
  clear hO2 hb2
  go_wp2_with (go_at_call 29; refine (botP _).mono ?_)
  rintro e w3 ⟨rfl, hb3⟩
  have L3 := Lib.hid (L2.out.more hb3)
  have H3 := Lib.hid (below_more H2.out hb3)
  have G3 := Lib.hid (G2.out.more hb3)
  clear hb3
  go_wp2_with (go_at_call 23; refine (Charge_bot 9 3 a2 1 c2 _ _ sh2 w3 L3.out G3.out).mono ?_)
  rintro e w4 ⟨a4, c4, rfl, hO4, hb4⟩
  have L4 := Lib.hid (hO4.lns rfl (one_fits 8))
  have H4 := Lib.hid (below_more H3.out hb4)
  have G4 := Lib.hid (G3.out.more hb4)
  clear hO4 hb4
  go_wp2_with (go_at_call 29; refine (botP _).mono ?_)
  rintro e w5 ⟨rfl, hb5⟩
  have L5 := Lib.hid (L4.out.more hb5)
  have H5 := Lib.hid (below_more H4.out hb5)
  have G5 := Lib.hid (G4.out.more hb5)
  clear hb5
  go_wp2_with (go_at_call 23; refine (Charge_bot 9 2 a4 1 c4 _ _ sh3 w5 L5.out G5.out).mono ?_)
  rintro e w6 ⟨a6, c6, rfl, hO6, hb6⟩
  have L6 := Lib.hid (L5.out.more hb6)
  have H6 := Lib.hid (below_more H5.out hb6)
  have G6 := Lib.hid (G5.out.more hb6)
  clear hO6 hb6
  go_wp2_with (go_at_call 29; refine (botP _).mono ?_)
  rintro e w7 ⟨rfl, hb7⟩
  have L7 := Lib.hid (L6.out.more hb7)
  have H7 := Lib.hid (below_more H6.out hb7)
  have G7 := Lib.hid (G6.out.more hb7)
  clear hb7
  go_wp2_with (go_at_call 25; refine (Refund_bot 8 a4 1 c4 _ _ sh4 w7 L7.out G7.out).mono ?_)
  rintro e w8 ⟨a8, c8, rfl, hO8, hb8⟩
  have L8 := Lib.hid (L7.out.more hb8)
  have H8 := Lib.hid (below_more H7.out hb8)
  clear hO8 hb8
  obtain ⟨b, off, rfl, _, hcs⟩ := L8.out.at (by exact Nat.zero_lt_one)
  obtain ⟨_, _, _, q3⟩ := hcs 0 _ rfl
  rw [Nat.zero_mul, Nat.add_zero] at q3
  have HT := Lib.hid (Total_any _ 1 c4 _ (by omega) w8 L8.out)
  rw [sh5] at HT
  clear hcs
  go_wp2_with (go_at_call 20; refine HT.out.mono ?_)
  rintro e w9 ⟨rfl, hb9⟩
  have H9 := Lib.hid (below_more H8.out hb9)
  clear hb9
  go_wp2
  go_ret
  exact ⟨rfl, H9.out⟩

theorem slice_first (ao : Option Addr) (len cap k : Nat) (hk : k ≤ cap) (W : World) : (Instr.slice 22 (.slice ao len cap) none (some (.int .i64 (k : Int))) none).run Tryd.prog W = .ok (.slice ao k cap) W := by
  have hel : Tryd.prog.elem 22 = 43 := by kernel_rfl
  rw [run_slice_h W _ ao len cap (by kernel_rfl) .i64 (k : Int) (by omega) (by omega), hel, sizeLn]
  simp only [Result.andThen, sliced, Int.toNat_natCast, Nat.sub_zero, Nat.zero_mul]
  split
  · rfl
  · cases ao with
    | none => rfl
    | some x => simp [add_zero']
/-- Few cuts. -/
def FewP (ao : Option Addr) (k cap : Nat) (w : World) (e : Ending) (w' : World) : Prop := e = .returned (.slice ao k cap) ∧ Below w.heap.size w w'
set_option maxHeartbeats 1000000 in
theorem few_any (ao : Option Addr) (len cap : Nat) (hl : len ≤ cap) (hm : cap ≤ maxLen) (w : World) : Calls Tryd.prog 12 #[.slice ao len cap] w (FewP ao (min len 42) cap w) := by
  have hcm : cap ≤ 9223372036854775807 := by unfold maxLen at hm; exact hm
  by_cases h : len ≤ 42
  · have hs := slice_first ao len cap len hl
    rw [Nat.min_eq_left h]
    have h1 : min (len : Int) 42 = len := by omega
    go_enter Tryd.func12, Tryd.ntmps12
    go_wp2
    go_ret
    exact ⟨rfl, Below.refl _ _⟩
  · have hs := slice_first ao len cap 42 (by omega)
    rw [Nat.min_eq_right (by omega)]
    have h1 : min (len : Int) 42 = 42 := by omega
    go_enter Tryd.func12, Tryd.ntmps12
    go_wp2
    go_ret
    exact ⟨rfl, Below.refl _ _⟩

end Go.Proofs.YtpaaeojojbdikaaDoor
