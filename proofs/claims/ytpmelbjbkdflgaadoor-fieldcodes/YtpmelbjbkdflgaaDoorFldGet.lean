/- The reader's other functions; Get, GetText, PutText, Unpack. -/
import Derived.Test.YtpmelbjbkdflgaaDoorFldNums
import Derived.Test.YtpmelbjbkdflgaaDoorFldPut
namespace Go.Proofs.YtpmelbjbkdflgaaDoor
open Go.RowKit Go.Shelf Go.Proofs.Fld

set_option maxHeartbeats 1000000 in
theorem read_any (l : List UInt8) (w : World) : Calls Tryd.prog 29 #[.string (bs l)] w fun e w' => e = .returned (.pointer (some ⟨w.heap.size, 0, none⟩)) ∧ w' = w.alloc (.cells #[.string (bs l)] 60) := by
  go_enter Tryd.func29, Tryd.ntmps29
  go_wp2
  go_ret
  exact ⟨rfl, rfl⟩

set_option maxHeartbeats 1000000 in
theorem cut_any (R : Nat) (l : List UInt8) (k : Nat) (hk : k ≤ l.length) (w : World) (hR : Rd w R l) :
    Calls Tryd.prog 39 #[.pointer (some ⟨R, 0, none⟩), .int .i64 (k : Int)] w fun e w' => e = .returned (.string (bs (l.take k))) ∧ w.grownBy w' (some R) ∧ Rd w' R (l.drop k) := by
  have c := hR.cell
  have f := hR.frozen
  have h1 := str_upto l k hk
  have h2 := str_from l k hk
  go_enter Tryd.func39, Tryd.ntmps39
  go_wp2
  go_ret
  exact ⟨rfl, grownBy_setCell' w R _, hR.set _⟩

/-- A number that a reader tells. -/
def NumPost (s : Sn) (R : Nat) (k : Int) (l : List UInt8) (w : World) (e : Ending) (w' : World) : Prop :=
  ∃ (x : Nat) (ev : Value), ErrIs s ev (getC k l) ∧ e = .returned (.tuple #[.int .u64 (x : Int), ev]) ∧ w.grownBy w' (some R) ∧ (getC k l = 0 → x = dec 0 (l.take k.toNat) ∧ Rd w' R (l.drop k.toNat))

theorem errIs_zero {s : Sn} {v : Value} (h : ErrIs s v 0) : v = .nilIface := by
  generalize hc : (0 : Int) = c at h
  cases h with
  | ok => rfl
  | width k => exact absurd hc (by decide)
  | few k => exact absurd hc (by decide)
  | great k => exact absurd hc (by decide)
theorem errIs_some {s : Sn} {v : Value} {c : Int} (h : ErrIs s v c) (hc : c ≠ 0) : ∃ x, v = .iface 62 x := by
  cases h with
  | ok => exact absurd rfl hc
  | width k => exact ⟨_, rfl⟩
  | few k => exact ⟨_, rfl⟩
  | great k => exact ⟨_, rfl⟩
theorem numsC_one (k : Int) (l : List UInt8) : numsC [k] l = getC k l := by
  by_cases h : getC k l = 0 <;> simp [numsC, h]

set_option maxHeartbeats 1000000 in
theorem number_any (s : Sn) (k : Int) (hk : (Lit.int .i64 k).wf = true) (R : Nat) (hsn : s.w.block ≠ R ∧ s.f.block ≠ R ∧ s.g.block ≠ R) (l : List UInt8) (w : World) (hs : Sent s w) (hR : Rd w R l) :
    Calls Tryd.prog 30 #[.pointer (some ⟨R, 0, none⟩), .int .i64 k] w (NumPost s R k l w) := by
  have hRl : R < w.heap.size := Boxed.lt hR
  have hB : Below w.heap.size w (w.alloc (.cells #[.int .i64 k] 3)) := Below.new w _
  have hp := (callsIn_wide (n := 3)).1 (nums_in 3 (by omega) s 1 [k] rfl (by omega) (by simpa using hk) R hsn l (some ⟨w.heap.size, 0, none⟩) 1 _ (hs.more hB) ((hB.block R hRl).trans hR) ((slI_one .i64 k 3 w).more (by simp)))
  have HP := Lib.hid hp
  clear hp hs hR hk hsn
  go_enter Tryd.func30, Tryd.ntmps30
  go_wp2_with (go_at_call 32; refine HP.out.mono ?_)
  rintro e w1 ⟨v, ev, hev, rfl, hg, hok⟩
  have hg2 : w.grownBy w1 (some R) := only_trans (only_of R hB) hg
  rw [numsC_one] at hev hok
  by_cases hz : getC k l = 0
  · obtain ⟨hrow, hrd⟩ := hok hz
    have hev2 := hev
    rw [hz] at hev2
    obtain rfl := errIs_zero hev2
    have hn1 : (numsL [k] l).length = 1 := rfl
    rw [hn1] at hrow
    obtain ⟨g, cap, rfl⟩ := ownsRow_succ hrow
    have hc := World.ownsRow.cells hrow (g := g) rfl 0 (.int .u64 ((dec 0 (l.take k.toNat) : Nat) : Int)) rfl
    have hc0 : w1.cell? ⟨g, 0, none⟩ = some (.int .u64 ((dec 0 (l.take k.toNat) : Nat) : Int)) := hc
    have HX := Lib.hid (And.intro hev (And.intro hrd hz))
    clear hev hrd hrow hok hz hc hev2 hn1
    go_wp2
    go_ret2
    exact ⟨_, _, HX.out.1, rfl, hg2, fun _ => ⟨rfl, HX.out.2.1⟩⟩
  · obtain ⟨fv, rfl⟩ := errIs_some hev hz
    have HX := Lib.hid (And.intro hev hz)
    clear hev hok hz
    obtain ⟨va, rfl⟩ : ∃ va, v = va := ⟨_, rfl⟩
    go_wp2
    go_ret2
    exact ⟨0, _, HX.out.1, rfl, hg2, fun h => absurd h HX.out.2⟩

end Go.Proofs.YtpmelbjbkdflgaaDoor
