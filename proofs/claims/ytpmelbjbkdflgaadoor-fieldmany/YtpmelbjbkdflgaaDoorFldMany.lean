/- Unpack; the document's Pack, Unpack, Nums; the first twenty. -/
import Derived.Test.YtpmelbjbkdflgaaDoorFldRef2
import Derived.Test.YtpmelbjbkdflgaaDoorFldShown
namespace Go.Proofs.YtpmelbjbkdflgaaDoor
open Go.RowKit Go.Shelf Go.Proofs.Fld

def unpackRes (ws : List Int) (l : List UInt8) : List Nat × List UInt8 × Int := if numsC ws l = 0 then (numsL ws l, numsR ws l, 0) else ([], [], numsC ws l)

/-- A new slice of numbers, what is behind, and the code. -/
def UnpackPost (r : List Nat × List UInt8 × Int) (w : World) (e : Ending) (w' : World) : Prop :=
  ∃ (a : Option Addr) (cap : Nat), e = .returned (.tuple #[.slice a r.1.length cap, .string (bs r.2.1), .int .i64 r.2.2]) ∧ SlI .u64 w'.heap.size w' a (r.1.map fun (x : Nat) => (x : Int)) ∧ Below w.heap.size w w'

theorem slI_row {W : World} {base : Nat} {a : Option Addr} {n cap : Nat} {l : List Nat} (h : W.ownsRow base 22 1 (.slice a n cap) l.length (u64s l)) : SlI .u64 W.heap.size W a (l.map fun (x : Nat) => (x : Int)) := by
  intro j hj
  rw [List.length_map] at hj
  rcases h.2 with ⟨_, h0⟩ | ⟨g, c, cur, hv, _, hg, _⟩
  · omega
  · obtain ⟨rfl, _, _⟩ := Value.slice.inj hv
    have hc := World.ownsRow.cells h (g := g) rfl j (.int .u64 ((l[j] : Nat) : Int)) (by simp [u64s, hj])
    refine ⟨g, 0, rfl, (Array.getElem?_eq_some_iff.1 hg).1, ?_⟩
    rw [List.getElem_map]
    have e : ((⟨g, 0, none⟩ : Addr).add j) = ⟨g, 0 + j, none⟩ := by
      unfold Addr.add
      by_cases hj0 : j = 0
      · subst hj0; simp
      · simp [hj0]
    rw [← e]
    exact hc
theorem slI_nil (q : IntKind) (B : Nat) (w : World) (a : Option Addr) : SlI q B w a [] := fun j hj => by simp at hj
theorem SlI.drew {q : IntKind} {B : Nat} {w : World} {a : Option Addr} {zs : List Int} (h : SlI q B w a zs) : SlI q B w.drew a zs := h

set_option maxRecDepth 100000 in
set_option maxHeartbeats 1000000 in
theorem unpack_any (s : Sn) (ws : List Int) (hN : ws.length ≤ 1048576) (hww : ∀ k ∈ ws, (Lit.int .i64 k).wf = true) (l : List UInt8) (aw : Option Addr) (cw : Nat) (w : World) (hs : Sent s w) (hW : SlI .i64 w.heap.size w aw ws) :
    Calls Tryd.prog 23 #[.slice aw ws.length cw, .string (bs l)] w (UnpackPost (unpackRes ws l) w) := by
  have hB : Below w.heap.size w (w.alloc (.cells #[.string (bs l)] 60)) := Below.new w _
  have HP := Lib.hid ((callsIn_wide (n := 3)).1 (nums_in 3 (by omega) s ws.length ws rfl hN hww w.heap.size hs.apart l aw cw _ (hs.alloc _) (Boxed.new _ _ _) ((hW.below hB (Nat.le_refl _)).more (by simp))))
  have HS := Lib.hid hs
  clear hs hW hww
  by_cases hz : numsC ws l = 0
  · have hr : unpackRes ws l = (numsL ws l, numsR ws l, 0) := by unfold unpackRes; rw [if_pos hz]
    have HR := Lib.hid (And.intro hr hz)
    clear hr hz
    go_enter Tryd.func23, Tryd.ntmps23
    go_wp2_with (go_at_call 29; refine (read_any l w).mono ?_; rintro e w' ⟨rfl, rfl⟩)
    go_wp2_with (go_at_call 32; refine HP.out.mono ?_)
    rintro e w1 ⟨v, ev, hev, rfl, hg, hok⟩
    rw [HR.out.2] at hev
    obtain rfl := errIs_zero hev
    obtain ⟨hrow, hrd⟩ := hok HR.out.2
    have cr := hrd.cell
    obtain ⟨va, vc, rfl⟩ := row_slice hrow
    have hsl := Lib.hid (slI_row hrow)
    have hb := below_read hg
    clear hok hrd hev hg hrow
    go_wp2
    go_region
    all_goals
      go_wp2
      go_ret3
      rw [HR.out.1]
      exact ⟨va, vc, rfl, hsl.out.drew, below_drew hb⟩
  · have hr : unpackRes ws l = ([], [], numsC ws l) := by unfold unpackRes; rw [if_neg hz]
    have HR := Lib.hid (And.intro hr hz)
    clear hr hz
    go_enter Tryd.func23, Tryd.ntmps23
    go_wp2_with (go_at_call 29; refine (read_any l w).mono ?_; rintro e w' ⟨rfl, rfl⟩)
    go_wp2_with (go_at_call 32; refine HP.out.mono ?_)
    rintro e w1 ⟨v, ev, hev, rfl, hg, hok⟩
    obtain ⟨fv, rfl⟩ := errIs_some hev HR.out.2
    have HX := Lib.hid hev
    have hb := below_read hg
    clear hok hev hg
    go_wp2_with (go_at_call 27; refine (told_any s HX.out w1 (HS.out.more hb)).mono ?_)
    rintro e w2 ⟨rfl, b2⟩
    go_wp2
    go_ret3
    rw [HR.out.1]
    exact ⟨none, 0, rfl, slI_nil _ _ _ _, below_more hb b2⟩

set_option maxHeartbeats 1000000 in
theorem few20 (ws : List Int) (hN : ws.length ≤ 9223372036854775807) (aw : Option Addr) (cw : Nat) (hc : ws.length ≤ cw) (hcm : cw ≤ 9223372036854775807) (w : World) :
    Calls Tryd.prog 21 #[.slice aw ws.length cw] w fun e w' => e = .returned (.slice aw (ws.take 20).length cw) ∧ w = w' := by
  by_cases h : ws.length ≤ 20
  · have ht : (ws.take 20).length = ws.length := by rw [List.length_take]; omega
    have hm : min (ws.length : Int) 20 = (ws.length : Int) := by omega
    have HT := Lib.hid ht
    clear ht
    go_enter Tryd.func21, Tryd.ntmps21
    go_wp2
    go_ret
    exact ⟨by rw [HT.out]; rfl, rfl⟩
  · have ht : (ws.take 20).length = 20 := by rw [List.length_take]; omega
    have hm : min (ws.length : Int) 20 = 20 := by omega
    have HT := Lib.hid ht
    clear ht
    go_enter Tryd.func21, Tryd.ntmps21
    go_wp2
    go_ret
    exact ⟨by rw [HT.out]; rfl, rfl⟩

end Go.Proofs.YtpmelbjbkdflgaaDoor
