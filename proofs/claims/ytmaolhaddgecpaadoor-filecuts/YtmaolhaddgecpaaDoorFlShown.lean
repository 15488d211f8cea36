/- cut: the first bytes; what is known: shown. -/
import Derived.Test.YtmaolhaddgecpaaDoorFlApi
namespace Go.Proofs.YtmaolhaddgecpaaDoor
open Go.RowKit Go.Proofs.Fld Go.Proofs.Fil Go.Shelf Go.Sort

/-- It tells a text, and leaves all as it was. -/
def CutP (x : It) (w : World) (e : Ending) (w' : World) : Prop := e = .returned (.string (bs x)) ∧ w = w'
theorem lcut_any (x : It) (hx : x.length ≤ 9223372036854775807) (w : World) : Calls Tryd.prog 11 #[.string (bs x)] w (CutP (x.take 1010) w) := by
  have hz := bs_size x
  by_cases h : x.length ≤ 1010
  · have hs := str_upto x x.length (Nat.le_refl _)
    rw [List.take_of_length_le (Nat.le_refl _)] at hs
    rw [List.take_of_length_le h]
    have h1 : min (x.length : Int) 1010 = x.length := by omega
    have h2 : ¬ ((1010 : Int) < (x.length : Int)) := by omega
    go_enter Tryd.func11, Tryd.ntmps11
    go_wp2
    go_ret
    exact ⟨rfl, rfl⟩
  · have hs := str_upto x 1010 (by omega)
    have h1 : min (x.length : Int) 1010 = 1010 := by omega
    have h2 : ((1010 : Int) < (x.length : Int)) := by omega
    rw [show ((1010 : Nat) : Int) = 1010 from rfl] at hs
    go_enter Tryd.func11, Tryd.ntmps11
    go_wp2
    go_ret
    exact ⟨rfl, rfl⟩
/-- It tells a text that is written out, and a number. -/
def AnsL (x : ByteArray) (c : Int) (w : World) (e : Ending) (w' : World) : Prop := e = .returned (.tuple #[.string x, .int .i64 c]) ∧ Below w.heap.size w w'
theorem shown1 {w : World} (hg : ErrT w) : Calls Tryd.prog 12 #[.string { data := #[97, 98, 99, 100] }, .int .i64 3, .string { data := #[120, 121] }] w (AnsL { data := #[97, 98, 99, 120, 121] } 0 w) :=
  Write_p (s := [97, 98, 99, 100]) (o := 3) (t := [120, 121]) (r := some [97, 98, 99, 120, 121]) (x := [97, 98, 99, 120, 121]) (c := 0) (by decide) (by decide) rfl rfl hg
theorem shown2 {w : World} (hg : ErrT w) : Calls Tryd.prog 14 #[.string { data := #[97, 98, 99, 100] }, .int .i64 1, .int .i64 9] w (AnsL { data := #[98, 99, 100] } 0 w) :=
  Read_p (s := [97, 98, 99, 100]) (o := 1) (n := 9) (r := some [98, 99, 100]) (x := [98, 99, 100]) (c := 0) (by decide) rfl rfl hg
theorem shown3 {w : World} (hg : ErrT w) : Calls Tryd.prog 18 #[.string { data := #[97, 98, 99, 100] }, .int .i64 2] w (AnsL { data := #[97, 98] } 0 w) :=
  Cut_p (s := [97, 98, 99, 100]) (n := 2) (r := some [97, 98]) (x := [97, 98]) (c := 0) (by decide) rfl rfl hg
theorem shown4 {w : World} (hg : ErrT w) : Calls Tryd.prog 20 #[.string { data := #[97, 98, 99, 100] }, .int .i64 1, .int .i64 2, .string { data := #[120] }] w (AnsL { data := #[97, 120, 100] } 0 w) :=
  Splice_p (s := [97, 98, 99, 100]) (o := 1) (n := 2) (t := [120]) (r := some [97, 120, 100]) (x := [97, 120, 100]) (c := 0) (by decide) (by decide) rfl rfl hg
theorem shown5 {w : World} (hg : ErrT w) : Calls Tryd.prog 12 #[.string { data := #[97, 98, 99, 100] }, .int .i64 5, .string { data := #[120] }] w (AnsL { data := #[] } 90 w) :=
  Write_p (s := [97, 98, 99, 100]) (o := 5) (t := [120]) (r := none) (x := []) (c := 90) (by decide) (by decide) rfl rfl hg
set_option maxRecDepth 100000 in
set_option maxHeartbeats 4000000 in
theorem shown_any (w : World) (hg : ErrT w) : Calls Tryd.prog 10 #[] w (BoolP true w) := by
  have HG := Lib.hid (And.intro hg (Below.refl w.heap.size w))
  clear hg
  go_enter Tryd.func10, Tryd.ntmps10
  go_wp2_with (go_at_call 12; refine (shown1 HG.out.1).mono ?_)
  rintro e w1 ⟨rfl, hb⟩
  replace HG := Lib.hid (And.intro (HG.out.1.more hb) (below_more HG.out.2 hb))
  clear hb
  go_wp2_with (go_at_call 14; refine (shown2 HG.out.1).mono ?_)
  rintro e w2 ⟨rfl, hb⟩
  replace HG := Lib.hid (And.intro (HG.out.1.more hb) (below_more HG.out.2 hb))
  clear hb
  go_wp2_with (go_at_call 18; refine (shown3 HG.out.1).mono ?_)
  rintro e w3 ⟨rfl, hb⟩
  replace HG := Lib.hid (And.intro (HG.out.1.more hb) (below_more HG.out.2 hb))
  clear hb
  go_wp2_with (go_at_call 20; refine (shown4 HG.out.1).mono ?_)
  rintro e w4 ⟨rfl, hb⟩
  replace HG := Lib.hid (And.intro (HG.out.1.more hb) (below_more HG.out.2 hb))
  clear hb
  go_wp2_with (go_at_call 12; refine (shown5 HG.out.1).mono ?_)
  rintro e w5 ⟨rfl, hb⟩
  replace HG := Lib.hid (And.intro (HG.out.1.more hb) (below_more HG.out.2 hb))
  clear hb
  go_wp2
  go_ret
  exact ⟨rfl, HG.out.2⟩
end Go.Proofs.YtmaolhaddgecpaaDoor
