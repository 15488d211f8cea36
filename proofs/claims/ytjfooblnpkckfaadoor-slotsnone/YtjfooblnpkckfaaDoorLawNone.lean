/- SlotsNone: the walk. -/
import Derived.Test.YtjfooblnpkckfaaDoorSlShown
namespace Go.Proofs.YtjfooblnpkckfaaDoor
open Go.RowKit Go.Proofs.Slt Go.Shelf

set_option maxRecDepth 100000 in
set_option maxHeartbeats 2000000 in
theorem none_walk (t : Sn) (a b : Int) (w : World) (hc : Ctx t w.heap.size w) : Calls Tryd.prog 7 #[.agg #[.int .i64 a, .int .i64 b]] w (TruePost w) := by
  have hb0 := Below.new w (.cells #[.int .i64 a, .int .i64 b] 32)
  have HC := Lib.hid (hc.more hb0)
  have HV := Lib.hid (H2.new w a b)
  have HB := Lib.hid hb0
  clear hc hb0
  go_enter Tryd.func7, Tryd.ntmps7
  go_wp2_with (go_at_call 9; refine (shown_any t w.heap.size _ HC.out).mono ?_)
  rintro e w1 ⟨rfl, hb1⟩
  have HB1 := Lib.hid (below_more HB.out hb1)
  have HV1 := Lib.hid (HV.out.more hb1)
  clear hb1
  go_wp2_with (go_at_call 12; refine (Take_nil w1).mono ?_)
  rintro e w2 ⟨rfl, hb2⟩
  have HB2 := Lib.hid ((below_more HB1.out hb2).alloc (Nat.le_trans HB1.out.size hb2.size) (.cells #[.int .i64 0, .int .i64 0] 32))
  have hv := (HV1.out.more hb2).more (Below.new w2 (.cells #[.int .i64 0, .int .i64 0] 32))
  have c0 := hv.1
  have c1 := hv.2
  have HV2 := Lib.hid hv
  clear hb2 hv
  go_wp2_with (go_at_call 16; refine (Give_nil a b _).mono ?_)
  rintro e w3 ⟨rfl, hb3⟩
  have HB3 := Lib.hid (below_more HB2.out hb3)
  have hv := HV2.out.more hb3
  clear c0 c1
  have c0 := hv.1
  have c1 := hv.2
  clear hb3 hv
  go_wp2_with (go_at_call 14; refine (Live_nil a b _).mono ?_)
  rintro e w4 ⟨rfl, hb4⟩
  have HB4 := Lib.hid (below_more HB3.out hb4)
  clear hb4
  go_wp2_with (first
    | (go_at_call 21; refine (Used_nil w4).mono ?_; rintro e w' ⟨rfl, rfl⟩)
    | (go_at_call 20; refine (All_nil w4).mono ?_; rintro e w' ⟨rfl, rfl⟩))
  go_ret
  exact ⟨rfl, HB4.out⟩

end Go.Proofs.YtjfooblnpkckfaaDoor
