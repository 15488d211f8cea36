/- What callers are told. -/
import Derived.Test.YtciohfeifihobaaDoorCeAs
import Derived.Test.YtciohfeifihobaaDoorCeIs
namespace Go.Proofs.YtciohfeifihobaaDoor
open Go.RowKit Go.Proofs.Cats Go.Proofs.Cel

/-- What callers are told, by what stops one: 0 nothing, 20 no label, 120 above the ceiling, 121 down. -/
inductive ErrIs (s : Sn) : Value → Int → Prop
  | ok : ErrIs s .nilIface 0
  | none : ErrIs s (errV s.n) 20
  | above (x : Lab) (k : Int) : ErrIs s (stopV x k s.a) 120
  | down (x : Lab) (k : Int) : ErrIs s (stopV x k s.d) 121
/-- A number is told. -/
def IntP (c : Int) (w : World) (e : Ending) (w' : World) : Prop := e = .returned (.int .i64 c) ∧ Below w.heap.size w w'

set_option maxHeartbeats 1000000 in
theorem told_nil (s : Sn) (w : World) (hs : Sent s w) : Calls Tryd.prog 30 #[.nilIface] w (IntP 0 w) := by
  have g0 := hs.cn
  have g1 := hs.ca
  have g2 := hs.cd
  go_enter Tryd.func30, Tryd.ntmps30
  go_wp2_with (go_at_call 46; refine (Cs.is_nil _ _).mono ?_; rintro e w' ⟨rfl, rfl⟩)
  go_ret
  exact ⟨rfl, Below.refl _ _⟩
set_option maxHeartbeats 1000000 in
theorem told_none (s : Sn) (w : World) (hs : Sent s w) : Calls Tryd.prog 30 #[errV s.n] w (IntP 20 w) := by
  unfold errV
  have g0 := hs.cn
  go_enter Tryd.func30, Tryd.ntmps30
  go_wp2_with (go_at_call 46; refine (Cs.is_same _ _).mono ?_; rintro e w' ⟨rfl, rfl⟩)
  go_ret
  exact ⟨rfl, Below.refl _ _⟩
set_option maxHeartbeats 1000000 in
theorem told_above (s : Sn) (x : Lab) (k : Int) (w : World) (hs : Sent s w) : Calls Tryd.prog 30 #[stopV x k s.a] w (IntP 120 w) := by
  unfold stopV
  have g0 := hs.cn
  have HS := Lib.hid hs
  clear hs
  go_enter Tryd.func30, Tryd.ntmps30
  go_wp2_with (go_at_call 46; refine (Cs.is_miss x.l x.c x.i k s.a s.n w (Ne.symm HS.out.na) HS.out.ba HS.out.bn).mono ?_)
  rintro e w1 ⟨rfl, b1⟩
  have S1 := Lib.hid (HS.out.more b1)
  have g1 := S1.out.ca
  clear g0
  go_wp2_with (go_at_call 46; refine (Cs.is_hit x.l x.c x.i k s.a w1).mono ?_)
  rintro e w2 ⟨rfl, b2⟩
  go_wp2
  go_ret
  exact ⟨rfl, below_more b1 b2⟩
set_option maxHeartbeats 1000000 in
theorem told_down (s : Sn) (x : Lab) (k : Int) (w : World) (hs : Sent s w) : Calls Tryd.prog 30 #[stopV x k s.d] w (IntP 121 w) := by
  unfold stopV
  have g0 := hs.cn
  have HS := Lib.hid hs
  clear hs
  go_enter Tryd.func30, Tryd.ntmps30
  go_wp2_with (go_at_call 46; refine (Cs.is_miss x.l x.c x.i k s.d s.n w (Ne.symm HS.out.nd) HS.out.bd HS.out.bn).mono ?_)
  rintro e w1 ⟨rfl, b1⟩
  have S1 := Lib.hid (HS.out.more b1)
  have g1 := S1.out.ca
  clear g0
  go_wp2_with (go_at_call 46; refine (Cs.is_miss x.l x.c x.i k s.d s.a w1 (Ne.symm S1.out.ad) S1.out.bd S1.out.ba).mono ?_)
  rintro e w2 ⟨rfl, b2⟩
  have S2 := Lib.hid (S1.out.more b2)
  have g2 := S2.out.cd
  have HB := Lib.hid (below_more b1 b2)
  clear g1 b1 b2
  go_wp2_with (go_at_call 46; refine (Cs.is_hit x.l x.c x.i k s.d w2).mono ?_)
  rintro e w3 ⟨rfl, b3⟩
  go_wp2
  go_ret
  exact ⟨rfl, below_more HB.out b3⟩
theorem told_any {s : Sn} {v : Value} {c : Int} {w : World} (h : ErrIs s v c) (hs : Sent s w) : Calls Tryd.prog 30 #[v] w (IntP c w) := by
  cases h
  · exact told_nil s w hs
  · exact told_none s w hs
  · exact told_above s _ _ w hs
  · exact told_down s _ _ w hs
end Go.Proofs.YtciohfeifihobaaDoor
