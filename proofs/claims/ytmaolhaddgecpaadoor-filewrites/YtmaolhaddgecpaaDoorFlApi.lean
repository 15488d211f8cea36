/- The package's functions. -/
import Derived.Test.YtmaolhaddgecpaaDoorFlCut
namespace Go.Proofs.YtmaolhaddgecpaaDoor
open Go.RowKit Go.Proofs.Fld Go.Proofs.Fil Go.Shelf Go.Sort

/-- It tells the bytes x and the number c. -/
def AnsV (x : It) (c : Int) (w : World) (e : Ending) (w' : World) : Prop := e = .returned (.tuple #[.string (bs x), .int .i64 c]) ∧ Below w.heap.size w w'
set_option maxHeartbeats 1000000 in
theorem Write_p {s t : It} {o : Int} {r : Option It} {x : It} {c : Int} (ht : t.length ≤ 1000000000000000000) (hr : writeR s o t = r) (hx : txt r = x) (hc : errR r = c) {w : World} (hg : ErrT w) :
    Calls Tryd.prog 12 #[.string (bs s), .int .i64 o, .string (bs t)] w (AnsV x c w) := by
  subst hr hx hc
  go_enter Tryd.func12, Tryd.ntmps12
  go_wp2_with (go_at_call 22; refine (write_any s t o ht w).mono ?_)
  rintro e w1 ⟨v, hv, rfl, hb⟩
  have HV := Lib.hid (And.intro hv (And.intro hb (hg.more hb)))
  clear hv hb hg
  go_wp2_with (go_at_call 23; refine (told_any HV.out.1 w1 HV.out.2.2).mono ?_)
  rintro e w2 ⟨rfl, hb2⟩
  have HW := Lib.hid (below_more HV.out.2.1 hb2)
  clear hb2
  go_wp2
  refine bodyPost_ret (results_tmp2 rfl _ _ _) rfl ?_
  exact ⟨rfl, HW.out⟩
set_option maxHeartbeats 1000000 in
theorem Read_p {s : It} {o n : Int} {r : Option It} {x : It} {c : Int} (hr : readR s o n = r) (hx : txt r = x) (hc : errR r = c) {w : World} (hg : ErrT w) :
    Calls Tryd.prog 14 #[.string (bs s), .int .i64 o, .int .i64 n] w (AnsV x c w) := by
  subst hr hx hc
  go_enter Tryd.func14, Tryd.ntmps14
  go_wp2_with (go_at_call 24; refine (read_any s o n w).mono ?_)
  rintro e w1 ⟨v, hv, rfl, hb⟩
  have HV := Lib.hid (And.intro hv (And.intro hb (hg.more hb)))
  clear hv hb hg
  go_wp2_with (go_at_call 23; refine (told_any HV.out.1 w1 HV.out.2.2).mono ?_)
  rintro e w2 ⟨rfl, hb2⟩
  have HW := Lib.hid (below_more HV.out.2.1 hb2)
  clear hb2
  go_wp2
  refine bodyPost_ret (results_tmp2 rfl _ _ _) rfl ?_
  exact ⟨rfl, HW.out⟩
set_option maxHeartbeats 1000000 in
theorem Cut_p {s : It} {n : Int} {r : Option It} {x : It} {c : Int} (hr : cutR s n = r) (hx : txt r = x) (hc : errR r = c) {w : World} (hg : ErrT w) :
    Calls Tryd.prog 18 #[.string (bs s), .int .i64 n] w (AnsV x c w) := by
  subst hr hx hc
  go_enter Tryd.func18, Tryd.ntmps18
  go_wp2_with (go_at_call 25; refine (cut_any s n w).mono ?_)
  rintro e w1 ⟨v, hv, rfl, hb⟩
  have HV := Lib.hid (And.intro hv (And.intro hb (hg.more hb)))
  clear hv hb hg
  go_wp2_with (go_at_call 23; refine (told_any HV.out.1 w1 HV.out.2.2).mono ?_)
  rintro e w2 ⟨rfl, hb2⟩
  have HW := Lib.hid (below_more HV.out.2.1 hb2)
  clear hb2
  go_wp2
  refine bodyPost_ret (results_tmp2 rfl _ _ _) rfl ?_
  exact ⟨rfl, HW.out⟩
set_option maxHeartbeats 1000000 in
theorem Splice_p {s t : It} {o n : Int} {r : Option It} {x : It} {c : Int} (ht : t.length ≤ 1000000000000000000) (hr : splR s o n t = r) (hx : txt r = x) (hc : errR r = c) {w : World} (hg : ErrT w) :
    Calls Tryd.prog 20 #[.string (bs s), .int .i64 o, .int .i64 n, .string (bs t)] w (AnsV x c w) := by
  subst hr hx hc
  go_enter Tryd.func20, Tryd.ntmps20
  go_wp2_with (go_at_call 26; refine (splice_any s t o n ht w).mono ?_)
  rintro e w1 ⟨v, hv, rfl, hb⟩
  have HV := Lib.hid (And.intro hv (And.intro hb (hg.more hb)))
  clear hv hb hg
  go_wp2_with (go_at_call 23; refine (told_any HV.out.1 w1 HV.out.2.2).mono ?_)
  rintro e w2 ⟨rfl, hb2⟩
  have HW := Lib.hid (below_more HV.out.2.1 hb2)
  clear hb2
  go_wp2
  refine bodyPost_ret (results_tmp2 rfl _ _ _) rfl ?_
  exact ⟨rfl, HW.out⟩
set_option maxHeartbeats 1000000 in
theorem Append_p {s t : It} {r : Option It} {x : It} {c : Int} (ht : t.length ≤ 1000000000000000000) (hr : writeR s (s.length : Int) t = r) (hx : txt r = x) (hc : errR r = c) {w : World} (hg : ErrT w) :
    Calls Tryd.prog 16 #[.string (bs s), .string (bs t)] w (AnsV x c w) := by
  have hz := bs_size s
  have HC := Lib.hid (Write_p ht hr hx hc hg)
  clear hr hx hc hg
  go_enter Tryd.func16, Tryd.ntmps16
  go_wp2_with (go_at_call 12; refine HC.out.mono ?_)
  rintro e w1 ⟨rfl, hb⟩
  have HV := Lib.hid hb
  clear hb
  go_wp2
  refine bodyPost_ret (results_tmp2 rfl _ _ _) rfl ?_
  exact ⟨rfl, HV.out⟩
end Go.Proofs.YtmaolhaddgecpaaDoor
