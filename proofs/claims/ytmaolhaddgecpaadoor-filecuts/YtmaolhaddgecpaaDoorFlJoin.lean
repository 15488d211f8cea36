/- join: the parts as one file, in new memory. -/
import Derived.Test.YtmaolhaddgecpaaDoorFlPut
namespace Go.Proofs.Fil
def txt (r : Option It) : It := r.getD []
def errR (r : Option It) : Int := if r.isSome then 0 else 90
theorem txt_none : txt none = [] := rfl
theorem errR_none : errR none = 90 := rfl
theorem txt_some (a : It) : txt (some a) = a := rfl
theorem errR_some (a : It) : errR (some a) = 0 := rfl
end Go.Proofs.Fil
namespace Go.Proofs.YtmaolhaddgecpaaDoor
open Go.RowKit Go.Proofs.Fld Go.Proofs.Fil Go.Shelf Go.Sort

/-- It tells a file, or none and an error. -/
def TwoP (r : Option It) (w : World) (e : Ending) (w' : World) : Prop :=
  ∃ v, ErrIs v (errR r) ∧ e = .returned (.tuple #[.string (bs (txt r)), v]) ∧ Below w.heap.size w w'
theorem TwoP.none {w w' : World} (s : ByteArray) (h : Below w.heap.size w w') : TwoP none w (.returned (.tuple #[.string { data := #[] }, .iface 45 (.string s)])) w' := ⟨_, .flt s, rfl, h⟩
theorem TwoP.some {w w' : World} (a : It) (h : Below w.heap.size w w') : TwoP (some a) w (.returned (.tuple #[.string (bs a), .nilIface])) w' := ⟨_, .ok, rfl, h⟩

set_option maxRecDepth 100000 in
set_option maxHeartbeats 2000000 in
theorem join_any (ao : Option Addr) (len cap : Nat) (zs : List It) (hreach : len ≤ 1000000) (hsum : tot zs ≤ 4000000000000000000) (w : World) (hL : Txs w ao len cap zs) :
    Calls Tryd.prog 29 #[.slice ao len cap] w (TwoP (joinR zs.flatten) w) := by
  obtain ⟨r, hr⟩ : ∃ r, joinR zs.flatten = r := ⟨_, rfl⟩
  rw [hr]
  have HR := Lib.hid hr
  clear hr
  have hb := Buf.new w
  have hN := Below.new w (.cells Tryd.zeroCells68 68)
  have hL1 := hL.more hN
  have hne : 0 < len → ∀ a, ao = some a → a.block ≠ w.heap.size := fun hp a e => by
    obtain ⟨b, off, e', hbl, _⟩ := hL.at hp
    rw [e] at e'
    obtain rfl := Option.some.inj e'
    simp only
    omega
  obtain ⟨W1, hW1⟩ : ∃ W1, w.alloc (.cells Tryd.zeroCells68 68) = W1 := ⟨_, rfl⟩
  rw [hW1] at hb hN hL1
  have HX := Lib.hid (And.intro hb (And.intro hN (And.intro hL1 hne)))
  clear hb hN hL1 hL hne
  go_enter Tryd.func29, Tryd.ntmps29
  go_wp2_with (go_at_call 35; refine (put_any w.heap.size ao len cap zs hreach hsum W1 HX.out.2.2.1 HX.out.2.2.2 HX.out.1).mono ?_)
  rintro e w2 ⟨hB2, hcase⟩
  have hB := HX.out.2.1.trans hB2
  rcases hcase with ⟨ht, rfl, hbuf⟩ | ⟨ht, s, rfl⟩
  · have e1 : r = some zs.flatten := by rw [← HR.out]; unfold joinR; rw [if_pos (by rw [tot_flatten]; exact ht)]
    subst e1
    obtain ⟨fl, hfl⟩ : ∃ fl, zs.flatten = fl := ⟨_, rfl⟩
    have hfn := tot_flatten zs
    rw [hfl] at hbuf hfn
    obtain ⟨t, htt⟩ : ∃ t, tot zs = t := ⟨_, rfl⟩
    rw [htt] at hbuf hfn ht
    have cu := hbuf.used
    have cv := run_stringB w2 w.heap.size t fl hbuf
    rw [hfn] at cv
    obtain ⟨V, hV⟩ : ∃ V, spanV w.heap.size 0 t = V := ⟨_, rfl⟩
    rw [hV] at cv
    have HV := Lib.hid (And.intro hB hV)
    have sp := span_any w.heap.size 0 t (Nat.zero_le _) ht w2
    rw [show ((0 : Nat) : Int) = 0 from rfl] at sp
    have HS := Lib.hid sp
    clear hbuf hB hB2 hV hfn htt sp
    go_wp2_with (go_at_call 36; refine HS.out.mono ?_)
    rintro e w3 ⟨rfl, rfl⟩
    rw [HV.out.2]
    go_wp2
    refine bodyPost_ret (results_tmp2 rfl _ _ _) rfl ?_
    rw [hfl]
    exact TwoP.some fl HV.out.1
  · have e1 : r = none := by rw [← HR.out]; unfold joinR; rw [if_neg (by rw [tot_flatten]; omega)]
    subst e1
    have HV := Lib.hid hB
    clear hB hB2 ht
    go_wp2
    refine bodyPost_ret (results_tmp2 rfl _ _ _) rfl ?_
    exact TwoP.none s HV.out
end Go.Proofs.YtmaolhaddgecpaaDoor
