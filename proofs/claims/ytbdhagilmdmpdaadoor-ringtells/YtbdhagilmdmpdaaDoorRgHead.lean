/- What a law's walk carries; what is known: shown. -/
import Derived.Test.YtbdhagilmdmpdaaDoorRgShown
namespace Go.Proofs.YtbdhagilmdmpdaaDoor
open Go.RowKit Go.Proofs.Fld Go.Proofs.Rng Go.Shelf Go.Sort

/-- A law's world. -/
structure Wd (s : Sn) (w0 w : World) : Prop where
  below : Below w0.heap.size w0 w
  sent : Sent s w
theorem Wd.more {s : Sn} {w0 w w' : World} (h : Wd s w0 w) (k : Below w.heap.size w w') : Wd s w0 w' := ⟨below_more h.below k, h.sent.more k⟩
theorem Wd.of {s : Sn} {w : World} (h : Sent s w) : Wd s w w := ⟨Below.refl _ _, h⟩
/-- A ring in a variable. -/
structure Rv (W : World) (b : Nat) (m : Int) (ao : Option Addr) (k c : Nat) (l : List It) : Prop where
  r : R2 W b (.int .i64 m) (.slice ao k c)
  t : Txs W ao k c l
theorem Rv.more {W W' : World} {b : Nat} {m : Int} {ao : Option Addr} {k c : Nat} {l : List It} (h : Rv W b m ao k c l) (hb : Below W.heap.size W W') : Rv W' b m ao k c l := ⟨h.r.more hb, h.t.more hb⟩
theorem Rv.new (W : World) (m : Int) (ao : Option Addr) (k c : Nat) (l : List It) (h : Txs W ao k c l) : Rv (W.alloc (.cells #[.int .i64 m, .slice ao k c] 24)) W.heap.size m ao k c l := ⟨R2.new _ _ _ _, h.more (Below.new _ _)⟩
theorem Txs.set {W : World} {b i : Nat} {ao : Option Addr} {k c : Nat} {l : List It} {x : Value} (h : Txs W ao k c l) (hne : ∀ a, ao = some a → a.block ≠ b) : Txs (W.setCell ⟨b, i, none⟩ x) ao k c l := h.of_block fun a e _ => Below.heap_setCell _ _ _ _ (fun q => hne a e q)
theorem OwnT.apart {n0 : Nat} {W : World} {va : Option Addr} {k c : Nat} {l : List It} (h : OwnT n0 W (.slice va k c) l) {b : Nat} (hb : b < n0) : ∀ a, va = some a → a.block ≠ b := by
  intro a e
  rcases h.2 with ⟨e', _⟩ | ⟨g, cap, cur, e', hg, _⟩
  · injection e' with e1
    rw [e1] at e
    cases e
  · injection e' with e1
    rw [e1] at e
    obtain rfl := Option.some.inj e
    intro q
    have q' : g = b := q
    omega
theorem Rv.set {W : World} {b : Nat} {u x : Value} {m : Int} {ao : Option Addr} {k c : Nat} {l : List It} (h : R2 W b u x) (ht : Txs W ao k c l) (hne : ∀ a, ao = some a → a.block ≠ b) : Rv ((W.setCell ⟨b, 0, none⟩ (.int .i64 m)).setCell ⟨b, 1, none⟩ (.slice ao k c)) b m ao k c l := ⟨h.set _ _, (ht.set hne).set hne⟩
/-- The variable of a law's argument takes another ring. -/
theorem Wd.set {s : Sn} {w0 w : World} {b : Nat} (h : Wd s w0 w) (h0 : Sent s w0) (hb : w0.heap.size ≤ b) (u x : Value) : Wd s w0 ((w.setCell ⟨b, 0, none⟩ u).setCell ⟨b, 1, none⟩ x) := ⟨set2B h.below hb u x, h0.more (set2B h.below hb u x)⟩
theorem rg_bool {f : FuncId} {args : Array Value} {V : World} {v : Bool} (h : ∀ W, Below V.heap.size V W → Calls Tryd.prog f args W (BoolP v W)) : ∀ d os, Calls Tryd.prog f args (grow (redrawn V d) os) fun e w'' => e = .returned (.bool v) ∧ ∃ p : Regrown, w'' = grow (redrawn V p.d) p.os :=
  fun d os => Calls.regrown_of (h _ (below_regrown V d os))
theorem rg_int {f : FuncId} {args : Array Value} {V : World} {v : Int} (h : ∀ W, Below V.heap.size V W → Calls Tryd.prog f args W (IntP v W)) : ∀ d os, Calls Tryd.prog f args (grow (redrawn V d) os) fun e w'' => e = .returned (.int .i64 v) ∧ ∃ p : Regrown, w'' = grow (redrawn V p.d) p.os :=
  fun d os => Calls.regrown_of (h _ (below_regrown V d os))
/-- Put, Take, All, New, their words named. -/
theorem Put_q {s : Sn} {m : Int} {ao : Option Addr} {len cap : Nat} {zs : List It} {x : It} {pm : Int} {pl : List It} {c : Int} {k : Nat} (hx : x.length ≤ 900000) (hreach : len ≤ 1000000) (hsum : takes zs ≤ 1000000) (hpm : putM m zs x = pm) (hpl : putL m zs x = pl) (hc : errN (putE m zs x) = c) (hk : pl.length = k) {w : World} (hL : Txs w ao len cap zs) (hs : Sent s w) :
    Calls Tryd.prog 13 #[.agg #[.int .i64 m, .slice ao len cap], .string (bs x)] w (TellR pm pl k c w) := hc ▸ Put_p hx hreach hsum hpm hpl rfl hk hL hs
theorem Take_q {s : Sn} {m : Int} {ao : Option Addr} {len cap : Nat} {zs : List It} {px : It} {pm : Int} {pl : List It} {c : Int} {k : Nat} (hreach : len ≤ 1000000) (hsum : takes zs ≤ 1000000) (hpx : takeX m zs = px) (hpm : takeM m zs = pm) (hpl : takeL m zs = pl) (hc : errN (takeE m zs) = c) (hk : pl.length = k) {w : World} (hL : Txs w ao len cap zs) (hs : Sent s w) :
    Calls Tryd.prog 16 #[.agg #[.int .i64 m, .slice ao len cap]] w (TellX px pm pl k c w) := hc ▸ Take_p hreach hsum hpx hpm hpl rfl hk hL hs
theorem All_q {s : Sn} {m : Int} {ao bo : Option Addr} {len cap kl kc : Nat} {zs ys : List It} {pm : Int} {pl : List It} {pn k : Nat} {c : Int} (hreach : len ≤ 1000000) (hsum : takes zs ≤ 1000000) (hr2 : kl ≤ 1000000) (hs2 : takes ys ≤ 900000) (hpm : allM m zs = pm) (hpl : allL m zs ys = pl) (hpn : allN m zs ys = pn) (hc : errN (allE m zs) = c) (hk : pl.length = k) {w : World} (hL : Txs w ao len cap zs) (hM : Txs w bo kl kc ys) (hs : Sent s w) :
    Calls Tryd.prog 24 #[.agg #[.int .i64 m, .slice ao len cap], .slice bo kl kc] w (TellA pm pl k pn c w) := hc ▸ All_p hreach hsum hr2 hs2 hpm hpl hpn rfl hk hL hM hs
/-- What New tells. -/
def newM (m : Int) : Int := if rightR m [] then m else 0
def newE (m : Int) : Nat := if rightR m [] then 0 else 1
theorem New_q {s : Sn} {m pm c : Int} (hpm : newM m = pm) (hc : errN (newE m) = c) {w : World} (hs : Sent s w) :
    Calls Tryd.prog 11 #[.int .i64 m] w (TellR pm [] 0 c w) := by
  refine hc ▸ New_p (pe := newE m) ?_ ?_ hs
  · intro h
    rw [← hpm]
    unfold newM newE
    rw [h]
    exact ⟨rfl, rfl⟩
  · intro h
    rw [← hpm]
    unfold newM newE
    rw [h]
    exact ⟨rfl, rfl⟩

theorem shNew {s : Sn} {w : World} (hs : Sent s w) : Calls Tryd.prog 11 #[.int .i64 5] w (TellR 5 [] 0 0 w) := New_q rfl rfl hs
theorem shAb {s : Sn} {ao : Option Addr} {cap : Nat} {w : World} (hL : Txs w ao 0 cap []) (hs : Sent s w) : Calls Tryd.prog 13 #[.agg #[.int .i64 5, .slice ao 0 cap], .string { data := #[97, 98] }] w (TellR 5 [[97, 98]] 1 0 w) := Put_q (x := [97, 98]) (by decide) (by decide) (by decide) (by decide) (by decide) (by decide) rfl hL hs
theorem shC {s : Sn} {ao : Option Addr} {cap : Nat} {w : World} (hL : Txs w ao 1 cap [[97, 98]]) (hs : Sent s w) : Calls Tryd.prog 13 #[.agg #[.int .i64 5, .slice ao 1 cap], .string { data := #[99] }] w (TellR 5 [[97, 98], [99]] 2 0 w) := Put_q (x := [99]) (by decide) (by decide) (by decide) (by decide) (by decide) (by decide) rfl hL hs
theorem shD {s : Sn} {ao : Option Addr} {cap : Nat} {w : World} (hL : Txs w ao 2 cap [[97, 98], [99]]) (hs : Sent s w) : Calls Tryd.prog 13 #[.agg #[.int .i64 5, .slice ao 2 cap], .string { data := #[100] }] w (TellR 0 [] 0 80 w) := Put_q (x := [100]) (by decide) (by decide) (by decide) (by decide) (by decide) (by decide) rfl hL hs
/-- The first letters are told. -/
def ShTake (w : World) (e : Ending) (w' : World) : Prop :=
  ∃ va vc, e = .returned (.tuple #[.string { data := #[97, 98] }, .agg #[.int .i64 5, .slice va 1 vc], .int .i64 0]) ∧ (Txs w' va 1 vc [[99]] ∧ OwnT w.heap.size w' (.slice va 1 vc) [[99]]) ∧ Below w.heap.size w w'
theorem shTake {s : Sn} {ao : Option Addr} {cap : Nat} {w : World} (hL : Txs w ao 2 cap [[97, 98], [99]]) (hs : Sent s w) : Calls Tryd.prog 16 #[.agg #[.int .i64 5, .slice ao 2 cap]] w (ShTake w) := Take_q (m := 5) (px := [97, 98]) (pm := 5) (pl := [[99]]) (c := 0) (by decide) (by decide) (by decide) (by decide) (by decide) (by decide) rfl hL hs
theorem shU3 {s : Sn} {ao : Option Addr} {cap : Nat} {w : World} (hL : Txs w ao 1 cap [[97, 98]]) (hs : Sent s w) : Calls Tryd.prog 21 #[.agg #[.int .i64 5, .slice ao 1 cap]] w (IntP 3 w) := Used_p (b := 3) (by decide) (by decide) (by decide) hL hs
theorem shU5 {s : Sn} {ao : Option Addr} {cap : Nat} {w : World} (hL : Txs w ao 2 cap [[97, 98], [99]]) (hs : Sent s w) : Calls Tryd.prog 21 #[.agg #[.int .i64 5, .slice ao 2 cap]] w (IntP 5 w) := Used_p (b := 5) (by decide) (by decide) (by decide) hL hs

set_option maxRecDepth 100000 in
set_option maxHeartbeats 4000000 in
theorem shown_any (s : Sn) (w : World) (hs : Sent s w) : Calls Tryd.prog 9 #[] w (TruePost w) := by
  have D := Lib.hid (Wd.of hs)
  clear hs
  go_enter Tryd.func9, Tryd.ntmps9
  go_wp2_with (go_at_call 11; refine (shNew D.out.sent).mono ?_)
  rintro e w1 ⟨va1, vc1, rfl, ⟨ht1, ho1⟩, hb1⟩
  have hN1 := Below.new w1 (.cells #[.int .i64 5, .slice va1 0 vc1] 24)
  have b1 := below_more hb1 hN1
  have A := Rv.new w1 5 va1 0 vc1 [] ht1
  obtain ⟨W1, hW1⟩ : ∃ W1, w1.alloc (.cells #[.int .i64 5, .slice va1 0 vc1] 24) = W1 := ⟨_, rfl⟩
  rw [hW1] at b1 A
  have A := Lib.hid A
  replace D := Lib.hid (D.out.more b1)
  clear ht1 ho1 hb1 hN1 b1
  have Ac0 := A.out.r.c0
  have Ac1 := A.out.r.c1
  go_wp2_with (go_at_call 13; refine (shAb A.out.t D.out.sent).mono ?_)
  rintro e w2 ⟨va2, vc2, rfl, ⟨ht2, ho2⟩, hb2⟩
  clear Ac0 Ac1
  have hN2 := Below.new w2 (.cells #[.int .i64 5, .slice va2 1 vc2] 24)
  have b2 := below_more hb2 hN2
  have B := Rv.new w2 5 va2 1 vc2 [[97, 98]] ht2
  obtain ⟨W2, hW2⟩ : ∃ W2, w2.alloc (.cells #[.int .i64 5, .slice va2 1 vc2] 24) = W2 := ⟨_, rfl⟩
  rw [hW2] at b2 B
  have B := Lib.hid B
  replace D := Lib.hid (D.out.more b2)
  replace A := Lib.hid (A.out.more b2)
  clear ht2 ho2 hb2 hN2 b2
  have Bc0 := B.out.r.c0
  have Bc1 := B.out.r.c1
  go_wp2_with (go_at_call 13; refine (shC B.out.t D.out.sent).mono ?_)
  rintro e w3 ⟨va3, vc3, rfl, ⟨ht3, ho3⟩, hb3⟩
  clear Bc0 Bc1
  have hN3 := Below.new w3 (.cells #[.int .i64 5, .slice va3 2 vc3] 24)
  have b3 := below_more hb3 hN3
  have C := Rv.new w3 5 va3 2 vc3 [[97, 98], [99]] ht3
  obtain ⟨W3, hW3⟩ : ∃ W3, w3.alloc (.cells #[.int .i64 5, .slice va3 2 vc3] 24) = W3 := ⟨_, rfl⟩
  rw [hW3] at b3 C
  have C := Lib.hid C
  replace D := Lib.hid (D.out.more b3)
  replace A := Lib.hid (A.out.more b3)
  replace B := Lib.hid (B.out.more b3)
  clear ht3 ho3 hb3 hN3 b3
  have Cc0 := C.out.r.c0
  have Cc1 := C.out.r.c1
  go_wp2_with (go_at_call 13; refine (shD C.out.t D.out.sent).mono ?_)
  rintro e w4 ⟨va4, vc4, rfl, ⟨ht4, ho4⟩, hb4⟩
  clear Cc0 Cc1
  have hN4 := Below.new w4 (.cells #[.int .i64 0, .slice va4 0 vc4] 24)
  have b4 := below_more hb4 hN4
  have E := Rv.new w4 0 va4 0 vc4 [] ht4
  obtain ⟨W4, hW4⟩ : ∃ W4, w4.alloc (.cells #[.int .i64 0, .slice va4 0 vc4] 24) = W4 := ⟨_, rfl⟩
  rw [hW4] at b4 E
  have E := Lib.hid E
  replace D := Lib.hid (D.out.more b4)
  replace A := Lib.hid (A.out.more b4)
  replace B := Lib.hid (B.out.more b4)
  replace C := Lib.hid (C.out.more b4)
  clear ht4 ho4 hb4 hN4 b4
  have Cc0 := C.out.r.c0
  have Cc1 := C.out.r.c1
  go_wp2_with (go_at_call 16; refine (shTake C.out.t D.out.sent).mono ?_)
  rintro e w5 ⟨va5, vc5, rfl, ⟨ht5, ho5⟩, hb5⟩
  clear Cc0 Cc1
  have hN5 := Below.new w5 (.cells #[.int .i64 5, .slice va5 1 vc5] 24)
  have b5 := below_more hb5 hN5
  have F := Rv.new w5 5 va5 1 vc5 [[99]] ht5
  obtain ⟨W5, hW5⟩ : ∃ W5, w5.alloc (.cells #[.int .i64 5, .slice va5 1 vc5] 24) = W5 := ⟨_, rfl⟩
  rw [hW5] at b5 F
  have F := Lib.hid F
  replace D := Lib.hid (D.out.more b5)
  replace A := Lib.hid (A.out.more b5)
  replace B := Lib.hid (B.out.more b5)
  replace C := Lib.hid (C.out.more b5)
  replace E := Lib.hid (E.out.more b5)
  clear ht5 ho5 hb5 hN5 b5
  have Bc0 := B.out.r.c0
  have Bc1 := B.out.r.c1
  go_wp2_with (go_at_call 21; refine (shU3 B.out.t D.out.sent).mono ?_)
  rintro e w6 ⟨rfl, hb⟩
  clear Bc0 Bc1
  replace D := Lib.hid (D.out.more hb)
  replace A := Lib.hid (A.out.more hb)
  replace B := Lib.hid (B.out.more hb)
  replace C := Lib.hid (C.out.more hb)
  replace E := Lib.hid (E.out.more hb)
  replace F := Lib.hid (F.out.more hb)
  clear hb
  have Cc0 := C.out.r.c0
  have Cc1 := C.out.r.c1
  go_wp2_with (go_at_call 21; refine (shU5 C.out.t D.out.sent).mono ?_)
  rintro e w7 ⟨rfl, hb⟩
  clear Cc0 Cc1
  replace D := Lib.hid (D.out.more hb)
  replace A := Lib.hid (A.out.more hb)
  replace B := Lib.hid (B.out.more hb)
  replace C := Lib.hid (C.out.more hb)
  replace E := Lib.hid (E.out.more hb)
  replace F := Lib.hid (F.out.more hb)
  clear hb
  have Fc0 := F.out.r.c0
  have Fc1 := F.out.r.c1
  go_wp2
  go_ret
  exact ⟨rfl, D.out.below⟩

end Go.Proofs.YtbdhagilmdmpdaaDoor
