/- What a law's walk carries; what is known: shown. -/
import Derived.Test.YtnbpfbmhheimbaaGreatDoorSpFew
namespace Go.Proofs.Spc
open Go.Proofs.Rng
theorem mk_code {l : List Ob} {q : Int} {n : It} {k m : Int} {r : Int × List Ob} (h : mkR l q n k m = r) : rightB r.2 = true ∨ r.2 = [] := by
  obtain ⟨c, a⟩ := r
  by_cases hc : c = 0
  · subst hc
    exact .inl (mk_bound h).2.1
  · exact .inr (mk_none h hc)
theorem drop_code {l : List Ob} {n : It} {r : Int × List Ob} (h : dropR l n = r) : rightB r.2 = true ∨ r.2 = [] := by
  by_cases hg : rightB l = true ∧ ∃ x, getO l n = some x
  · obtain ⟨h1, x, h2⟩ := hg
    rw [drop_ok h1 h2] at h
    subst h
    exact .inl (drop_bound (drop_ok h1 h2)).2.1
  · obtain ⟨c, e, _⟩ := drop_no hg
    rw [e] at h
    subst h
    exact .inr rfl
theorem chg_code {l : List Ob} {q : Int} {n : It} {k : Int} {f : Ob → Int × Ob} {r : Int × List Ob} (hf : Keep k f) (h : chgR l q n k f = r) : rightB r.2 = true ∨ r.2 = [] := by
  obtain ⟨c, a⟩ := r
  by_cases hc : c = 0
  · subst hc
    exact .inl (chg_right hf h)
  · exact .inr (chg_none h hc)
end Go.Proofs.Spc
namespace Go.Proofs.YtnbpfbmhheimbaaGreatDoor
open Go.RowKit Go.Proofs.Fld Go.Proofs.Rng Go.Proofs.Spc Go.Shelf Go.Sort

/-- Few objects, of some bound. -/
structure Small (l : List Ob) : Prop where
  n : l.length ≤ 22
  b : ∀ o ∈ l, Bd o
theorem small_nil : Small [] := ⟨by simp, fun o h => by cases h⟩
theorem small_few (l : List Ob) : Small (fewL l) := ⟨fewL_length l, fun _o h => fewL_bd h⟩
theorem small_right {l : List Ob} (h : rightB l = true) : Small l := by
  obtain ⟨h1, h2⟩ := rightB_iff.1 h
  refine ⟨by omega, fun o ho => ?_⟩
  obtain ⟨_, a1, a2, _, _, a3, _⟩ := isB_bounds (goodF_mem h2 o ho).1
  exact ⟨by omega, by omega, by omega⟩
theorem small_code {l : List Ob} (h : rightB l = true ∨ l = []) : Small l := by
  rcases h with h | rfl
  · exact small_right h
  · exact small_nil
/-- A law's world. -/
structure WE (s : Sn) (w0 w : World) : Prop where
  below : Below w0.heap.size w0 w
  ev : Ev s w
theorem WE.more {s : Sn} {w0 w w' : World} (h : WE s w0 w) (k : Below w.heap.size w w') : WE s w0 w' := ⟨below_more h.below k, h.ev.more k⟩
theorem WE.of {s : Sn} {w : World} (h : Ev s w) : WE s w w := ⟨Below.refl _ _, h⟩
/-- A slice of objects. -/
structure SO (W : World) (va : Option Addr) (k vc : Nat) (vs : List Ov) (l : List Ob) : Prop where
  e : obs vs = l
  o : Objs W va k vc vs
  s : Small l
theorem SO.more {A B : World} {va : Option Addr} {k vc : Nat} {vs : List Ov} {l : List Ob} (h : SO A va k vc vs l) (hb : Below A.heap.size A B) : SO B va k vc vs l := ⟨h.e, h.o.more hb, h.s⟩
theorem SO.bd {W : World} {va : Option Addr} {k vc : Nat} {vs : List Ov} {l : List Ob} (h : SO W va k vc vs l) : ∀ x ∈ vs, Bd x.o := fun _x hx => h.s.b _ (h.e ▸ mem_obs hx)
theorem SO.len {W : World} {va : Option Addr} {k vc : Nat} {vs : List Ov} {l : List Ob} (h : SO W va k vc vs l) : l.length = k := by rw [← h.e, obs_length, h.o.hlen]
theorem SO.le {W : World} {va : Option Addr} {k vc : Nat} {vs : List Ov} {l : List Ob} (h : SO W va k vc vs l) : k ≤ 22 := by rw [← h.len]; exact h.s.n
theorem SO.le1 {W : World} {va : Option Addr} {k vc : Nat} {vs : List Ov} {l : List Ob} (h : SO W va k vc vs l) : k ≤ 100000 := Nat.le_trans h.le (by omega)
theorem SO.le2 {W : World} {va : Option Addr} {k vc : Nat} {vs : List Ov} {l : List Ob} (h : SO W va k vc vs l) : k ≤ 1000000 := Nat.le_trans h.le (by omega)
theorem SO.nil (W : World) : SO W none 0 0 [] [] := ⟨rfl, Objs.nil W, small_nil⟩
/-- Objects, and a number. -/
def ResS (c : Int) (l : List Ob) (kr : Nat) (w : World) (e : Ending) (w' : World) : Prop := ∃ vs va vc, e = .returned (.tuple #[.slice va kr vc, .int .i64 c]) ∧ SO w' va kr vc vs l ∧ Below w.heap.size w w'
theorem res_so {r : Int × List Ob} {c : Int} {l : List Ob} {kr : Nat} {w : World} (hr : r = (c, l)) (hs : rightB r.2 = true ∨ r.2 = []) : ∀ e w', ResP r kr w e w' → ResS c l kr w e w' := by
  subst hr
  rintro e w' ⟨vs, va, vc, rfl, h1, h2, h3⟩
  exact ⟨vs, va, vc, rfl, ⟨h1, h2, small_code hs⟩, h3⟩
section
variable {s : Sn} {w0 w : World} {ao : Option Addr} {k0 cap : Nat} {zs : List Ov} {l : List Ob} {c : Int} {a : List Ob} {kr : Nat}
theorem Make_w {nm : It} {q k m : Int} (hr : mkR l q nm k m = (c, a)) (hkr : a.length = kr) (hnm : nm.length ≤ 100000) (hL : SO w ao k0 cap zs l) (hs : WE s w0 w) :
    Calls Tryz.prog 28 #[.slice ao k0 cap, .int .i64 q, .string (bs nm), .int .i64 k, .int .i64 m] w (ResS c a kr w) := by
  obtain rfl := hL.e
  exact (Make_s (r := (c, a)) hr hkr hnm hL.le1 hL.bd hs.ev hL.o).mono (res_so rfl (mk_code hr))
theorem Drop_w {nm : It} (hr : dropR l nm = (c, a)) (hkr : a.length = kr) (hL : SO w ao k0 cap zs l) (hs : WE s w0 w) :
    Calls Tryz.prog 30 #[.slice ao k0 cap, .string (bs nm)] w (ResS c a kr w) := by
  obtain rfl := hL.e
  exact (Drop_s (r := (c, a)) hr hkr hL.le1 hL.bd hs.ev hL.o).mono (res_so rfl (drop_code hr))
theorem Write_w {nm t : It} {q at' : Int} (htl : t.length ≤ 1000000) (hr : wrR l q nm at' t = (c, a)) (hkr : a.length = kr) (hL : SO w ao k0 cap zs l) (hs : WE s w0 w) :
    Calls Tryz.prog 32 #[.slice ao k0 cap, .int .i64 q, .string (bs nm), .int .i64 at', .string (bs t)] w (ResS c a kr w) := by
  obtain rfl := hL.e
  exact (Write_s (r := (c, a)) hr hkr htl hL.le1 hL.bd hs.ev hL.o).mono (res_so rfl (chg_code (keep_wr at' t) hr))
theorem Cut_w {nm : It} {q n : Int} (hr : cuR l q nm n = (c, a)) (hkr : a.length = kr) (hL : SO w ao k0 cap zs l) (hs : WE s w0 w) :
    Calls Tryz.prog 37 #[.slice ao k0 cap, .int .i64 q, .string (bs nm), .int .i64 n] w (ResS c a kr w) := by
  obtain rfl := hL.e
  exact (Cut_s (r := (c, a)) hr hkr hL.le1 hL.bd hs.ev hL.o).mono (res_so rfl (chg_code (keep_cut n) hr))
theorem Put_w {nm t : It} (htl : t.length ≤ 100000) (hr : puR l nm t = (c, a)) (hkr : a.length = kr) (hL : SO w ao k0 cap zs l) (hs : WE s w0 w) :
    Calls Tryz.prog 39 #[.slice ao k0 cap, .string (bs nm), .string (bs t)] w (ResS c a kr w) := by
  obtain rfl := hL.e
  exact (Put_s (r := (c, a)) hr hkr htl hL.le1 hL.bd hs.ev hL.o).mono (res_so rfl (chg_code (keep_put t) hr))
def ResT (it : It) (c : Int) (l : List Ob) (kr : Nat) (w : World) (e : Ending) (w' : World) : Prop := ∃ vs va vc, e = .returned (.tuple #[.string (bs it), .slice va kr vc, .int .i64 c]) ∧ SO w' va kr vc vs l ∧ Below w.heap.size w w'
theorem Take_w {nm it : It} (hit : tkX l nm = it) (hr : tkR l nm = (c, a)) (hkr : a.length = kr) (hL : SO w ao k0 cap zs l) (hs : WE s w0 w) :
    Calls Tryz.prog 41 #[.slice ao k0 cap, .string (bs nm)] w (ResT it c a kr w) := by
  obtain rfl := hL.e
  refine (Take_s (r := (c, a)) hit hr hkr hL.le1 hL.bd hs.ev hL.o).mono ?_
  rintro e w' ⟨vs, va, vc, rfl, h1, h2, h3⟩
  exact ⟨vs, va, vc, rfl, ⟨h1, h2, small_code (chg_code keep_tk hr)⟩, h3⟩
theorem Read_w {nm it : It} {at' n : Int} (hit : rdX l nm at' n = it) (hc : rdE l nm at' n = c) (hL : SO w ao k0 cap zs l) (hs : WE s w0 w) :
    Calls Tryz.prog 35 #[.slice ao k0 cap, .string (bs nm), .int .i64 at', .int .i64 n] w (ResB it c w) := by
  obtain rfl := hL.e
  exact Read_s hit hc hL.le1 hL.bd hs.ev hL.o
theorem Right_w {b : Bool} (hb : rightB l = b) (hL : SO w ao k0 cap zs l) (hs : WE s w0 w) : Calls Tryz.prog 17 #[.slice ao k0 cap] w (BoolP b w) := by
  obtain rfl := hL.e
  exact Right_s hb hL.le2 hs.ev hL.bd hL.o
theorem Cost_w (hc : costR l = c) (hL : SO w ao k0 cap zs l) (hs : WE s w0 w) : Calls Tryz.prog 19 #[.slice ao k0 cap] w (IntP c w) := by
  obtain rfl := hL.e
  exact Cost_s hc hL.le2 hs.ev hL.bd hL.o
theorem Find_w {nm : It} (hc : findI l nm = c) (hL : SO w ao k0 cap zs l) : Calls Tryz.prog 21 #[.slice ao k0 cap, .string (bs nm)] w (IntP c w) := by
  obtain rfl := hL.e
  exact Find_p hc hL.le2 hL.o
theorem Same_w {bo : Option Addr} {k1 cap1 : Nat} {ys : List Ov} {m : List Ob} {b : Bool} (hb : sameL l m = b) (hL : SO w ao k0 cap zs l) (hM : SO w bo k1 cap1 ys m) : Calls Tryz.prog 26 #[.slice ao k0 cap, .slice bo k1 cap1] w (BoolP b w) := by
  obtain rfl := hL.e
  obtain rfl := hM.e
  exact Same_s hL.le2 hM.le2 hb hL.bd hM.bd hL.o hM.o
end

def oB : Ob := ⟨[98], 2, [], 20, []⟩
def oA : Ob := ⟨[97], 1, [], 0, []⟩
def oX : Ob := ⟨[97], 1, [120, 121, 122], 0, []⟩
theorem sh1 {s : Sn} {w0 w : World} (hs : WE s w0 w) : Calls Tryz.prog 28 #[.slice none 0 0, .int .i64 100, .string { data := #[98] }, .int .i64 2, .int .i64 20] w (ResS 0 [oB] 1 w) := Make_w (nm := [98]) (by rfl) rfl (by decide) (SO.nil w) hs
theorem sh2 {s : Sn} {w0 w : World} {ao : Option Addr} {cap : Nat} {zs : List Ov} (hL : SO w ao 1 cap zs [oB]) (hs : WE s w0 w) : Calls Tryz.prog 28 #[.slice ao 1 cap, .int .i64 100, .string { data := #[97] }, .int .i64 1, .int .i64 0] w (ResS 0 [oA, oB] 2 w) := Make_w (nm := [97]) (by rfl) rfl (by decide) hL hs
theorem sh3 {s : Sn} {w0 w : World} {ao : Option Addr} {cap : Nat} {zs : List Ov} (hL : SO w ao 2 cap zs [oA, oB]) (hs : WE s w0 w) : Calls Tryz.prog 32 #[.slice ao 2 cap, .int .i64 100, .string { data := #[97] }, .int .i64 0, .string { data := #[120, 121, 122] }] w (ResS 0 [oX, oB] 2 w) := Write_w (nm := [97]) (t := [120, 121, 122]) (by decide) (by rfl) rfl hL hs
theorem sh4 {s : Sn} {w0 w : World} {ao : Option Addr} {cap : Nat} {zs : List Ov} (hL : SO w ao 2 cap zs [oX, oB]) (hs : WE s w0 w) : Calls Tryz.prog 28 #[.slice ao 2 cap, .int .i64 50, .string { data := #[99] }, .int .i64 1, .int .i64 0] w (ResS 104 [] 0 w) := Make_w (nm := [99]) (by rfl) rfl (by decide) hL hs
/-- A text that is written out, and a number. -/
def AnsY (x : ByteArray) (c : Int) (w : World) (e : Ending) (w' : World) : Prop := e = .returned (.tuple #[.string x, .int .i64 c]) ∧ Below w.heap.size w w'
theorem sh5 {s : Sn} {w0 w : World} {ao : Option Addr} {cap : Nat} {zs : List Ov} (hL : SO w ao 2 cap zs [oX, oB]) (hs : WE s w0 w) : Calls Tryz.prog 35 #[.slice ao 2 cap, .string { data := #[97] }, .int .i64 1, .int .i64 9] w (AnsY { data := #[121, 122] } 0 w) := Read_w (nm := [97]) (at' := 1) (n := 9) (c := 0) (it := [121, 122]) (by rfl) (by rfl) hL hs
theorem sh6 {s : Sn} {w0 w : World} {ao : Option Addr} {cap : Nat} {zs : List Ov} (hL : SO w ao 2 cap zs [oX, oB]) (hs : WE s w0 w) : Calls Tryz.prog 19 #[.slice ao 2 cap] w (IntP 45 w) := Cost_w (by decide) hL hs
theorem sh7 {w : World} {ao : Option Addr} {cap : Nat} {zs : List Ov} (hL : SO w ao 2 cap zs [oX, oB]) : Calls Tryz.prog 21 #[.slice ao 2 cap, .string { data := #[98] }] w (IntP 1 w) := Find_w (nm := [98]) (by decide) hL

set_option maxRecDepth 100000 in
set_option maxHeartbeats 4000000 in
theorem shown_e (s : Sn) (w : World) (hs : Ev s w) : Calls Tryz.prog 12 #[] w (BoolP true w) := by
  have D := Lib.hid (WE.of hs)
  clear hs
  go_enter Tryz.func12, Tryz.ntmps12
  go_wp2_with (go_at_call 28; refine (sh1 D.out).mono ?_)
  rintro e w1 ⟨vs1, va1, vc1, rfl, hA, hb⟩
  replace D := Lib.hid (D.out.more hb)
  have A := Lib.hid hA
  clear hb hA
  go_wp2_with (go_at_call 28; refine (sh2 A.out D.out).mono ?_)
  rintro e w2 ⟨vs2, va2, vc2, rfl, hA, hb⟩
  replace D := Lib.hid (D.out.more hb)
  replace A := Lib.hid hA
  clear hb hA
  go_wp2_with (go_at_call 32; refine (sh3 A.out D.out).mono ?_)
  rintro e w3 ⟨vs3, va3, vc3, rfl, hA, hb⟩
  replace D := Lib.hid (D.out.more hb)
  replace A := Lib.hid hA
  clear hb hA
  go_wp2_with (go_at_call 28; refine (sh4 A.out D.out).mono ?_)
  rintro e w4 ⟨vs4, va4, vc4, rfl, _, hb⟩
  replace D := Lib.hid (D.out.more hb)
  replace A := Lib.hid (A.out.more hb)
  clear hb
  go_wp2_with (go_at_call 35; refine (sh5 A.out D.out).mono ?_)
  rintro e w5 ⟨rfl, hb⟩
  replace D := Lib.hid (D.out.more hb)
  replace A := Lib.hid (A.out.more hb)
  clear hb
  go_wp2_with (go_at_call 19; refine (sh6 A.out D.out).mono ?_)
  rintro e w6 ⟨rfl, hb⟩
  replace D := Lib.hid (D.out.more hb)
  replace A := Lib.hid (A.out.more hb)
  clear hb
  obtain ⟨x, hx, hxo⟩ := obs_at (l := vs3) (j := 0) (y := oX) (by rw [A.out.e]; rfl)
  obtain ⟨g, off, rfl, hgl, hcs⟩ := A.out.o.at (by omega)
  obtain ⟨q0, _, _, _, _⟩ := hcs 0 x hx
  rw [hxo, show off + 0 * 5 = off by omega] at q0
  replace q0 : w6.cell? ⟨g, off, none⟩ = some (.string { data := #[97] }) := q0
  clear hx hxo hcs
  go_wp2_with (go_at_call 21; refine (sh7 A.out).mono ?_)
  rintro e w7 ⟨rfl, hb⟩
  replace D := Lib.hid (D.out.more hb)
  clear hb
  go_wp2
  go_ret
  exact ⟨rfl, D.out.below⟩

end Go.Proofs.YtnbpfbmhheimbaaGreatDoor
