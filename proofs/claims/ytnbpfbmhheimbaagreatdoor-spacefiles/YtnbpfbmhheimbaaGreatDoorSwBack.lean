/- SpaceBack: the walk. -/
import Derived.Test.YtnbpfbmhheimbaaGreatDoorSwTurns
namespace Go.Proofs.Spc
open Go.Proofs.Rng
theorem findI_of {l : List Ob} {n : It} {x : Ob} (h : getO l n = some x) : ∃ i : Nat, findI l n = i ∧ i < l.length ∧ l[i]? = some x := by
  refine ⟨findN l n, ?_, find_lt h, by rw [getO_find, h]⟩
  unfold findI
  rw [if_neg (by have := find_lt h; omega)]
theorem findI_no {l : List Ob} {n : It} (h : getO l n = none) : findI l n = -1 := by
  unfold findI
  rw [if_pos (find_none.2 h)]
end Go.Proofs.Spc
namespace Go.Proofs.YtnbpfbmhheimbaaGreatDoor
open Go.RowKit Go.Proofs.Fld Go.Proofs.Rng Go.Proofs.Spc Go.Shelf Go.Sort

/-- The cells of an object of the slice. -/
theorem SO.cell {W : World} {va : Option Addr} {k vc : Nat} {vs : List Ov} {l : List Ob} (h : SO W va k vc vs l) {i : Nat} {o : Ob} (ho : l[i]? = some o) : ∃ b off x, va = some ⟨b, off, none⟩ ∧ x.o = o ∧ Lv W x ∧ ObAt W b (off + i * 5) x := by
  rw [← h.e] at ho
  obtain ⟨x, hx, hxo⟩ := obs_at ho
  have hlt : i < vs.length := (List.getElem?_eq_some_iff.1 hx).1
  obtain ⟨b, off, e, _, hc⟩ := h.o.at (by have := h.o.hlen; omega)
  exact ⟨b, off, x, e, hxo, h.o.row hx, hc i x hx⟩

set_option maxRecDepth 100000 in
set_option maxHeartbeats 4000000 in
theorem back_walk {s : Sn} (ao : Option Addr) (len cap : Nat) (zs : List Ov) (q : Int) (x0 : It) (k n : Int) (z : x0.length ≤ 9223372036854775807) (w : World) (hg : Ev s w) (hL : Objs w ao len cap zs) :
    Calls Tryz.prog 9 #[.slice ao len cap, .int .i64 q, .string (bs x0), .int .i64 k, .int .i64 n] w (BoolP true w) := by
  have D := Lib.hid (WE.of hg)
  obtain ⟨y0, hy0⟩ : ∃ y, x0.take 50 = y := ⟨_, rfl⟩
  have HC0 := Lib.hid (fun W => cutN_any x0 z W)
  rw [hy0] at HC0
  have HY0 := Lib.hid (hy0 ▸ cut_len x0)
  clear hy0
  obtain ⟨l, hl⟩ : ∃ l, fewL (obs zs) = l := ⟨_, rfl⟩
  obtain ⟨k0, hk0⟩ : ∃ k0, l.length = k0 := ⟨_, rfl⟩
  have HL := Lib.hid (And.intro hL (And.intro hl (And.intro hk0 (show Small l from hl ▸ small_few _))))
  obtain ⟨ec, al, ka, ha, hka⟩ := mk_pair l q y0 k n
  have M := Lib.hid (And.intro ha hka)
  clear hg hL z hl hk0 ha hka
  go_enter Tryz.func9, Tryz.ntmps9
  go_wp2_with (go_at_call 12; refine (shown_e s _ D.out.ev).mono ?_)
  rintro e w1 ⟨rfl, hb⟩
  replace D := Lib.hid (D.out.more hb)
  have HF := Lib.hid (FewO_p HL.out.2.1 HL.out.2.2.1 (HL.out.1.more hb))
  clear hb
  go_wp2_with (go_at_call 13; refine HF.out.mono ?_)
  rintro e w2 ⟨vs, va, vc, rfl, hvs, hO, hb⟩
  replace D := Lib.hid (D.out.more hb)
  have L := Lib.hid (SO.mk hvs hO HL.out.2.2.2)
  clear hvs hO hb HF
  go_wp2_with (go_at_call 15; refine (HC0.out _).mono ?_)
  rintro e w3 ⟨rfl, rfl⟩
  go_wp2_with (go_at_call 28; refine (Make_w M.out.1 M.out.2 HY0.out L.out D.out).mono ?_)
  rintro e wn ⟨avs, aa, ac, rfl, hA, hb⟩
  replace D := Lib.hid (D.out.more hb)
  replace L := Lib.hid (L.out.more hb)
  have A := Lib.hid hA
  clear hA hb
  by_cases he : ec = 0
  · subst he
    obtain ⟨g1, g2, g3⟩ := mk_back M.out.1
    obtain ⟨i, hi, hil, hia⟩ := findI_of g1
    rw [M.out.2] at hil
    have hn := findI_no g3
    have hkl := L.out.len
    have HR := Lib.hid (And.intro g2 (And.intro hn hia))
    clear g1 g2 g3 hn hia
    go_wp2_with (go_at_call 21; refine (Find_w hi A.out).mono ?_)
    rintro e wn ⟨rfl, hb⟩
    replace D := Lib.hid (D.out.more hb)
    replace L := Lib.hid (L.out.more hb)
    replace A := Lib.hid (A.out.more hb)
    clear hb
    clear hi
    go_wp2_with (go_at_call 30; refine (Drop_w HR.out.1 hkl A.out D.out).mono ?_)
    rintro e wn ⟨bvs, ba, bc, rfl, hA, hb⟩
    replace D := Lib.hid (D.out.more hb)
    replace L := Lib.hid (L.out.more hb)
    replace A := Lib.hid (A.out.more hb)
    have B := Lib.hid hA
    clear hA hb
    have HS := Lib.hid (Same_w (sameL_self l) B.out L.out)
    have h1 : decide ((i : Int) < 0) = false := decide_eq_false (by omega)
    have h2 : decide ((i : Int) ≥ (ka : Int)) = false := decide_eq_false (by omega)
    go_wp2_with (go_at_call 26; refine HS.out.mono ?_)
    rintro e wn ⟨rfl, hb⟩
    replace D := Lib.hid (D.out.more hb)
    replace L := Lib.hid (L.out.more hb)
    replace A := Lib.hid (A.out.more hb)
    clear hb
    obtain ⟨b, off, x, rfl, hx, _, hc⟩ := A.out.cell HR.out.2.2
    obtain ⟨c0, c1, c2, c3, c4⟩ := hc
    rw [hx] at c1 c2 c3 c4
    replace c1 : wn.cell? ⟨b, off + i * 5 + 1, none⟩ = some (.int .i64 k) := c1
    replace c2 : wn.cell? ⟨b, off + i * 5 + 2, none⟩ = some (.string { data := #[] }) := c2
    replace c3 : wn.cell? ⟨b, off + i * 5 + 3, none⟩ = some (.int .i64 n) := c3
    replace c4 : wn.cell? ⟨b, off + i * 5 + 4, none⟩ = some (.slice x.a 0 x.c) := c4
    clear c0 hx
    go_wp2_with (go_at_call 21; refine (Find_w HR.out.2.1 L.out).mono ?_)
    rintro e wn2 ⟨rfl, hb⟩
    replace D := Lib.hid (D.out.more hb)
    clear hb
    go_wp2
    go_ret
    exact ⟨rfl, D.out.below⟩
  · have h1 : (ec != 0) = true := by simp [he]
    obtain rfl := mk_none M.out.1 he
    obtain rfl : 0 = ka := M.out.2
    clear he
    go_wp2
    go_ret
    exact ⟨rfl, D.out.below⟩

end Go.Proofs.YtnbpfbmhheimbaaGreatDoor
