/- SpaceQueues: the walk. -/
import Derived.Test.YtnbpfbmhheimbaaGreatDoorSwBack
namespace Go.Proofs.YtnbpfbmhheimbaaGreatDoor
open Go.RowKit Go.Proofs.Fld Go.Proofs.Rng Go.Proofs.Spc Go.Shelf Go.Sort

theorem pu_pair (l : List Ob) (n x : It) : ∃ c a kr, puR l n x = (c, a) ∧ a.length = kr := ⟨_, _, _, rfl, rfl⟩
theorem long_len (x : It) : (x.take 1010).length ≤ 100000 := by rw [List.length_take]; omega

set_option maxRecDepth 100000 in
set_option maxHeartbeats 4000000 in
theorem queues_walk {s : Sn} (ao : Option Addr) (len cap : Nat) (zs : List Ov) (x0 x1 : It) (z : x0.length ≤ 9223372036854775807) (z1 : x1.length ≤ 9223372036854775807) (w : World) (hg : Ev s w) (hL : Objs w ao len cap zs) :
    Calls Tryz.prog 11 #[.slice ao len cap, .string (bs x0), .string (bs x1)] w (BoolP true w) := by
  have D := Lib.hid (WE.of hg)
  obtain ⟨y0, hy0⟩ : ∃ y, x0.take 50 = y := ⟨_, rfl⟩
  have HC0 := Lib.hid (fun W => cutN_any x0 z W)
  rw [hy0] at HC0
  have HY0 := Lib.hid (hy0 ▸ cut_len x0)
  clear hy0
  obtain ⟨l, hl⟩ : ∃ l, fewL (obs zs) = l := ⟨_, rfl⟩
  obtain ⟨k0, hk0⟩ : ∃ k0, l.length = k0 := ⟨_, rfl⟩
  have HL := Lib.hid (And.intro hL (And.intro hl (And.intro hk0 (show Small l from hl ▸ small_few _))))
  obtain ⟨t, ht⟩ : ∃ y, x1.take 1010 = y := ⟨_, rfl⟩
  have HC1 := Lib.hid (fun W => long_any x1 z1 W)
  rw [ht] at HC1
  have HY1 := Lib.hid (ht ▸ long_len x1)
  obtain ⟨ec, al, ka, ha, hka⟩ := pu_pair l y0 t
  have M := Lib.hid (And.intro ha hka)
  clear hg hL z z1 hl hk0 ha hka ht
  go_enter Tryz.func11, Tryz.ntmps11
  go_wp2_with (go_at_call 12; refine (shown_e s _ D.out.ev).mono ?_)
  rintro e w1 ⟨rfl, hb⟩
  replace D := Lib.hid (D.out.more hb)
  have HF := Lib.hid (FewO_p HL.out.2.1 HL.out.2.2.1 (HL.out.1.more hb))
  clear hb
  go_wp2_with (go_at_call 13; refine HF.out.mono ?_)
  rintro e w2 ⟨vs, va, vc, rfl, hvs, hO, hb⟩
  replace D := Lib.hid (D.out.more hb)
  have L := Lib.hid (SO.mk hvs hO HL.out.2.2.2)
  clear hvs hO hb HF
  go_wp2_with (go_at_call 15; refine (HC0.out _).mono ?_)
  rintro e w3 ⟨rfl, rfl⟩
  go_wp2_with (go_at_call 33; refine (HC1.out _).mono ?_)
  rintro e w3 ⟨rfl, rfl⟩
  go_wp2_with (go_at_call 39; refine (Put_w HY1.out M.out.1 M.out.2 L.out D.out).mono ?_)
  rintro e wn ⟨avs, aa, ac, rfl, hA, hb⟩
  replace D := Lib.hid (D.out.more hb)
  replace L := Lib.hid (L.out.more hb)
  have A := Lib.hid hA
  clear hA hb
  by_cases he : ec = 0
  · subst he
    obtain ⟨o, g1, g2, b, g3, g4, g5, g6⟩ := put_take M.out.1
    obtain ⟨i, hi, hil, hia⟩ := findI_of g1
    rw [L.out.len] at hil
    obtain ⟨kb, hkb⟩ : ∃ kb, b.length = kb := ⟨_, rfl⟩
    obtain ⟨it, hit⟩ : ∃ it, tkX al y0 = it := ⟨_, rfl⟩
    have HR := Lib.hid (And.intro g3 (And.intro hkb (And.intro hit (And.intro hia (And.intro g4 (And.intro (hit.symm.trans g5) g6))))))
    clear g1 g2 g3 g4 g5 g6 hia hkb hit
    go_wp2_with (go_at_call 21; refine (Find_w hi L.out).mono ?_)
    rintro e wn ⟨rfl, hb⟩
    replace D := Lib.hid (D.out.more hb)
    replace L := Lib.hid (L.out.more hb)
    replace A := Lib.hid (A.out.more hb)
    clear hb
    clear hi
    go_wp2_with (go_at_call 41; refine (Take_w HR.out.2.2.1 HR.out.1 HR.out.2.1 A.out D.out).mono ?_)
    rintro e wn ⟨bvs, ba, bc, rfl, hA, hb⟩
    replace D := Lib.hid (D.out.more hb)
    replace L := Lib.hid (L.out.more hb)
    have B := Lib.hid hA
    clear hA hb A
    have h1 : decide ((i : Int) < 0) = false := decide_eq_false (by omega)
    have h2 : decide ((i : Int) ≥ (k0 : Int)) = false := decide_eq_false (by omega)
    obtain ⟨g, off, x, rfl, hx, hlv, hc⟩ := L.out.cell HR.out.2.2.2.1
    obtain ⟨c0, c1, c2, c3, c4⟩ := hc
    clear c0 c1 c2 c3
    have hT := hlv.t
    rw [hx] at c4 hT
    clear hlv
    have HT := Lib.hid hT
    clear hT
    cases hol : o.l with
    | nil =>
      rw [hol] at c4
      replace c4 : wn.cell? ⟨g, off + i * 5 + 4, none⟩ = some (.slice x.a 0 x.c) := c4
      obtain rfl : it = t := by rw [HR.out.2.2.2.2.2.1, hol]; rfl
      have HS := Lib.hid (Same_w (sameL_iff.2 (HR.out.2.2.2.2.2.2 hol)) B.out L.out)
      clear hol
      go_wp2_with (go_at_call 33; refine (HC1.out _).mono ?_)
      rintro e w9 ⟨rfl, rfl⟩
      go_wp2_with (go_at_call 26; refine HS.out.mono ?_)
      rintro e w9 ⟨rfl, hb⟩
      replace D := Lib.hid (D.out.more hb)
      clear hb
      go_wp2
      go_ret
      exact ⟨rfl, D.out.below⟩
    | cons y r =>
      rw [hol] at c4
      obtain ⟨b2, off2, ea, _, hcs⟩ := HT.out.at (by rw [hol]; simp)
      have q0 : wn.cell? ⟨b2, off2, none⟩ = some (.string (bs y)) := by simpa using hcs 0 y (by rw [hol]; rfl)
      rw [ea] at c4
      replace c4 : wn.cell? ⟨g, off + i * 5 + 4, none⟩ = some (.slice (some ⟨b2, off2, none⟩) (r.length + 1) x.c) := c4
      obtain rfl : it = y := by rw [HR.out.2.2.2.2.2.1, hol]; rfl
      have hpos : decide (((r.length + 1 : Nat) : Int) > 0) = true := decide_eq_true (by omega)
      obtain ⟨n1, hn1⟩ : ∃ n1, r.length + 1 = n1 := ⟨_, rfl⟩
      rw [hn1] at c4 hpos
      have hn0 : 0 < n1 := by omega
      obtain ⟨cc, hcc⟩ : ∃ cc, costR l = cc := ⟨_, rfl⟩
      have HK := Lib.hid (And.intro (HR.out.2.2.2.2.1.trans hcc) hcc)
      clear hol hcs ea hn1 hcc
      go_wp2_with (go_at_call 19; refine (Cost_w HK.out.1 B.out D.out).mono ?_)
      rintro e w9 ⟨rfl, hb⟩
      replace D := Lib.hid (D.out.more hb)
      replace L := Lib.hid (L.out.more hb)
      clear hb
      go_wp2_with (go_at_call 19; refine (Cost_w HK.out.2 L.out D.out).mono ?_)
      rintro e w8 ⟨rfl, hb⟩
      replace D := Lib.hid (D.out.more hb)
      clear hb
      go_wp2
      go_ret
      exact ⟨rfl, D.out.below⟩
  · have h1 : (ec != 0) = true := by simp [he]
    obtain rfl := chg_none M.out.1 he
    obtain rfl : 0 = ka := M.out.2
    clear he
    go_wp2
    go_ret
    exact ⟨rfl, D.out.below⟩

end Go.Proofs.YtnbpfbmhheimbaaGreatDoor
