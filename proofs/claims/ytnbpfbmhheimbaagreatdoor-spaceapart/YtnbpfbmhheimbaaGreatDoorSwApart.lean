/- SpaceApart: the walk. -/
import Derived.Test.YtnbpfbmhheimbaaGreatDoorSpPairs
import Derived.Test.YtnbpfbmhheimbaaGreatDoorSpRef2
namespace Go.Proofs.YtnbpfbmhheimbaaGreatDoor
open Go.RowKit Go.Proofs.Fld Go.Proofs.Rng Go.Proofs.Spc Go.Shelf Go.Sort

set_option maxRecDepth 100000 in
set_option maxHeartbeats 4000000 in
theorem apart_walk {s : Sn} (ao : Option Addr) (len cap : Nat) (zs : List Ov) (q : Int) (x0 x1 : It) (k n : Int) (x2 : It) (z : x0.length ≤ 9223372036854775807) (z1 : x1.length ≤ 9223372036854775807) (z2 : x2.length ≤ 9223372036854775807) (w : World) (hg : Ev s w) (hL : Objs w ao len cap zs) :
    Calls Tryz.prog 7 #[.slice ao len cap, .int .i64 q, .string (bs x0), .string (bs x1), .int .i64 k, .int .i64 n, .string (bs x2)] w (BoolP true w) := by
  have D := Lib.hid (WE.of hg)
  obtain ⟨y0, hy0⟩ : ∃ y, x0.take 50 = y := ⟨_, rfl⟩
  have HC0 := Lib.hid (fun W => cutN_any x0 z W)
  rw [hy0] at HC0
  have HY0 := Lib.hid (hy0 ▸ cut_len x0)
  clear hy0
  obtain ⟨y1, hy1⟩ : ∃ y, x1.take 50 = y := ⟨_, rfl⟩
  have HC1 := Lib.hid (fun W => cutN_any x1 z1 W)
  rw [hy1] at HC1
  have HY1 := Lib.hid (hy1 ▸ cut_len x1)
  clear hy1
  obtain ⟨l, hl⟩ : ∃ l, fewL (obs zs) = l := ⟨_, rfl⟩
  obtain ⟨k0, hk0⟩ : ∃ k0, l.length = k0 := ⟨_, rfl⟩
  have HL := Lib.hid (And.intro hL (And.intro hl (And.intro hk0 (show Small l from hl ▸ small_few _))))
  obtain ⟨t, ht⟩ : ∃ y, x2.take 50 = y := ⟨_, rfl⟩
  have HC2 := Lib.hid (fun W => cutN_any x2 z2 W)
  rw [ht] at HC2
  have HY2 := Lib.hid (ht ▸ cut_len x2)
  obtain ⟨ec, al, ka, ha, hka⟩ := mk_pair l q y0 k n
  obtain ⟨fc, bl, kb, hb, hkb⟩ := dr_pair l y0
  obtain ⟨gc, cl, kc, hc, hkc⟩ := wr_pair l q y0 n t
  obtain ⟨dc, dl, kd, hd, hkd⟩ := pu_pair l y0 t
  have M := Lib.hid (And.intro ha (And.intro hb (And.intro hc hd)))
  have K := Lib.hid (And.intro hka (And.intro hkb (And.intro hkc hkd)))
  have hnm : ((bs y0).toList == (bs y1).toList) = decide (y0 = y1) := str_same _ _
  clear hg hL z z1 z2 hl hk0 ha hb hc hd hka hkb hkc hkd ht
  go_enter Tryz.func7, Tryz.ntmps7
  go_wp2_with (go_at_call 12; refine (shown_e s _ D.out.ev).mono ?_)
  rintro e w1 ⟨rfl, hb⟩
  replace D := Lib.hid (D.out.more hb)
  have HF := Lib.hid (FewO_p HL.out.2.1 HL.out.2.2.1 (HL.out.1.more hb))
  clear hb
  go_wp2_with (go_at_call 13; refine HF.out.mono ?_)
  rintro e w2 ⟨vs, va, vc, rfl, hvs, hO, hb⟩
  replace D := Lib.hid (D.out.more hb)
  have L := Lib.hid (SO.mk hvs hO HL.out.2.2.2)
  clear hvs hO hb HF
  go_wp2_with (go_at_call 15; refine (HC0.out _).mono ?_)
  rintro e w3 ⟨rfl, rfl⟩
  go_wp2_with (go_at_call 15; refine (HC1.out _).mono ?_)
  rintro e w3 ⟨rfl, rfl⟩
  go_wp2_with (go_at_call 28; refine (Make_w M.out.1 K.out.1 HY0.out L.out D.out).mono ?_)
  rintro e wn ⟨avs, aa, ac, rfl, hA, hb⟩
  replace D := Lib.hid (D.out.more hb)
  replace L := Lib.hid (L.out.more hb)
  have A := Lib.hid hA
  clear hA hb
  go_wp2_with (go_at_call 30; refine (Drop_w M.out.2.1 K.out.2.1 L.out D.out).mono ?_)
  rintro e wn ⟨bvs, ba, bc, rfl, hA, hb⟩
  replace D := Lib.hid (D.out.more hb)
  replace L := Lib.hid (L.out.more hb)
  replace A := Lib.hid (A.out.more hb)
  have B := Lib.hid hA
  clear hA hb
  go_wp2_with (go_at_call 15; refine (HC2.out _).mono ?_)
  rintro e w3 ⟨rfl, rfl⟩
  go_wp2_with (go_at_call 32; refine (Write_w (Nat.le_trans HY2.out (by omega)) M.out.2.2.1 K.out.2.2.1 L.out D.out).mono ?_)
  rintro e wn ⟨cvs, ca, cc, rfl, hA, hb⟩
  replace D := Lib.hid (D.out.more hb)
  replace L := Lib.hid (L.out.more hb)
  replace A := Lib.hid (A.out.more hb)
  replace B := Lib.hid (B.out.more hb)
  have C := Lib.hid hA
  clear hA hb
  go_wp2_with (go_at_call 15; refine (HC2.out _).mono ?_)
  rintro e w3 ⟨rfl, rfl⟩
  go_wp2_with (go_at_call 39; refine (Put_w HY2.out M.out.2.2.2 K.out.2.2.2 L.out D.out).mono ?_)
  rintro e wn ⟨dvs, da, dcp, rfl, hA, hb⟩
  replace D := Lib.hid (D.out.more hb)
  replace L := Lib.hid (L.out.more hb)
  replace A := Lib.hid (A.out.more hb)
  replace B := Lib.hid (B.out.more hb)
  replace C := Lib.hid (C.out.more hb)
  have F := Lib.hid hA
  clear hA hb
  by_cases hy : y0 = y1
  · rw [decide_eq_true hy] at hnm
    clear hy
    go_wp2
    go_ret
    exact ⟨rfl, D.out.below⟩
  rw [decide_eq_false hy] at hnm
  have hA : (ec = 0 ∧ getO al y1 = getO l y1) ∨ (ec != 0) = true := by
    by_cases he : ec = 0
    · subst he
      exact .inl ⟨rfl, mk_other M.out.1 hy⟩
    · exact .inr (by simp [he])
  have hB : (fc = 0 ∧ getO bl y1 = getO l y1) ∨ (fc != 0) = true := by
    by_cases he : fc = 0
    · subst he
      exact .inl ⟨rfl, drop_other M.out.2.1 hy⟩
    · exact .inr (by simp [he])
  have hC : (gc = 0 ∧ getO cl y1 = getO l y1) ∨ (gc != 0) = true := by
    by_cases he : gc = 0
    · subst he
      exact .inl ⟨rfl, chg_other (keep_wr n t) M.out.2.2.1 hy⟩
    · exact .inr (by simp [he])
  have hF : (dc = 0 ∧ getO dl y1 = getO l y1) ∨ (dc != 0) = true := by
    by_cases he : dc = 0
    · subst he
      exact .inl ⟨rfl, chg_other (keep_put t) M.out.2.2.2 hy⟩
    · exact .inr (by simp [he])
  clear hy
  clear M K HY0 HY1 HY2 HC0 HC1 HC2 HL
  rcases hA with ⟨rfl, a1⟩ | a1
  · rcases hB with ⟨rfl, b1⟩ | b1
    · rcases hC with ⟨rfl, c1⟩ | c1
      · rcases hF with ⟨rfl, f1⟩ | f1
        · replace a1 := Lib.hid a1
          replace b1 := Lib.hid b1
          replace c1 := Lib.hid c1
          replace f1 := Lib.hid f1
          go_wp2_with (go_at_call 43; refine (kept_w a1.out L.out A.out).mono ?_)
          rintro e wn ⟨rfl, hb⟩
          replace D := Lib.hid (D.out.more hb)
          replace L := Lib.hid (L.out.more hb)
          replace B := Lib.hid (B.out.more hb)
          replace C := Lib.hid (C.out.more hb)
          replace F := Lib.hid (F.out.more hb)
          clear hb
          go_wp2_with (go_at_call 43; refine (kept_w b1.out L.out B.out).mono ?_)
          rintro e wn ⟨rfl, hb⟩
          replace D := Lib.hid (D.out.more hb)
          replace L := Lib.hid (L.out.more hb)
          replace C := Lib.hid (C.out.more hb)
          replace F := Lib.hid (F.out.more hb)
          clear hb
          go_wp2_with (go_at_call 43; refine (kept_w c1.out L.out C.out).mono ?_)
          rintro e wn ⟨rfl, hb⟩
          replace D := Lib.hid (D.out.more hb)
          replace L := Lib.hid (L.out.more hb)
          replace F := Lib.hid (F.out.more hb)
          clear hb
          go_wp2_with (go_at_call 43; refine (kept_w f1.out L.out F.out).mono ?_)
          rintro e wn ⟨rfl, hb⟩
          replace D := Lib.hid (D.out.more hb)
          clear hb
          go_wp2
          go_ret
          exact ⟨rfl, D.out.below⟩
        · replace a1 := Lib.hid a1
          replace b1 := Lib.hid b1
          replace c1 := Lib.hid c1
          go_wp2_with (go_at_call 43; refine (kept_w a1.out L.out A.out).mono ?_)
          rintro e wn ⟨rfl, hb⟩
          replace D := Lib.hid (D.out.more hb)
          replace L := Lib.hid (L.out.more hb)
          replace B := Lib.hid (B.out.more hb)
          replace C := Lib.hid (C.out.more hb)
          clear hb
          go_wp2_with (go_at_call 43; refine (kept_w b1.out L.out B.out).mono ?_)
          rintro e wn ⟨rfl, hb⟩
          replace D := Lib.hid (D.out.more hb)
          replace L := Lib.hid (L.out.more hb)
          replace C := Lib.hid (C.out.more hb)
          clear hb
          go_wp2_with (go_at_call 43; refine (kept_w c1.out L.out C.out).mono ?_)
          rintro e wn ⟨rfl, hb⟩
          replace D := Lib.hid (D.out.more hb)
          clear hb
          go_wp2
          go_ret
          exact ⟨rfl, D.out.below⟩
      · rcases hF with ⟨rfl, f1⟩ | f1
        · replace a1 := Lib.hid a1
          replace b1 := Lib.hid b1
          replace f1 := Lib.hid f1
          go_wp2_with (go_at_call 43; refine (kept_w a1.out L.out A.out).mono ?_)
          rintro e wn ⟨rfl, hb⟩
          replace D := Lib.hid (D.out.more hb)
          replace L := Lib.hid (L.out.more hb)
          replace B := Lib.hid (B.out.more hb)
          replace F := Lib.hid (F.out.more hb)
          clear hb
          go_wp2_with (go_at_call 43; refine (kept_w b1.out L.out B.out).mono ?_)
          rintro e wn ⟨rfl, hb⟩
          replace D := Lib.hid (D.out.more hb)
          replace L := Lib.hid (L.out.more hb)
          replace F := Lib.hid (F.out.more hb)
          clear hb
          go_wp2_with (go_at_call 43; refine (kept_w f1.out L.out F.out).mono ?_)
          rintro e wn ⟨rfl, hb⟩
          replace D := Lib.hid (D.out.more hb)
          clear hb
          go_wp2
          go_ret
          exact ⟨rfl, D.out.below⟩
        · replace a1 := Lib.hid a1
          replace b1 := Lib.hid b1
          go_wp2_with (go_at_call 43; refine (kept_w a1.out L.out A.out).mono ?_)
          rintro e wn ⟨rfl, hb⟩
          replace D := Lib.hid (D.out.more hb)
          replace L := Lib.hid (L.out.more hb)
          replace B := Lib.hid (B.out.more hb)
          clear hb
          go_wp2_with (go_at_call 43; refine (kept_w b1.out L.out B.out).mono ?_)
          rintro e wn ⟨rfl, hb⟩
          replace D := Lib.hid (D.out.more hb)
          clear hb
          go_wp2
          go_ret
          exact ⟨rfl, D.out.below⟩
    · rcases hC with ⟨rfl, c1⟩ | c1
      · rcases hF with ⟨rfl, f1⟩ | f1
        · replace a1 := Lib.hid a1
          replace c1 := Lib.hid c1
          replace f1 := Lib.hid f1
          go_wp2_with (go_at_call 43; refine (kept_w a1.out L.out A.out).mono ?_)
          rintro e wn ⟨rfl, hb⟩
          replace D := Lib.hid (D.out.more hb)
          replace L := Lib.hid (L.out.more hb)
          replace C := Lib.hid (C.out.more hb)
          replace F := Lib.hid (F.out.more hb)
          clear hb
          go_wp2_with (go_at_call 43; refine (kept_w c1.out L.out C.out).mono ?_)
          rintro e wn ⟨rfl, hb⟩
          replace D := Lib.hid (D.out.more hb)
          replace L := Lib.hid (L.out.more hb)
          replace F := Lib.hid (F.out.more hb)
          clear hb
          go_wp2_with (go_at_call 43; refine (kept_w f1.out L.out F.out).mono ?_)
          rintro e wn ⟨rfl, hb⟩
          replace D := Lib.hid (D.out.more hb)
          clear hb
          go_wp2
          go_ret
          exact ⟨rfl, D.out.below⟩
        · replace a1 := Lib.hid a1
          replace c1 := Lib.hid c1
          go_wp2_with (go_at_call 43; refine (kept_w a1.out L.out A.out).mono ?_)
          rintro e wn ⟨rfl, hb⟩
          replace D := Lib.hid (D.out.more hb)
          replace L := Lib.hid (L.out.more hb)
          replace C := Lib.hid (C.out.more hb)
          clear hb
          go_wp2_with (go_at_call 43; refine (kept_w c1.out L.out C.out).mono ?_)
          rintro e wn ⟨rfl, hb⟩
          replace D := Lib.hid (D.out.more hb)
          clear hb
          go_wp2
          go_ret
          exact ⟨rfl, D.out.below⟩
      · rcases hF with ⟨rfl, f1⟩ | f1
        · replace a1 := Lib.hid a1
          replace f1 := Lib.hid f1
          go_wp2_with (go_at_call 43; refine (kept_w a1.out L.out A.out).mono ?_)
          rintro e wn ⟨rfl, hb⟩
          replace D := Lib.hid (D.out.more hb)
          replace L := Lib.hid (L.out.more hb)
          replace F := Lib.hid (F.out.more hb)
          clear hb
          go_wp2_with (go_at_call 43; refine (kept_w f1.out L.out F.out).mono ?_)
          rintro e wn ⟨rfl, hb⟩
          replace D := Lib.hid (D.out.more hb)
          clear hb
          go_wp2
          go_ret
          exact ⟨rfl, D.out.below⟩
        · replace a1 := Lib.hid a1
          go_wp2_with (go_at_call 43; refine (kept_w a1.out L.out A.out).mono ?_)
          rintro e wn ⟨rfl, hb⟩
          replace D := Lib.hid (D.out.more hb)
          clear hb
          go_wp2
          go_ret
          exact ⟨rfl, D.out.below⟩
  · rcases hB with ⟨rfl, b1⟩ | b1
    · rcases hC with ⟨rfl, c1⟩ | c1
      · rcases hF with ⟨rfl, f1⟩ | f1
        · replace b1 := Lib.hid b1
          replace c1 := Lib.hid c1
          replace f1 := Lib.hid f1
          go_wp2_with (go_at_call 43; refine (kept_w b1.out L.out B.out).mono ?_)
          rintro e wn ⟨rfl, hb⟩
          replace D := Lib.hid (D.out.more hb)
          replace L := Lib.hid (L.out.more hb)
          replace C := Lib.hid (C.out.more hb)
          replace F := Lib.hid (F.out.more hb)
          clear hb
          go_wp2_with (go_at_call 43; refine (kept_w c1.out L.out C.out).mono ?_)
          rintro e wn ⟨rfl, hb⟩
          replace D := Lib.hid (D.out.more hb)
          replace L := Lib.hid (L.out.more hb)
          replace F := Lib.hid (F.out.more hb)
          clear hb
          go_wp2_with (go_at_call 43; refine (kept_w f1.out L.out F.out).mono ?_)
          rintro e wn ⟨rfl, hb⟩
          replace D := Lib.hid (D.out.more hb)
          clear hb
          go_wp2
          go_ret
          exact ⟨rfl, D.out.below⟩
        · replace b1 := Lib.hid b1
          replace c1 := Lib.hid c1
          go_wp2_with (go_at_call 43; refine (kept_w b1.out L.out B.out).mono ?_)
          rintro e wn ⟨rfl, hb⟩
          replace D := Lib.hid (D.out.more hb)
          replace L := Lib.hid (L.out.more hb)
          replace C := Lib.hid (C.out.more hb)
          clear hb
          go_wp2_with (go_at_call 43; refine (kept_w c1.out L.out C.out).mono ?_)
          rintro e wn ⟨rfl, hb⟩
          replace D := Lib.hid (D.out.more hb)
          clear hb
          go_wp2
          go_ret
          exact ⟨rfl, D.out.below⟩
      · rcases hF with ⟨rfl, f1⟩ | f1
        · replace b1 := Lib.hid b1
          replace f1 := Lib.hid f1
          go_wp2_with (go_at_call 43; refine (kept_w b1.out L.out B.out).mono ?_)
          rintro e wn ⟨rfl, hb⟩
          replace D := Lib.hid (D.out.more hb)
          replace L := Lib.hid (L.out.more hb)
          replace F := Lib.hid (F.out.more hb)
          clear hb
          go_wp2_with (go_at_call 43; refine (kept_w f1.out L.out F.out).mono ?_)
          rintro e wn ⟨rfl, hb⟩
          replace D := Lib.hid (D.out.more hb)
          clear hb
          go_wp2
          go_ret
          exact ⟨rfl, D.out.below⟩
        · replace b1 := Lib.hid b1
          go_wp2_with (go_at_call 43; refine (kept_w b1.out L.out B.out).mono ?_)
          rintro e wn ⟨rfl, hb⟩
          replace D := Lib.hid (D.out.more hb)
          clear hb
          go_wp2
          go_ret
          exact ⟨rfl, D.out.below⟩
    · rcases hC with ⟨rfl, c1⟩ | c1
      · rcases hF with ⟨rfl, f1⟩ | f1
        · replace c1 := Lib.hid c1
          replace f1 := Lib.hid f1
          go_wp2_with (go_at_call 43; refine (kept_w c1.out L.out C.out).mono ?_)
          rintro e wn ⟨rfl, hb⟩
          replace D := Lib.hid (D.out.more hb)
          replace L := Lib.hid (L.out.more hb)
          replace F := Lib.hid (F.out.more hb)
          clear hb
          go_wp2_with (go_at_call 43; refine (kept_w f1.out L.out F.out).mono ?_)
          rintro e wn ⟨rfl, hb⟩
          replace D := Lib.hid (D.out.more hb)
          clear hb
          go_wp2
          go_ret
          exact ⟨rfl, D.out.below⟩
        · replace c1 := Lib.hid c1
          go_wp2_with (go_at_call 43; refine (kept_w c1.out L.out C.out).mono ?_)
          rintro e wn ⟨rfl, hb⟩
          replace D := Lib.hid (D.out.more hb)
          clear hb
          go_wp2
          go_ret
          exact ⟨rfl, D.out.below⟩
      · rcases hF with ⟨rfl, f1⟩ | f1
        · replace f1 := Lib.hid f1
          go_wp2_with (go_at_call 43; refine (kept_w f1.out L.out F.out).mono ?_)
          rintro e wn ⟨rfl, hb⟩
          replace D := Lib.hid (D.out.more hb)
          clear hb
          go_wp2
          go_ret
          exact ⟨rfl, D.out.below⟩
        · go_wp2
          go_ret
          exact ⟨rfl, D.out.below⟩

end Go.Proofs.YtnbpfbmhheimbaaGreatDoor
