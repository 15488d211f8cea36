/- SpaceBound: the walk. -/
import Derived.Test.YtnbpfbmhheimbaaGreatDoorSpPairs
namespace Go.Proofs.YtnbpfbmhheimbaaGreatDoor
open Go.RowKit Go.Proofs.Fld Go.Proofs.Rng Go.Proofs.Spc Go.Shelf Go.Sort

theorem bnd_mk {l a : List Ob} {q : Int} {n : It} {k m : Int} (h : mkR l q n k m = (0, a)) : rightB a = true ∧ costR a ≤ q ∧ costR l < costR a := by
  obtain ⟨h1, h2, h3, h4⟩ := mk_bound h
  rw [right_cost h1, right_cost h2]
  exact ⟨h2, h3, h4⟩
theorem bnd_chg {l a : List Ob} {q : Int} {n : It} {k : Int} {f : Ob → Int × Ob} (hf : Keep k f) (h : chgR l q n k f = (0, a)) : rightB a = true ∧ (costR a ≤ q ∨ costR a ≤ costR l) := by
  obtain ⟨h1, h2, h3⟩ := chg_bound hf h
  rw [right_cost h1, right_cost h2]
  exact ⟨h2, h3⟩
theorem bnd_drop {l a : List Ob} {n : It} (h : dropR l n = (0, a)) : rightB a = true ∧ costR a < costR l := by
  obtain ⟨h1, h2, h3⟩ := drop_bound h
  rw [right_cost h1, right_cost h2]
  exact ⟨h2, h3⟩

set_option maxRecDepth 100000 in
set_option maxHeartbeats 4000000 in
theorem bound_walk {s : Sn} (ao : Option Addr) (len cap : Nat) (zs : List Ov) (q : Int) (x0 : It) (k n : Int) (x1 : It) (z : x0.length ≤ 9223372036854775807) (z1 : x1.length ≤ 9223372036854775807) (w : World) (hg : Ev s w) (hL : Objs w ao len cap zs) :
    Calls Tryz.prog 8 #[.slice ao len cap, .int .i64 q, .string (bs x0), .int .i64 k, .int .i64 n, .string (bs x1)] w (BoolP true w) := by
  have D := Lib.hid (WE.of hg)
  obtain ⟨y0, hy0⟩ : ∃ y, x0.take 50 = y := ⟨_, rfl⟩
  have HC0 := Lib.hid (fun W => cutN_any x0 z W)
  rw [hy0] at HC0
  have HY0 := Lib.hid (hy0 ▸ cut_len x0)
  clear hy0
  obtain ⟨l, hl⟩ : ∃ l, fewL (obs zs) = l := ⟨_, rfl⟩
  obtain ⟨k0, hk0⟩ : ∃ k0, l.length = k0 := ⟨_, rfl⟩
  have HL := Lib.hid (And.intro hL (And.intro hl (And.intro hk0 (show Small l from hl ▸ small_few _))))
  obtain ⟨t, ht⟩ : ∃ y, x1.take 1010 = y := ⟨_, rfl⟩
  have HC1 := Lib.hid (fun W => long_any x1 z1 W)
  rw [ht] at HC1
  have HY1 := Lib.hid (ht ▸ long_len x1)
  obtain ⟨ec, al, ka, ha, hka⟩ := mk_pair l q y0 k n
  obtain ⟨fc, bl, kb, hb, hkb⟩ := wr_pair l q y0 n t
  obtain ⟨gc, cl, kc, hc, hkc⟩ := cu_pair l q y0 n
  obtain ⟨dc, dl, kd, hd, hkd⟩ := dr_pair l y0
  obtain ⟨was, hwas⟩ : ∃ c, costR l = c := ⟨_, rfl⟩
  obtain ⟨cA, hcA⟩ : ∃ c, costR al = c := ⟨_, rfl⟩
  obtain ⟨cB, hcB⟩ : ∃ c, costR bl = c := ⟨_, rfl⟩
  obtain ⟨cC, hcC⟩ : ∃ c, costR cl = c := ⟨_, rfl⟩
  obtain ⟨cD, hcD⟩ : ∃ c, costR dl = c := ⟨_, rfl⟩
  have M := Lib.hid (And.intro ha (And.intro hb (And.intro hc hd)))
  have K := Lib.hid (And.intro hka (And.intro hkb (And.intro hkc hkd)))
  have E := Lib.hid (And.intro hwas (And.intro hcA (And.intro hcB (And.intro hcC hcD))))
  clear hg hL z z1 hl hk0 ha hb hc hd hka hkb hkc hkd ht hwas hcA hcB hcC hcD
  go_enter Tryz.func8, Tryz.ntmps8
  go_wp2_with (go_at_call 12; refine (shown_e s _ D.out.ev).mono ?_)
  rintro e w1 ⟨rfl, hb⟩
  replace D := Lib.hid (D.out.more hb)
  have HF := Lib.hid (FewO_p HL.out.2.1 HL.out.2.2.1 (HL.out.1.more hb))
  clear hb
  go_wp2_with (go_at_call 13; refine HF.out.mono ?_)
  rintro e w2 ⟨vs, va, vc, rfl, hvs, hO, hb⟩
  replace D := Lib.hid (D.out.more hb)
  have L := Lib.hid (SO.mk hvs hO HL.out.2.2.2)
  clear hvs hO hb HF
  go_wp2_with (go_at_call 15; refine (HC0.out _).mono ?_)
  rintro e w3 ⟨rfl, rfl⟩
  go_wp2_with (go_at_call 19; refine (Cost_w E.out.1 L.out D.out).mono ?_)
  rintro e wn ⟨rfl, hb⟩
  replace D := Lib.hid (D.out.more hb)
  replace L := Lib.hid (L.out.more hb)
  clear hb
  go_wp2_with (go_at_call 28; refine (Make_w M.out.1 K.out.1 HY0.out L.out D.out).mono ?_)
  rintro e wn ⟨avs, aa, ac, rfl, hA, hb⟩
  replace D := Lib.hid (D.out.more hb)
  replace L := Lib.hid (L.out.more hb)
  have A := Lib.hid hA
  clear hA hb
  go_wp2_with (go_at_call 33; refine (HC1.out _).mono ?_)
  rintro e w3 ⟨rfl, rfl⟩
  go_wp2_with (go_at_call 32; refine (Write_w (Nat.le_trans HY1.out (by omega)) M.out.2.1 K.out.2.1 L.out D.out).mono ?_)
  rintro e wn ⟨bvs, ba, bc, rfl, hA, hb⟩
  replace D := Lib.hid (D.out.more hb)
  replace L := Lib.hid (L.out.more hb)
  replace A := Lib.hid (A.out.more hb)
  have B := Lib.hid hA
  clear hA hb
  go_wp2_with (go_at_call 37; refine (Cut_w M.out.2.2.1 K.out.2.2.1 L.out D.out).mono ?_)
  rintro e wn ⟨cvs, ca, cc, rfl, hA, hb⟩
  replace D := Lib.hid (D.out.more hb)
  replace L := Lib.hid (L.out.more hb)
  replace A := Lib.hid (A.out.more hb)
  replace B := Lib.hid (B.out.more hb)
  have C := Lib.hid hA
  clear hA hb
  go_wp2_with (go_at_call 30; refine (Drop_w M.out.2.2.2 K.out.2.2.2 L.out D.out).mono ?_)
  rintro e wn ⟨dvs, da, dcp, rfl, hA, hb⟩
  replace D := Lib.hid (D.out.more hb)
  replace A := Lib.hid (A.out.more hb)
  replace B := Lib.hid (B.out.more hb)
  replace C := Lib.hid (C.out.more hb)
  have F := Lib.hid hA
  clear hA hb
  clear L
  have hA : (ec = 0 ∧ rightB al = true ∧ decide (cA ≤ q) = true ∧ decide (cA > was) = true) ∨ (ec != 0) = true := by
    by_cases he : ec = 0
    · subst he
      obtain ⟨h1, h2, h3⟩ := bnd_mk M.out.1
      rw [E.out.2.1] at h2 h3
      rw [E.out.1] at h3
      exact .inl ⟨rfl, h1, decide_eq_true h2, decide_eq_true h3⟩
    · exact .inr (by simp [he])
  obtain ⟨mx, hmx⟩ : ∃ mx, max was q = mx := ⟨_, rfl⟩
  have hB : (fc = 0 ∧ rightB bl = true ∧ decide (cB ≤ mx) = true) ∨ (fc != 0) = true := by
    by_cases he : fc = 0
    · subst he
      obtain ⟨h1, h2⟩ := bnd_chg (keep_wr n t) M.out.2.1
      rw [E.out.2.2.1, E.out.1] at h2
      exact .inl ⟨rfl, h1, decide_eq_true (by omega)⟩
    · exact .inr (by simp [he])
  have hC : (gc = 0 ∧ rightB cl = true ∧ decide (cC ≤ mx) = true) ∨ (gc != 0) = true := by
    by_cases he : gc = 0
    · subst he
      obtain ⟨h1, h2⟩ := bnd_chg (keep_cut n) M.out.2.2.1
      rw [E.out.2.2.2.1, E.out.1] at h2
      exact .inl ⟨rfl, h1, decide_eq_true (by omega)⟩
    · exact .inr (by simp [he])
  have hF : (dc = 0 ∧ rightB dl = true ∧ decide (cD < was) = true) ∨ (dc != 0) = true := by
    by_cases he : dc = 0
    · subst he
      obtain ⟨h1, h2⟩ := bnd_drop M.out.2.2.2
      rw [E.out.2.2.2.2, E.out.1] at h2
      exact .inl ⟨rfl, h1, decide_eq_true h2⟩
    · exact .inr (by simp [he])
  clear M K HY0 HY1 HC0 HC1 HL
  go_upto_region 9 with (fail)
  simp only [List.append_eq, List.cons_append, List.nil_append]
  rcases hA with ⟨rfl, a1, a2, a3⟩ | a1
  · rcases hB with ⟨rfl, b1, b2⟩ | b1
    · rcases hC with ⟨rfl, c1, c2⟩ | c1
      · rcases hF with ⟨rfl, f1, f2⟩ | f1
        · replace a1 := Lib.hid a1
          replace b1 := Lib.hid b1
          replace c1 := Lib.hid c1
          replace f1 := Lib.hid f1
          go_wp2_with (go_at_call 17; refine (Right_w a1.out A.out D.out).mono ?_)
          rintro e wn ⟨rfl, hb⟩
          replace D := Lib.hid (D.out.more hb)
          replace A := Lib.hid (A.out.more hb)
          replace B := Lib.hid (B.out.more hb)
          replace C := Lib.hid (C.out.more hb)
          replace F := Lib.hid (F.out.more hb)
          clear hb
          go_wp2_with (go_at_call 19; refine (Cost_w E.out.2.1 A.out D.out).mono ?_)
          rintro e wn ⟨rfl, hb⟩
          replace D := Lib.hid (D.out.more hb)
          replace A := Lib.hid (A.out.more hb)
          replace B := Lib.hid (B.out.more hb)
          replace C := Lib.hid (C.out.more hb)
          replace F := Lib.hid (F.out.more hb)
          clear hb
          go_wp2_with (go_at_call 19; refine (Cost_w E.out.2.1 A.out D.out).mono ?_)
          rintro e wn ⟨rfl, hb⟩
          replace D := Lib.hid (D.out.more hb)
          replace B := Lib.hid (B.out.more hb)
          replace C := Lib.hid (C.out.more hb)
          replace F := Lib.hid (F.out.more hb)
          clear hb
          go_wp2_with (go_at_call 17; refine (Right_w b1.out B.out D.out).mono ?_)
          rintro e wn ⟨rfl, hb⟩
          replace D := Lib.hid (D.out.more hb)
          replace B := Lib.hid (B.out.more hb)
          replace C := Lib.hid (C.out.more hb)
          replace F := Lib.hid (F.out.more hb)
          clear hb
          go_wp2_with (go_at_call 19; refine (Cost_w E.out.2.2.1 B.out D.out).mono ?_)
          rintro e wn ⟨rfl, hb⟩
          replace D := Lib.hid (D.out.more hb)
          replace C := Lib.hid (C.out.more hb)
          replace F := Lib.hid (F.out.more hb)
          clear hb
          go_wp2_with (go_at_call 17; refine (Right_w c1.out C.out D.out).mono ?_)
          rintro e wn ⟨rfl, hb⟩
          replace D := Lib.hid (D.out.more hb)
          replace C := Lib.hid (C.out.more hb)
          replace F := Lib.hid (F.out.more hb)
          clear hb
          go_wp2_with (go_at_call 19; refine (Cost_w E.out.2.2.2.1 C.out D.out).mono ?_)
          rintro e wn ⟨rfl, hb⟩
          replace D := Lib.hid (D.out.more hb)
          replace F := Lib.hid (F.out.more hb)
          clear hb
          go_wp2_with (go_at_call 17; refine (Right_w f1.out F.out D.out).mono ?_)
          rintro e wn ⟨rfl, hb⟩
          replace D := Lib.hid (D.out.more hb)
          replace F := Lib.hid (F.out.more hb)
          clear hb
          go_wp2_with (go_at_call 19; refine (Cost_w E.out.2.2.2.2 F.out D.out).mono ?_)
          rintro e wn ⟨rfl, hb⟩
          replace D := Lib.hid (D.out.more hb)
          clear hb
          go_wp2
          go_ret
          exact ⟨rfl, D.out.below⟩
        · replace a1 := Lib.hid a1
          replace b1 := Lib.hid b1
          replace c1 := Lib.hid c1
          go_wp2_with (go_at_call 17; refine (Right_w a1.out A.out D.out).mono ?_)
          rintro e wn ⟨rfl, hb⟩
          replace D := Lib.hid (D.out.more hb)
          replace A := Lib.hid (A.out.more hb)
          replace B := Lib.hid (B.out.more hb)
          replace C := Lib.hid (C.out.more hb)
          clear hb
          go_wp2_with (go_at_call 19; refine (Cost_w E.out.2.1 A.out D.out).mono ?_)
          rintro e wn ⟨rfl, hb⟩
          replace D := Lib.hid (D.out.more hb)
          replace A := Lib.hid (A.out.more hb)
          replace B := Lib.hid (B.out.more hb)
          replace C := Lib.hid (C.out.more hb)
          clear hb
          go_wp2_with (go_at_call 19; refine (Cost_w E.out.2.1 A.out D.out).mono ?_)
          rintro e wn ⟨rfl, hb⟩
          replace D := Lib.hid (D.out.more hb)
          replace B := Lib.hid (B.out.more hb)
          replace C := Lib.hid (C.out.more hb)
          clear hb
          go_wp2_with (go_at_call 17; refine (Right_w b1.out B.out D.out).mono ?_)
          rintro e wn ⟨rfl, hb⟩
          replace D := Lib.hid (D.out.more hb)
          replace B := Lib.hid (B.out.more hb)
          replace C := Lib.hid (C.out.more hb)
          clear hb
          go_wp2_with (go_at_call 19; refine (Cost_w E.out.2.2.1 B.out D.out).mono ?_)
          rintro e wn ⟨rfl, hb⟩
          replace D := Lib.hid (D.out.more hb)
          replace C := Lib.hid (C.out.more hb)
          clear hb
          go_wp2_with (go_at_call 17; refine (Right_w c1.out C.out D.out).mono ?_)
          rintro e wn ⟨rfl, hb⟩
          replace D := Lib.hid (D.out.more hb)
          replace C := Lib.hid (C.out.more hb)
          clear hb
          go_wp2_with (go_at_call 19; refine (Cost_w E.out.2.2.2.1 C.out D.out).mono ?_)
          rintro e wn ⟨rfl, hb⟩
          replace D := Lib.hid (D.out.more hb)
          clear hb
          go_wp2
          go_ret
          exact ⟨rfl, D.out.below⟩
      · rcases hF with ⟨rfl, f1, f2⟩ | f1
        · replace a1 := Lib.hid a1
          replace b1 := Lib.hid b1
          replace f1 := Lib.hid f1
          go_wp2_with (go_at_call 17; refine (Right_w a1.out A.out D.out).mono ?_)
          rintro e wn ⟨rfl, hb⟩
          replace D := Lib.hid (D.out.more hb)
          replace A := Lib.hid (A.out.more hb)
          replace B := Lib.hid (B.out.more hb)
          replace F := Lib.hid (F.out.more hb)
          clear hb
          go_wp2_with (go_at_call 19; refine (Cost_w E.out.2.1 A.out D.out).mono ?_)
          rintro e wn ⟨rfl, hb⟩
          replace D := Lib.hid (D.out.more hb)
          replace A := Lib.hid (A.out.more hb)
          replace B := Lib.hid (B.out.more hb)
          replace F := Lib.hid (F.out.more hb)
          clear hb
          go_wp2_with (go_at_call 19; refine (Cost_w E.out.2.1 A.out D.out).mono ?_)
          rintro e wn ⟨rfl, hb⟩
          replace D := Lib.hid (D.out.more hb)
          replace B := Lib.hid (B.out.more hb)
          replace F := Lib.hid (F.out.more hb)
          clear hb
          go_wp2_with (go_at_call 17; refine (Right_w b1.out B.out D.out).mono ?_)
          rintro e wn ⟨rfl, hb⟩
          replace D := Lib.hid (D.out.more hb)
          replace B := Lib.hid (B.out.more hb)
          replace F := Lib.hid (F.out.more hb)
          clear hb
          go_wp2_with (go_at_call 19; refine (Cost_w E.out.2.2.1 B.out D.out).mono ?_)
          rintro e wn ⟨rfl, hb⟩
          replace D := Lib.hid (D.out.more hb)
          replace F := Lib.hid (F.out.more hb)
          clear hb
          go_wp2_with (go_at_call 17; refine (Right_w f1.out F.out D.out).mono ?_)
          rintro e wn ⟨rfl, hb⟩
          replace D := Lib.hid (D.out.more hb)
          replace F := Lib.hid (F.out.more hb)
          clear hb
          go_wp2_with (go_at_call 19; refine (Cost_w E.out.2.2.2.2 F.out D.out).mono ?_)
          rintro e wn ⟨rfl, hb⟩
          replace D := Lib.hid (D.out.more hb)
          clear hb
          go_wp2
          go_ret
          exact ⟨rfl, D.out.below⟩
        · replace a1 := Lib.hid a1
          replace b1 := Lib.hid b1
          go_wp2_with (go_at_call 17; refine (Right_w a1.out A.out D.out).mono ?_)
          rintro e wn ⟨rfl, hb⟩
          replace D := Lib.hid (D.out.more hb)
          replace A := Lib.hid (A.out.more hb)
          replace B := Lib.hid (B.out.more hb)
          clear hb
          go_wp2_with (go_at_call 19; refine (Cost_w E.out.2.1 A.out D.out).mono ?_)
          rintro e wn ⟨rfl, hb⟩
          replace D := Lib.hid (D.out.more hb)
          replace A := Lib.hid (A.out.more hb)
          replace B := Lib.hid (B.out.more hb)
          clear hb
          go_wp2_with (go_at_call 19; refine (Cost_w E.out.2.1 A.out D.out).mono ?_)
          rintro e wn ⟨rfl, hb⟩
          replace D := Lib.hid (D.out.more hb)
          replace B := Lib.hid (B.out.more hb)
          clear hb
          go_wp2_with (go_at_call 17; refine (Right_w b1.out B.out D.out).mono ?_)
          rintro e wn ⟨rfl, hb⟩
          replace D := Lib.hid (D.out.more hb)
          replace B := Lib.hid (B.out.more hb)
          clear hb
          go_wp2_with (go_at_call 19; refine (Cost_w E.out.2.2.1 B.out D.out).mono ?_)
          rintro e wn ⟨rfl, hb⟩
          replace D := Lib.hid (D.out.more hb)
          clear hb
          go_wp2
          go_ret
          exact ⟨rfl, D.out.below⟩
    · rcases hC with ⟨rfl, c1, c2⟩ | c1
      · rcases hF with ⟨rfl, f1, f2⟩ | f1
        · replace a1 := Lib.hid a1
          replace c1 := Lib.hid c1
          replace f1 := Lib.hid f1
          go_wp2_with (go_at_call 17; refine (Right_w a1.out A.out D.out).mono ?_)
          rintro e wn ⟨rfl, hb⟩
          replace D := Lib.hid (D.out.more hb)
          replace A := Lib.hid (A.out.more hb)
          replace C := Lib.hid (C.out.more hb)
          replace F := Lib.hid (F.out.more hb)
          clear hb
          go_wp2_with (go_at_call 19; refine (Cost_w E.out.2.1 A.out D.out).mono ?_)
          rintro e wn ⟨rfl, hb⟩
          replace D := Lib.hid (D.out.more hb)
          replace A := Lib.hid (A.out.more hb)
          replace C := Lib.hid (C.out.more hb)
          replace F := Lib.hid (F.out.more hb)
          clear hb
          go_wp2_with (go_at_call 19; refine (Cost_w E.out.2.1 A.out D.out).mono ?_)
          rintro e wn ⟨rfl, hb⟩
          replace D := Lib.hid (D.out.more hb)
          replace C := Lib.hid (C.out.more hb)
          replace F := Lib.hid (F.out.more hb)
          clear hb
          go_wp2_with (go_at_call 17; refine (Right_w c1.out C.out D.out).mono ?_)
          rintro e wn ⟨rfl, hb⟩
          replace D := Lib.hid (D.out.more hb)
          replace C := Lib.hid (C.out.more hb)
          replace F := Lib.hid (F.out.more hb)
          clear hb
          go_wp2_with (go_at_call 19; refine (Cost_w E.out.2.2.2.1 C.out D.out).mono ?_)
          rintro e wn ⟨rfl, hb⟩
          replace D := Lib.hid (D.out.more hb)
          replace F := Lib.hid (F.out.more hb)
          clear hb
          go_wp2_with (go_at_call 17; refine (Right_w f1.out F.out D.out).mono ?_)
          rintro e wn ⟨rfl, hb⟩
          replace D := Lib.hid (D.out.more hb)
          replace F := Lib.hid (F.out.more hb)
          clear hb
          go_wp2_with (go_at_call 19; refine (Cost_w E.out.2.2.2.2 F.out D.out).mono ?_)
          rintro e wn ⟨rfl, hb⟩
          replace D := Lib.hid (D.out.more hb)
          clear hb
          go_wp2
          go_ret
          exact ⟨rfl, D.out.below⟩
        · replace a1 := Lib.hid a1
          replace c1 := Lib.hid c1
          go_wp2_with (go_at_call 17; refine (Right_w a1.out A.out D.out).mono ?_)
          rintro e wn ⟨rfl, hb⟩
          replace D := Lib.hid (D.out.more hb)
          replace A := Lib.hid (A.out.more hb)
          replace C := Lib.hid (C.out.more hb)
          clear hb
          go_wp2_with (go_at_call 19; refine (Cost_w E.out.2.1 A.out D.out).mono ?_)
          rintro e wn ⟨rfl, hb⟩
          replace D := Lib.hid (D.out.more hb)
          replace A := Lib.hid (A.out.more hb)
          replace C := Lib.hid (C.out.more hb)
          clear hb
          go_wp2_with (go_at_call 19; refine (Cost_w E.out.2.1 A.out D.out).mono ?_)
          rintro e wn ⟨rfl, hb⟩
          replace D := Lib.hid (D.out.more hb)
          replace C := Lib.hid (C.out.more hb)
          clear hb
          go_wp2_with (go_at_call 17; refine (Right_w c1.out C.out D.out).mono ?_)
          rintro e wn ⟨rfl, hb⟩
          replace D := Lib.hid (D.out.more hb)
          replace C := Lib.hid (C.out.more hb)
          clear hb
          go_wp2_with (go_at_call 19; refine (Cost_w E.out.2.2.2.1 C.out D.out).mono ?_)
          rintro e wn ⟨rfl, hb⟩
          replace D := Lib.hid (D.out.more hb)
          clear hb
          go_wp2
          go_ret
          exact ⟨rfl, D.out.below⟩
      · rcases hF with ⟨rfl, f1, f2⟩ | f1
        · replace a1 := Lib.hid a1
          replace f1 := Lib.hid f1
          go_wp2_with (go_at_call 17; refine (Right_w a1.out A.out D.out).mono ?_)
          rintro e wn ⟨rfl, hb⟩
          replace D := Lib.hid (D.out.more hb)
          replace A := Lib.hid (A.out.more hb)
          replace F := Lib.hid (F.out.more hb)
          clear hb
          go_wp2_with (go_at_call 19; refine (Cost_w E.out.2.1 A.out D.out).mono ?_)
          rintro e wn ⟨rfl, hb⟩
          replace D := Lib.hid (D.out.more hb)
          replace A := Lib.hid (A.out.more hb)
          replace F := Lib.hid (F.out.more hb)
          clear hb
          go_wp2_with (go_at_call 19; refine (Cost_w E.out.2.1 A.out D.out).mono ?_)
          rintro e wn ⟨rfl, hb⟩
          replace D := Lib.hid (D.out.more hb)
          replace F := Lib.hid (F.out.more hb)
          clear hb
          go_wp2_with (go_at_call 17; refine (Right_w f1.out F.out D.out).mono ?_)
          rintro e wn ⟨rfl, hb⟩
          replace D := Lib.hid (D.out.more hb)
          replace F := Lib.hid (F.out.more hb)
          clear hb
          go_wp2_with (go_at_call 19; refine (Cost_w E.out.2.2.2.2 F.out D.out).mono ?_)
          rintro e wn ⟨rfl, hb⟩
          replace D := Lib.hid (D.out.more hb)
          clear hb
          go_wp2
          go_ret
          exact ⟨rfl, D.out.below⟩
        · replace a1 := Lib.hid a1
          go_wp2_with (go_at_call 17; refine (Right_w a1.out A.out D.out).mono ?_)
          rintro e wn ⟨rfl, hb⟩
          replace D := Lib.hid (D.out.more hb)
          replace A := Lib.hid (A.out.more hb)
          clear hb
          go_wp2_with (go_at_call 19; refine (Cost_w E.out.2.1 A.out D.out).mono ?_)
          rintro e wn ⟨rfl, hb⟩
          replace D := Lib.hid (D.out.more hb)
          replace A := Lib.hid (A.out.more hb)
          clear hb
          go_wp2_with (go_at_call 19; refine (Cost_w E.out.2.1 A.out D.out).mono ?_)
          rintro e wn ⟨rfl, hb⟩
          replace D := Lib.hid (D.out.more hb)
          clear hb
          go_wp2
          go_ret
          exact ⟨rfl, D.out.below⟩
  · rcases hB with ⟨rfl, b1, b2⟩ | b1
    · rcases hC with ⟨rfl, c1, c2⟩ | c1
      · rcases hF with ⟨rfl, f1, f2⟩ | f1
        · replace b1 := Lib.hid b1
          replace c1 := Lib.hid c1
          replace f1 := Lib.hid f1
          go_wp2_with (go_at_call 17; refine (Right_w b1.out B.out D.out).mono ?_)
          rintro e wn ⟨rfl, hb⟩
          replace D := Lib.hid (D.out.more hb)
          replace B := Lib.hid (B.out.more hb)
          replace C := Lib.hid (C.out.more hb)
          replace F := Lib.hid (F.out.more hb)
          clear hb
          go_wp2_with (go_at_call 19; refine (Cost_w E.out.2.2.1 B.out D.out).mono ?_)
          rintro e wn ⟨rfl, hb⟩
          replace D := Lib.hid (D.out.more hb)
          replace C := Lib.hid (C.out.more hb)
          replace F := Lib.hid (F.out.more hb)
          clear hb
          go_wp2_with (go_at_call 17; refine (Right_w c1.out C.out D.out).mono ?_)
          rintro e wn ⟨rfl, hb⟩
          replace D := Lib.hid (D.out.more hb)
          replace C := Lib.hid (C.out.more hb)
          replace F := Lib.hid (F.out.more hb)
          clear hb
          go_wp2_with (go_at_call 19; refine (Cost_w E.out.2.2.2.1 C.out D.out).mono ?_)
          rintro e wn ⟨rfl, hb⟩
          replace D := Lib.hid (D.out.more hb)
          replace F := Lib.hid (F.out.more hb)
          clear hb
          go_wp2_with (go_at_call 17; refine (Right_w f1.out F.out D.out).mono ?_)
          rintro e wn ⟨rfl, hb⟩
          replace D := Lib.hid (D.out.more hb)
          replace F := Lib.hid (F.out.more hb)
          clear hb
          go_wp2_with (go_at_call 19; refine (Cost_w E.out.2.2.2.2 F.out D.out).mono ?_)
          rintro e wn ⟨rfl, hb⟩
          replace D := Lib.hid (D.out.more hb)
          clear hb
          go_wp2
          go_ret
          exact ⟨rfl, D.out.below⟩
        · replace b1 := Lib.hid b1
          replace c1 := Lib.hid c1
          go_wp2_with (go_at_call 17; refine (Right_w b1.out B.out D.out).mono ?_)
          rintro e wn ⟨rfl, hb⟩
          replace D := Lib.hid (D.out.more hb)
          replace B := Lib.hid (B.out.more hb)
          replace C := Lib.hid (C.out.more hb)
          clear hb
          go_wp2_with (go_at_call 19; refine (Cost_w E.out.2.2.1 B.out D.out).mono ?_)
          rintro e wn ⟨rfl, hb⟩
          replace D := Lib.hid (D.out.more hb)
          replace C := Lib.hid (C.out.more hb)
          clear hb
          go_wp2_with (go_at_call 17; refine (Right_w c1.out C.out D.out).mono ?_)
          rintro e wn ⟨rfl, hb⟩
          replace D := Lib.hid (D.out.more hb)
          replace C := Lib.hid (C.out.more hb)
          clear hb
          go_wp2_with (go_at_call 19; refine (Cost_w E.out.2.2.2.1 C.out D.out).mono ?_)
          rintro e wn ⟨rfl, hb⟩
          replace D := Lib.hid (D.out.more hb)
          clear hb
          go_wp2
          go_ret
          exact ⟨rfl, D.out.below⟩
      · rcases hF with ⟨rfl, f1, f2⟩ | f1
        · replace b1 := Lib.hid b1
          replace f1 := Lib.hid f1
          go_wp2_with (go_at_call 17; refine (Right_w b1.out B.out D.out).mono ?_)
          rintro e wn ⟨rfl, hb⟩
          replace D := Lib.hid (D.out.more hb)
          replace B := Lib.hid (B.out.more hb)
          replace F := Lib.hid (F.out.more hb)
          clear hb
          go_wp2_with (go_at_call 19; refine (Cost_w E.out.2.2.1 B.out D.out).mono ?_)
          rintro e wn ⟨rfl, hb⟩
          replace D := Lib.hid (D.out.more hb)
          replace F := Lib.hid (F.out.more hb)
          clear hb
          go_wp2_with (go_at_call 17; refine (Right_w f1.out F.out D.out).mono ?_)
          rintro e wn ⟨rfl, hb⟩
          replace D := Lib.hid (D.out.more hb)
          replace F := Lib.hid (F.out.more hb)
          clear hb
          go_wp2_with (go_at_call 19; refine (Cost_w E.out.2.2.2.2 F.out D.out).mono ?_)
          rintro e wn ⟨rfl, hb⟩
          replace D := Lib.hid (D.out.more hb)
          clear hb
          go_wp2
          go_ret
          exact ⟨rfl, D.out.below⟩
        · replace b1 := Lib.hid b1
          go_wp2_with (go_at_call 17; refine (Right_w b1.out B.out D.out).mono ?_)
          rintro e wn ⟨rfl, hb⟩
          replace D := Lib.hid (D.out.more hb)
          replace B := Lib.hid (B.out.more hb)
          clear hb
          go_wp2_with (go_at_call 19; refine (Cost_w E.out.2.2.1 B.out D.out).mono ?_)
          rintro e wn ⟨rfl, hb⟩
          replace D := Lib.hid (D.out.more hb)
          clear hb
          go_wp2
          go_ret
          exact ⟨rfl, D.out.below⟩
    · rcases hC with ⟨rfl, c1, c2⟩ | c1
      · rcases hF with ⟨rfl, f1, f2⟩ | f1
        · replace c1 := Lib.hid c1
          replace f1 := Lib.hid f1
          go_wp2_with (go_at_call 17; refine (Right_w c1.out C.out D.out).mono ?_)
          rintro e wn ⟨rfl, hb⟩
          replace D := Lib.hid (D.out.more hb)
          replace C := Lib.hid (C.out.more hb)
          replace F := Lib.hid (F.out.more hb)
          clear hb
          go_wp2_with (go_at_call 19; refine (Cost_w E.out.2.2.2.1 C.out D.out).mono ?_)
          rintro e wn ⟨rfl, hb⟩
          replace D := Lib.hid (D.out.more hb)
          replace F := Lib.hid (F.out.more hb)
          clear hb
          go_wp2_with (go_at_call 17; refine (Right_w f1.out F.out D.out).mono ?_)
          rintro e wn ⟨rfl, hb⟩
          replace D := Lib.hid (D.out.more hb)
          replace F := Lib.hid (F.out.more hb)
          clear hb
          go_wp2_with (go_at_call 19; refine (Cost_w E.out.2.2.2.2 F.out D.out).mono ?_)
          rintro e wn ⟨rfl, hb⟩
          replace D := Lib.hid (D.out.more hb)
          clear hb
          go_wp2
          go_ret
          exact ⟨rfl, D.out.below⟩
        · replace c1 := Lib.hid c1
          go_wp2_with (go_at_call 17; refine (Right_w c1.out C.out D.out).mono ?_)
          rintro e wn ⟨rfl, hb⟩
          replace D := Lib.hid (D.out.more hb)
          replace C := Lib.hid (C.out.more hb)
          clear hb
          go_wp2_with (go_at_call 19; refine (Cost_w E.out.2.2.2.1 C.out D.out).mono ?_)
          rintro e wn ⟨rfl, hb⟩
          replace D := Lib.hid (D.out.more hb)
          clear hb
          go_wp2
          go_ret
          exact ⟨rfl, D.out.below⟩
      · rcases hF with ⟨rfl, f1, f2⟩ | f1
        · replace f1 := Lib.hid f1
          go_wp2_with (go_at_call 17; refine (Right_w f1.out F.out D.out).mono ?_)
          rintro e wn ⟨rfl, hb⟩
          replace D := Lib.hid (D.out.more hb)
          replace F := Lib.hid (F.out.more hb)
          clear hb
          go_wp2_with (go_at_call 19; refine (Cost_w E.out.2.2.2.2 F.out D.out).mono ?_)
          rintro e wn ⟨rfl, hb⟩
          replace D := Lib.hid (D.out.more hb)
          clear hb
          go_wp2
          go_ret
          exact ⟨rfl, D.out.below⟩
        · go_wp2
          go_ret
          exact ⟨rfl, D.out.below⟩

end Go.Proofs.YtnbpfbmhheimbaaGreatDoor
