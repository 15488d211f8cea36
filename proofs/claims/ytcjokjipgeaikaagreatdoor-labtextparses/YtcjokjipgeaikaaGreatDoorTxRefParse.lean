/- The document's Parse. -/
import Derived.Test.YtcjokjipgeaikaaGreatDoorTxRefM
namespace Go.Proofs.YtcjokjipgeaikaaGreatDoor
open Go.RowKit Go.Shelf Go.Proofs.Fld Go.Proofs.Tx Go.Proofs.Cats

theorem joinV_u (s : Nat) (n : Int) (hs : U64 s) : U64 (Ct.joinV s [n]) := Ct.joinV_u64 s [n] hs
theorem joinV_bit {s m : Nat} {n : Int} (h : n = (m : Int)) (hm : m ≤ 63) : Ct.joinV s [n] = s ||| 2 ^ m := by
  subst h
  exact Ct.joinV_one s m (by omega)

set_option maxRecDepth 100000 in
set_option maxHeartbeats 16000000 in
theorem refParse_any (s : List UInt8) (hs : s.length ≤ 1000000) (w : World) : Calls Tryz.prog 7 #[.string (bs s)] w (ParsePost s w) := by
  obtain ⟨W0, hW0⟩ : ∃ W0, (w.alloc (.cells #[.int .i64 0, .int .u64 0, .int .i64 0] 25)).alloc (.cells #[.string (bs s), .int .i64 0, .bool false] 47) = W0 := ⟨_, rfl⟩
  have hb0 : Below w.heap.size w W0 := by
    rw [← hW0]
    exact ((Below.refl _ w).alloc (Nat.le_refl _) _).alloc (by simp) _
  have hz0 : Lb3 W0 w.heap.size Lab.zero := by
    rw [← hW0]
    exact (Below.heap_alloc _ _ _ (by simp)).trans (World.alloc_heap_new w _)
  have hr0 : Rr W0 (w.heap.size + 1) s s false := by
    rw [← hW0]
    have := Rr.new (w.alloc (.cells #[.int .i64 0, .int .u64 0, .int .i64 0] 25)) s
    rw [World.size_alloc] at this
    exact this
  have hbs := bs_size
  have HB0 := Lib.hid hb0
  have HZ0 := Lib.hid hz0
  have HR0 := Lib.hid hr0
  have he0 : EndOf s s := ⟨[], rfl⟩
  clear hb0 hz0 hr0
  go_enter Tryz.func7, Tryz.ntmps7
  have HC : Calls Tryz.prog 14 #[.pointer (some ⟨w.heap.size + 1, 0, none⟩), .int .u8 76] W0 (RrPost (w.heap.size + 1) s (sgn [76] s).2 (sgn [76] s).1.isNone W0) := must_X (α := Unit) (some (), s) 76 he0 hs W0 HR0.out
  have HCH := Lib.hid HC
  clear HC
  go_wp2_with fail
  refine HCH.out.mono ?_
  rintro e w1 ⟨rfl, hr1, ho1⟩
  have hz1 := HZ0.out.block (ho1.block _ HZ0.out.lt (fun e => by injection e with e; omega))
  have hb1 := only_inner HB0.out (by omega) ho1
  have HEN1 := Lib.hid (EndOf.rdr he0 (good_sgn [76]))
  have HC2 := Lib.hid (refNum_X (sgn [76] s) 0 15 (by omega) (by omega) HEN1.out hs w1 hr1)
  have HZ1 := Lib.hid hz1
  have HB1 := Lib.hid hb1
  clear hr1 ho1 hz1 hb1 HCH hW0
  go_wp2_with fail
  refine HC2.out.mono ?_
  rintro e w2 ⟨n1, rfl, hn11, hn12, hn1, hr2, ho2⟩
  have hz2 := HZ1.out.block (ho2.block _ HZ1.out.lt (fun e => by injection e with e; omega))
  have hb2 := only_inner HB1.out (by omega) ho2
  have HEN2 := Lib.hid (EndOf.then (f := fun _ => num 0 15) HEN1.out (fun _ => good_num _ _))
  obtain ⟨⟨o2, r2⟩, hx2⟩ : ∃ x, thenV (sgn [76] s) (fun _ => num 0 15) = x := ⟨_, rfl⟩
  rw [hx2] at hn1 hr2 HEN2
  have HX2 := Lib.hid hx2
  clear hx2 HC2
  have hQ2 : w.heap.size + 1 < w2.heap.size := hr2.lt
  obtain ⟨V2, hV2⟩ : ∃ V, w2.alloc (.cells #[.int .i64 n1, .int .u64 0, .int .i64 0] 25) = V := ⟨_, rfl⟩
  have hnew : Below w2.heap.size w2 V2 := by rw [← hV2]; exact Below.new _ _
  have HM2 := Lib.hid (show MidR w (w.heap.size + 1) w2.heap.size s r2 o2.isNone ⟨n1, 0, 0⟩ V2 from ⟨hr2.more hnew, hz2.block (hnew.block _ hz2.lt), by rw [← hV2]; exact World.alloc_heap_new w2 _, below_more hb2 hnew⟩)
  obtain ⟨L, hL⟩ : ∃ L, w2.heap.size = L := ⟨_, rfl⟩
  have hLQ : L ≠ w.heap.size + 1 := by omega
  have hNL : w.heap.size < L := by omega
  rw [hL] at HM2
  have HN := Lib.hid hn1
  have HL := Lib.hid hL
  clear hr2 ho2 hz2 hb2 hnew hn1 hQ2 hL
  have HC3 : Calls Tryz.prog 16 #[.pointer (some ⟨w.heap.size + 1, 0, none⟩), .int .u8 123] V2 (IsPost (isX (o2, r2) 123) V2) := is_X (o2, r2) 123 HEN2.out V2 HM2.out.rr
  have HC3H := Lib.hid HC3
  have HV2 := Lib.hid hV2
  clear HC3 hV2
  go_wp2_with fail
  rw [HV2.out]
  refine HC3H.out.mono ?_
  rintro e w3 ⟨he3, hb3⟩
  rw [HL.out]
  have HM3 := Lib.hid (HM2.out.more hb3)
  clear hb3 HV2 HC3H
  by_cases h123 : isX (o2, r2) 123 = true
  · rw [h123] at he3
    subst he3
    obtain ⟨l, r, hor⟩ := isX_true h123
    injection hor with ho2 hr2
    subst ho2 hr2
    have HN1 := Lib.hid (HN.out l rfl)
    have HLA := labA HX2.out
    have HLAH := Lib.hid HLA
    clear HLA h123
    have c1 := HM3.out.rr.c1
    have f1 := HM3.out.rr.fr 1
    obtain ⟨k, hk⟩ : ∃ k, s.length - (123 :: r).length = k := ⟨_, rfl⟩
    rw [hk] at c1
    have hl := HEN2.out.len
    replace hl : (123 :: r).length ≤ s.length := hl
    rw [List.length_cons] at hl
    have hk1 : k ≤ 1000000 := by omega
    have hk2 : ((k : Int) + 1) = ((s.length - r.length : Nat) : Int) := by
      rw [← hk, List.length_cons]
      omega
    have HRR := Lib.hid (HM3.out.rr.step r hk2)
    have HM4 := Lib.hid (HM3.out.step (by omega) hLQ (set_only _ _ _ _) HRR.out)
    have HEN4 := Lib.hid (EndOf.tail (b := 123) HEN2.out)
    obtain ⟨W4, hW4⟩ : ∃ W, w3.setCell ⟨w.heap.size + 1, 1, none⟩ (.int .i64 ((k : Int) + 1)) = W := ⟨_, rfl⟩
    rw [hW4] at HM4
    have HC5 := Lib.hid (refNum_X (α := Unit) (some (), r) 0 63 (by omega) (by omega) HEN4.out hs W4 HM4.out.rr)
    clear hk hk2 HRR hl
    go_wp2_with fail
    refine HC5.out.mono ?_
    rintro e w5 ⟨n7, rfl, hn71, hn72, hn7, hr5, ho5⟩
    have HM5 := Lib.hid (HM4.out.step (by omega) hLQ ho5 hr5)
    have HEN5 := Lib.hid (EndOf.rdr HEN4.out (good_num 0 63))
    have hat := atLoop_num (n := n7) (cc := Ct.joinV 0 [n7]) (setGo 64 0 0 r) (f := 63) (acc := 0) (least := 0) rfl (by omega) hn7 (fun m h1 h2 => joinV_bit h1 h2)
    have HAT := Lib.hid hat
    have ka := HM5.out.a.c1
    have kf := HM5.out.a.fr 1
    have hu0 : U64 0 := by unfold U64; omega
    have HU := Lib.hid (joinV_u 0 n7 hu0)
    have HM6 := Lib.hid (HM5.out.set1 hLQ hNL (Ct.joinV 0 [n7]))
    have HC6 := Lib.hid (Ct.refWith_any 0 hu0 n7)
    clear hr5 ho5 hn7 hat HC5 c1 f1 hW4
    go_wp2_with fail
    refine (HC6.out _).mono ?_
    rintro e w' ⟨rfl, rfl⟩
    generalize Ct.joinV 0 [n7] = cc0 at *
    generalize Ct.joinE [n7] = ee0 at *
    obtain ⟨W6, hW6⟩ : ∃ W, w5.setCell ⟨L, 1, none⟩ (.int .u64 (cc0 : Int)) = W := ⟨_, rfl⟩
    rw [hW6] at HM6
    generalize hxo : (thenV (some (), r) fun _ => num 0 63) = x5 at *
    obtain ⟨o5, r5⟩ := x5
    have hxo2 : num 0 63 r = (o5, r5) := hxo
    rw [hxo2] at HAT HEN5
    clear hxo hxo2 HC6
    go_wp2
    clear hW6 ka kf
    go_loopw [7] (fun v wr => ∃ (n : Int) (o : Option Nat) (r' : List UInt8) (cc : Nat), v = .int .i64 n ∧ -1 ≤ n ∧ n ≤ 99 ∧ U64 cc ∧ EndOf s r' ∧ AtLoop (setGo 64 0 0 r) o r' n cc ∧ MidR w (w.heap.size + 1) L s r' o.isNone ⟨n1, cc, 0⟩ wr) (fun _ wr => leftAt wr (w.heap.size + 1) s)
    case atStart => exact ⟨n7, o5, r5, cc0, rfl, hn71, hn72, HU.out, HEN5.out, HAT.out, HM6.out⟩
    case round =>
      obtain ⟨n, o, r', cc, rfl, hna, hnb, hu, hen, hat, hmid⟩ := hrel
      have HUC := Lib.hid hu
      have HEN := Lib.hid hen
      have HATC := Lib.hid hat
      have HMC := Lib.hid hmid
      have HC7 : Calls Tryz.prog 16 #[.pointer (some ⟨w.heap.size + 1, 0, none⟩), .int .u8 44] wr (IsPost (isX (o, r') 44) wr) := is_X (o, r') 44 HEN.out wr HMC.out.rr
      have HC7H := Lib.hid HC7
      clear hu hen hat hmid HC7
      by_cases h44 : isX (o, r') 44 = true ∧ n < 63
      · obtain ⟨h44, hn63⟩ := h44
        have H44 := Lib.hid h44
        clear h44
        go_wp2_with fail
        refine HC7H.out.mono ?_
        rintro e wi ⟨hei, hbi⟩
        rw [H44.out] at hei
        subst hei
        obtain ⟨io, r'', hor⟩ := isX_true H44.out
        injection hor with ho hr
        subst ho hr
        obtain ⟨ii, f, hni, hi62, hf64, hR⟩ := loop_goes HATC.out rfl hn63
        subst hni
        have HRR := Lib.hid hR
        have HMI := Lib.hid (HMC.out.more hbi)
        have c1 := HMI.out.rr.c1
        have f1 := HMI.out.rr.fr 1
        obtain ⟨k, hk⟩ : ∃ k, s.length - (44 :: r'').length = k := ⟨_, rfl⟩
        rw [hk] at c1
        have hl := HEN.out.len
        rw [List.length_cons] at hl
        have hk1 : k ≤ 1000000 := by omega
        have hk2 : ((k : Int) + 1) = ((s.length - r''.length : Nat) : Int) := by
          rw [← hk, List.length_cons]
          omega
        have HRS := Lib.hid (HMI.out.rr.step r'' hk2)
        have HMJ := Lib.hid (HMI.out.step (by omega) hLQ (set_only _ _ _ _) HRS.out)
        have HENJ := Lib.hid HEN.out.tail
        obtain ⟨WJ, hWJ⟩ : ∃ W, wi.setCell ⟨w.heap.size + 1, 1, none⟩ (.int .i64 ((k : Int) + 1)) = W := ⟨_, rfl⟩
        rw [hWJ] at HMJ
        have HC8 := refNum_X (α := Unit) (some (), r'') (ii + 1) 63 (by omega) (by omega) HENJ.out hs WJ HMJ.out.rr
        rw [show (((ii + 1 : Nat)) : Int) = (ii : Int) + 1 by omega] at HC8
        have HC8H := Lib.hid HC8
        clear hk hk2 hbi HRS hR HC8
        go_wp2_with fail
        refine HC8H.out.mono ?_
        rintro e wk ⟨n8, rfl, hn81, hn82, hn8, hr8, ho8⟩
        have HMK := Lib.hid (HMJ.out.step (by omega) hLQ ho8 hr8)
        have HENK := Lib.hid (EndOf.rdr HENJ.out (good_num (ii + 1) 63))
        have hlen8 := good_len (good_num (ii + 1) 63) r''
        have hat := atLoop_num (n := n8) (cc := Ct.joinV cc [n8]) (setGo 64 0 0 r) HRR.out hf64 hn8 (fun m h1 h2 => joinV_bit h1 h2)
        have HATK := Lib.hid hat
        have ka := HMK.out.a.c1
        have kf := HMK.out.a.fr 1
        have HUK := Lib.hid (joinV_u cc n8 HUC.out)
        have HML := Lib.hid (HMK.out.set1 hLQ hNL (Ct.joinV cc [n8]))
        have HC9 := Lib.hid (Ct.refWith_any cc HUC.out n8)
        clear hr8 ho8 hn8 hat HC8H c1 f1 hWJ
        go_wp2_with fail
        refine (HC9.out _).mono ?_
        rintro e w' ⟨rfl, rfl⟩
        generalize Ct.joinV cc [n8] = cc1 at *
        generalize Ct.joinE [n8] = ee1 at *
        generalize hxo : (thenV (some (), r'') fun _ => num (ii + 1) 63) = x8 at *
        obtain ⟨o8, r8⟩ := x8
        have hxo2 : num (ii + 1) 63 r'' = (o8, r8) := hxo
        rw [hxo2] at HATK HENK hlen8
        have HLE8 := Lib.hid hlen8
        clear hxo hxo2 HC9 hlen8
        go_wp2
        go_roundw
        case rel => exact ⟨n8, o8, r8, cc1, rfl, hn81, hn82, HUK.out, HENK.out, HATK.out, HML.out⟩
        case measure =>
          rw [leftAt_rr HML.out.rr, leftAt_rr HMC.out.rr]
          have h1 := HEN.out.len
          have h2 := HLE8.out
          simp only [List.length_cons] at h1 h2 ⊢
          omega
      · have hsx : isX (o, r') 44 = false ∨ ¬ n < 63 := by
          cases hi : isX (o, r') 44
          · exact Or.inl rfl
          · exact Or.inr (fun h => h44 ⟨hi, h⟩)
        have HSH := Lib.hid (shut_loop HATC.out hsx)
        clear h44
        cases hI : isX (o, r') 44
        · have HI := Lib.hid hI
          clear hI hsx
          go_wp2_with fail
          refine HC7H.out.mono ?_
          rintro e wi ⟨hei, hbi⟩
          have HMI := Lib.hid (HMC.out.more hbi)
          clear hbi
          rw [HI.out] at hei
          subst hei
          have HC : Calls Tryz.prog 14 #[.pointer (some ⟨w.heap.size + 1, 0, none⟩), .int .u8 125] wi (RrPost (w.heap.size + 1) s (thenV (o, r') fun _ => sgn [125]).2 (thenV (o, r') fun _ => sgn [125]).1.isNone wi) := must_X (o, r') 125 HEN.out hs wi HMI.out.rr
          have HCH := Lib.hid HC
          clear HC
          go_wp2_with fail
          refine HCH.out.mono ?_
          rintro e w6 ⟨rfl, hr6, ho6⟩
          rw [HSH.out.1, HSH.out.2.1] at hr6
          have HM6b := Lib.hid (HMI.out.step (by omega) hLQ ho6 hr6)
          have HEN6 := Lib.hid (EndOf.rdr HEN4.out (good_set 64 0 0))
          have HCC := Lib.hid HSH.out.2.2
          clear hr6 ho6 HCH
          have HC : Calls Tryz.prog 14 #[.pointer (some ⟨w.heap.size + 1, 0, none⟩), .int .u8 73] w6 (RrPost (w.heap.size + 1) s (thenV (setGo 64 0 0 r) fun _ => sgn [73]).2 (thenV (setGo 64 0 0 r) fun _ => sgn [73]).1.isNone w6) := must_X (setGo 64 0 0 r) 73 HEN6.out hs w6 HM6b.out.rr
          have HCH := Lib.hid HC
          clear HC
          go_wp2_with fail
          refine HCH.out.mono ?_
          rintro e w7 ⟨rfl, hr7, ho7⟩
          have HM7 := Lib.hid (HM6b.out.step (by omega) hLQ ho7 hr7)
          have HEN7 := Lib.hid (EndOf.then (x := (setGo 64 0 0 r)) (f := fun _ => sgn [73]) HEN6.out (fun _ => good_sgn _))
          clear hr7 ho7 HCH
          have HC8 := Lib.hid (refNum_X (thenV (setGo 64 0 0 r) fun _ => sgn [73]) 0 7 (by omega) (by omega) HEN7.out hs w7 HM7.out.rr)
          go_wp2_with fail
          refine HC8.out.mono ?_
          rintro e w8 ⟨n6, rfl, hn61, hn62, hn6, hr8, ho8⟩
          have HM8 := Lib.hid (HM7.out.step (by omega) hLQ ho8 hr8)
          have HEN9 := Lib.hid (EndOf.then (x := thenV (setGo 64 0 0 r) fun _ => sgn [73]) (f := fun _ => num 0 7) HEN7.out (fun _ => good_num _ _))
          obtain ⟨⟨o6, r6⟩, hy⟩ : ∃ y, lastTwo (setGo 64 0 0 r) = y := ⟨_, rfl⟩
          have hy2 : (thenV (thenV (setGo 64 0 0 r) fun _ => sgn [73]) fun _ => num 0 7) = (o6, r6) := hy
          rw [hy2] at hn6 HM8 HEN9
          have HY := Lib.hid hy
          have HN6 := Lib.hid hn6
          have ka := HM8.out.a.c2
          have kf := HM8.out.a.fr 2
          have HM9 := Lib.hid (HM8.out.set2 hLQ hNL n6)
          obtain ⟨W9, hW9⟩ : ∃ W, w8.setCell ⟨L, 2, none⟩ (.int .i64 n6) = W := ⟨_, rfl⟩
          rw [hW9] at HM9
          clear hr8 ho8 hy hy2 hn6 HC8
          cases o6 with
          | none =>
            have HLAB := Lib.hid (HLAH.out.1 r6 HY.out)
            have c0 := HM9.out.rr.c0
            have c1 := HM9.out.rr.c1
            have c2 : W9.cell? ⟨w.heap.size + 1, 2, none⟩ = some (.bool true) := HM9.out.rr.c2
            obtain ⟨pl, hpl⟩ : ∃ k, s.length - r6.length = k := ⟨_, rfl⟩
            rw [hpl] at c1
            have HPL := Lib.hid hpl
            clear hpl
            have zc : ∀ u x y, (((W9.setCell ⟨w.heap.size, 0, none⟩ u).setCell ⟨w.heap.size, 1, none⟩ x).setCell ⟨w.heap.size, 2, none⟩ y).cell? ⟨w.heap.size + 1, 1, none⟩ = some (.int .i64 (pl : Int)) := fun u x y =>
              (World.cell?_setCell_other _ _ _ _ (fun h => by have := congrArg Addr.block h; simp at this)).trans ((World.cell?_setCell_other _ _ _ _ (fun h => by have := congrArg Addr.block h; simp at this)).trans ((World.cell?_setCell_other _ _ _ _ (fun h => by have := congrArg Addr.block h; simp at this)).trans c1))
            have z0 := HM9.out.z.c0
            have z1 := HM9.out.z.c1
            have z2 := HM9.out.z.c2
            have y0 := HM9.out.z.fr 0
            have y1 := HM9.out.z.fr 1
            have y2 := HM9.out.z.fr 2
            go_wp2
            go_region
            all_goals
              go_wp2
              have hz2 : Lb3 (((W9.setCell ⟨w.heap.size, 0, none⟩ (.int .i64 0)).setCell ⟨w.heap.size, 1, none⟩ (.int .u64 0)).setCell ⟨w.heap.size, 2, none⟩ (.int .i64 0)) w.heap.size Lab.zero := ((HM9.out.z.set0 0).set1 0).set2 0
              have hb2 : Below w.heap.size w (((W9.setCell ⟨w.heap.size, 0, none⟩ (.int .i64 0)).setCell ⟨w.heap.size, 1, none⟩ (.int .u64 0)).setCell ⟨w.heap.size, 2, none⟩ (.int .i64 0)) := ((HM9.out.below.setCell (p := ⟨w.heap.size, 0, none⟩) (Nat.le_refl _) _).setCell (p := ⟨w.heap.size, 1, none⟩) (Nat.le_refl _) _).setCell (p := ⟨w.heap.size, 2, none⟩) (Nat.le_refl _) _
              generalize ((W9.setCell ⟨w.heap.size, 0, none⟩ (.int .i64 0)).setCell ⟨w.heap.size, 1, none⟩ (.int .u64 0)).setCell ⟨w.heap.size, 2, none⟩ (.int .i64 0) = U at *
              have q0 := hz2.c0
              have q1 := hz2.c1
              have q2 := hz2.c2
              refine bodyPost_ret (v := .tuple #[.agg #[.int .i64 0, .int .u64 0, .int .i64 0], .int .i64 (pl : Int), .int .i64 50]) (by simp [results, Tryz.results7, go_sem, q0, q1, q2, Lab.zero]) rfl ?_
              refine ⟨?_, ⟨hb2.os, hb2.tape, hb2.output, hb2.size, hb2.block⟩⟩
              unfold parseL parseP parseE
              rw [HLAB.out, ← HPL.out]
              rfl
          | some i6 =>
            have hn6i : n6 = (i6 : Int) := HN6.out i6 rfl
            subst hn6i
            cases r6 with
            | nil =>
              obtain ⟨yc, hyc, hlab⟩ := HLAH.out.2 i6 [] HY.out
              have HLAB := Lib.hid hlab
              have HYC := Lib.hid hyc
              clear hyc hlab
              have c0 := HM9.out.rr.c0
              have c1 := HM9.out.rr.c1
              have c2 : W9.cell? ⟨w.heap.size + 1, 2, none⟩ = some (.bool false) := HM9.out.rr.c2
              rw [show (s.length - ([] : List UInt8).length : Nat) = s.length by simp] at c1
              have a0 := HM9.out.a.c0
              have a1 := HM9.out.a.c1
              have a2 := HM9.out.a.c2
              have z0 := HM9.out.z.c0
              have z1 := HM9.out.z.c1
              have z2 := HM9.out.z.c2
              have y0 := HM9.out.z.fr 0
              have y1 := HM9.out.z.fr 1
              have y2 := HM9.out.z.fr 2
              go_wp2
              have hz2 : Lb3 (((W9.setCell ⟨w.heap.size, 0, none⟩ (.int .i64 n1)).setCell ⟨w.heap.size, 1, none⟩ (.int .u64 (cc : Int))).setCell ⟨w.heap.size, 2, none⟩ (.int .i64 (i6 : Int))) w.heap.size ⟨n1, cc, (i6 : Int)⟩ := ((HM9.out.z.set0 n1).set1 cc).set2 (i6 : Int)
              have hb2 : Below w.heap.size w (((W9.setCell ⟨w.heap.size, 0, none⟩ (.int .i64 n1)).setCell ⟨w.heap.size, 1, none⟩ (.int .u64 (cc : Int))).setCell ⟨w.heap.size, 2, none⟩ (.int .i64 (i6 : Int))) := ((HM9.out.below.setCell (p := ⟨w.heap.size, 0, none⟩) (Nat.le_refl _) _).setCell (p := ⟨w.heap.size, 1, none⟩) (Nat.le_refl _) _).setCell (p := ⟨w.heap.size, 2, none⟩) (Nat.le_refl _) _
              generalize ((W9.setCell ⟨w.heap.size, 0, none⟩ (.int .i64 n1)).setCell ⟨w.heap.size, 1, none⟩ (.int .u64 (cc : Int))).setCell ⟨w.heap.size, 2, none⟩ (.int .i64 (i6 : Int)) = U at *
              have q0 := hz2.c0
              have q1 := hz2.c1
              have q2 := hz2.c2
              refine bodyPost_ret (v := .tuple #[.agg #[.int .i64 n1, .int .u64 (cc : Int), .int .i64 (i6 : Int)], .int .i64 0, .int .i64 0]) (by simp [results, Tryz.results7, go_sem, q0, q1, q2]) rfl ?_
              refine ⟨?_, hb2⟩
              have e : lab s = (some ⟨n1, cc, (i6 : Int)⟩, []) := by
                rw [HLAB.out, HN1.out, HCC.out yc HYC.out]
                rfl
              unfold parseL parseP parseE
              rw [e]
              rfl
            | cons q6 r6 =>
              obtain ⟨yc, hyc, hlab⟩ := HLAH.out.2 i6 (q6 :: r6) HY.out
              have HLAB := Lib.hid (show lab s = (none, q6 :: r6) from hlab)
              clear hyc hlab
              have c0 := HM9.out.rr.c0
              have c1 := HM9.out.rr.c1
              have c2 : W9.cell? ⟨w.heap.size + 1, 2, none⟩ = some (.bool false) := HM9.out.rr.c2
              have hlt : s.length - (q6 :: r6).length < s.length := by
                have := HEN9.out.len
                rw [List.length_cons] at this ⊢
                omega
              obtain ⟨pl, hpl⟩ : ∃ k, s.length - (q6 :: r6).length = k := ⟨_, rfl⟩
              rw [hpl] at c1 hlt
              have HPL := Lib.hid hpl
              clear hpl
              have zc : ∀ u x y, (((W9.setCell ⟨w.heap.size, 0, none⟩ u).setCell ⟨w.heap.size, 1, none⟩ x).setCell ⟨w.heap.size, 2, none⟩ y).cell? ⟨w.heap.size + 1, 1, none⟩ = some (.int .i64 (pl : Int)) := fun u x y =>
                (World.cell?_setCell_other _ _ _ _ (fun h => by have := congrArg Addr.block h; simp at this)).trans ((World.cell?_setCell_other _ _ _ _ (fun h => by have := congrArg Addr.block h; simp at this)).trans ((World.cell?_setCell_other _ _ _ _ (fun h => by have := congrArg Addr.block h; simp at this)).trans c1))
              have z0 := HM9.out.z.c0
              have z1 := HM9.out.z.c1
              have z2 := HM9.out.z.c2
              have y0 := HM9.out.z.fr 0
              have y1 := HM9.out.z.fr 1
              have y2 := HM9.out.z.fr 2
              go_wp2
              go_region
              all_goals
                go_wp2
                have hz2 : Lb3 (((W9.setCell ⟨w.heap.size, 0, none⟩ (.int .i64 0)).setCell ⟨w.heap.size, 1, none⟩ (.int .u64 0)).setCell ⟨w.heap.size, 2, none⟩ (.int .i64 0)) w.heap.size Lab.zero := ((HM9.out.z.set0 0).set1 0).set2 0
                have hb2 : Below w.heap.size w (((W9.setCell ⟨w.heap.size, 0, none⟩ (.int .i64 0)).setCell ⟨w.heap.size, 1, none⟩ (.int .u64 0)).setCell ⟨w.heap.size, 2, none⟩ (.int .i64 0)) := ((HM9.out.below.setCell (p := ⟨w.heap.size, 0, none⟩) (Nat.le_refl _) _).setCell (p := ⟨w.heap.size, 1, none⟩) (Nat.le_refl _) _).setCell (p := ⟨w.heap.size, 2, none⟩) (Nat.le_refl _) _
                generalize ((W9.setCell ⟨w.heap.size, 0, none⟩ (.int .i64 0)).setCell ⟨w.heap.size, 1, none⟩ (.int .u64 0)).setCell ⟨w.heap.size, 2, none⟩ (.int .i64 0) = U at *
                have q0 := hz2.c0
                have q1 := hz2.c1
                have q2 := hz2.c2
                refine bodyPost_ret (v := .tuple #[.agg #[.int .i64 0, .int .u64 0, .int .i64 0], .int .i64 (pl : Int), .int .i64 50]) (by simp [results, Tryz.results7, go_sem, q0, q1, q2, Lab.zero]) rfl ?_
                refine ⟨?_, ⟨hb2.os, hb2.tape, hb2.output, hb2.size, hb2.block⟩⟩
                unfold parseL parseP parseE
                rw [HLAB.out, ← HPL.out]
                rfl
        · have HI := Lib.hid hI
          have hn63 : ¬ n < 63 := by
            rcases hsx with q | q
            · rw [hI] at q; cases q
            · exact q
          clear hI hsx
          go_wp2_with fail
          refine HC7H.out.mono ?_
          rintro e wi ⟨hei, hbi⟩
          have HMI := Lib.hid (HMC.out.more hbi)
          clear hbi
          rw [HI.out] at hei
          subst hei
          have HC : Calls Tryz.prog 14 #[.pointer (some ⟨w.heap.size + 1, 0, none⟩), .int .u8 125] wi (RrPost (w.heap.size + 1) s (thenV (o, r') fun _ => sgn [125]).2 (thenV (o, r') fun _ => sgn [125]).1.isNone wi) := must_X (o, r') 125 HEN.out hs wi HMI.out.rr
          have HCH := Lib.hid HC
          clear HC
          go_wp2_with fail
          refine HCH.out.mono ?_
          rintro e w6 ⟨rfl, hr6, ho6⟩
          rw [HSH.out.1, HSH.out.2.1] at hr6
          have HM6b := Lib.hid (HMI.out.step (by omega) hLQ ho6 hr6)
          have HEN6 := Lib.hid (EndOf.rdr HEN4.out (good_set 64 0 0))
          have HCC := Lib.hid HSH.out.2.2
          clear hr6 ho6 HCH
          have HC : Calls Tryz.prog 14 #[.pointer (some ⟨w.heap.size + 1, 0, none⟩), .int .u8 73] w6 (RrPost (w.heap.size + 1) s (thenV (setGo 64 0 0 r) fun _ => sgn [73]).2 (thenV (setGo 64 0 0 r) fun _ => sgn [73]).1.isNone w6) := must_X (setGo 64 0 0 r) 73 HEN6.out hs w6 HM6b.out.rr
          have HCH := Lib.hid HC
          clear HC
          go_wp2_with fail
          refine HCH.out.mono ?_
          rintro e w7 ⟨rfl, hr7, ho7⟩
          have HM7 := Lib.hid (HM6b.out.step (by omega) hLQ ho7 hr7)
          have HEN7 := Lib.hid (EndOf.then (x := (setGo 64 0 0 r)) (f := fun _ => sgn [73]) HEN6.out (fun _ => good_sgn _))
          clear hr7 ho7 HCH
          have HC8 := Lib.hid (refNum_X (thenV (setGo 64 0 0 r) fun _ => sgn [73]) 0 7 (by omega) (by omega) HEN7.out hs w7 HM7.out.rr)
          go_wp2_with fail
          refine HC8.out.mono ?_
          rintro e w8 ⟨n6, rfl, hn61, hn62, hn6, hr8, ho8⟩
          have HM8 := Lib.hid (HM7.out.step (by omega) hLQ ho8 hr8)
          have HEN9 := Lib.hid (EndOf.then (x := thenV (setGo 64 0 0 r) fun _ => sgn [73]) (f := fun _ => num 0 7) HEN7.out (fun _ => good_num _ _))
          obtain ⟨⟨o6, r6⟩, hy⟩ : ∃ y, lastTwo (setGo 64 0 0 r) = y := ⟨_, rfl⟩
          have hy2 : (thenV (thenV (setGo 64 0 0 r) fun _ => sgn [73]) fun _ => num 0 7) = (o6, r6) := hy
          rw [hy2] at hn6 HM8 HEN9
          have HY := Lib.hid hy
          have HN6 := Lib.hid hn6
          have ka := HM8.out.a.c2
          have kf := HM8.out.a.fr 2
          have HM9 := Lib.hid (HM8.out.set2 hLQ hNL n6)
          obtain ⟨W9, hW9⟩ : ∃ W, w8.setCell ⟨L, 2, none⟩ (.int .i64 n6) = W := ⟨_, rfl⟩
          rw [hW9] at HM9
          clear hr8 ho8 hy hy2 hn6 HC8
          cases o6 with
          | none =>
            have HLAB := Lib.hid (HLAH.out.1 r6 HY.out)
            have c0 := HM9.out.rr.c0
            have c1 := HM9.out.rr.c1
            have c2 : W9.cell? ⟨w.heap.size + 1, 2, none⟩ = some (.bool true) := HM9.out.rr.c2
            obtain ⟨pl, hpl⟩ : ∃ k, s.length - r6.length = k := ⟨_, rfl⟩
            rw [hpl] at c1
            have HPL := Lib.hid hpl
            clear hpl
            have zc : ∀ u x y, (((W9.setCell ⟨w.heap.size, 0, none⟩ u).setCell ⟨w.heap.size, 1, none⟩ x).setCell ⟨w.heap.size, 2, none⟩ y).cell? ⟨w.heap.size + 1, 1, none⟩ = some (.int .i64 (pl : Int)) := fun u x y =>
              (World.cell?_setCell_other _ _ _ _ (fun h => by have := congrArg Addr.block h; simp at this)).trans ((World.cell?_setCell_other _ _ _ _ (fun h => by have := congrArg Addr.block h; simp at this)).trans ((World.cell?_setCell_other _ _ _ _ (fun h => by have := congrArg Addr.block h; simp at this)).trans c1))
            have z0 := HM9.out.z.c0
            have z1 := HM9.out.z.c1
            have z2 := HM9.out.z.c2
            have y0 := HM9.out.z.fr 0
            have y1 := HM9.out.z.fr 1
            have y2 := HM9.out.z.fr 2
            go_wp2
            go_region
            all_goals
              go_wp2
              have hz2 : Lb3 (((W9.setCell ⟨w.heap.size, 0, none⟩ (.int .i64 0)).setCell ⟨w.heap.size, 1, none⟩ (.int .u64 0)).setCell ⟨w.heap.size, 2, none⟩ (.int .i64 0)) w.heap.size Lab.zero := ((HM9.out.z.set0 0).set1 0).set2 0
              have hb2 : Below w.heap.size w (((W9.setCell ⟨w.heap.size, 0, none⟩ (.int .i64 0)).setCell ⟨w.heap.size, 1, none⟩ (.int .u64 0)).setCell ⟨w.heap.size, 2, none⟩ (.int .i64 0)) := ((HM9.out.below.setCell (p := ⟨w.heap.size, 0, none⟩) (Nat.le_refl _) _).setCell (p := ⟨w.heap.size, 1, none⟩) (Nat.le_refl _) _).setCell (p := ⟨w.heap.size, 2, none⟩) (Nat.le_refl _) _
              generalize ((W9.setCell ⟨w.heap.size, 0, none⟩ (.int .i64 0)).setCell ⟨w.heap.size, 1, none⟩ (.int .u64 0)).setCell ⟨w.heap.size, 2, none⟩ (.int .i64 0) = U at *
              have q0 := hz2.c0
              have q1 := hz2.c1
              have q2 := hz2.c2
              refine bodyPost_ret (v := .tuple #[.agg #[.int .i64 0, .int .u64 0, .int .i64 0], .int .i64 (pl : Int), .int .i64 50]) (by simp [results, Tryz.results7, go_sem, q0, q1, q2, Lab.zero]) rfl ?_
              refine ⟨?_, ⟨hb2.os, hb2.tape, hb2.output, hb2.size, hb2.block⟩⟩
              unfold parseL parseP parseE
              rw [HLAB.out, ← HPL.out]
              rfl
          | some i6 =>
            have hn6i : n6 = (i6 : Int) := HN6.out i6 rfl
            subst hn6i
            cases r6 with
            | nil =>
              obtain ⟨yc, hyc, hlab⟩ := HLAH.out.2 i6 [] HY.out
              have HLAB := Lib.hid hlab
              have HYC := Lib.hid hyc
              clear hyc hlab
              have c0 := HM9.out.rr.c0
              have c1 := HM9.out.rr.c1
              have c2 : W9.cell? ⟨w.heap.size + 1, 2, none⟩ = some (.bool false) := HM9.out.rr.c2
              rw [show (s.length - ([] : List UInt8).length : Nat) = s.length by simp] at c1
              have a0 := HM9.out.a.c0
              have a1 := HM9.out.a.c1
              have a2 := HM9.out.a.c2
              have z0 := HM9.out.z.c0
              have z1 := HM9.out.z.c1
              have z2 := HM9.out.z.c2
              have y0 := HM9.out.z.fr 0
              have y1 := HM9.out.z.fr 1
              have y2 := HM9.out.z.fr 2
              go_wp2
              have hz2 : Lb3 (((W9.setCell ⟨w.heap.size, 0, none⟩ (.int .i64 n1)).setCell ⟨w.heap.size, 1, none⟩ (.int .u64 (cc : Int))).setCell ⟨w.heap.size, 2, none⟩ (.int .i64 (i6 : Int))) w.heap.size ⟨n1, cc, (i6 : Int)⟩ := ((HM9.out.z.set0 n1).set1 cc).set2 (i6 : Int)
              have hb2 : Below w.heap.size w (((W9.setCell ⟨w.heap.size, 0, none⟩ (.int .i64 n1)).setCell ⟨w.heap.size, 1, none⟩ (.int .u64 (cc : Int))).setCell ⟨w.heap.size, 2, none⟩ (.int .i64 (i6 : Int))) := ((HM9.out.below.setCell (p := ⟨w.heap.size, 0, none⟩) (Nat.le_refl _) _).setCell (p := ⟨w.heap.size, 1, none⟩) (Nat.le_refl _) _).setCell (p := ⟨w.heap.size, 2, none⟩) (Nat.le_refl _) _
              generalize ((W9.setCell ⟨w.heap.size, 0, none⟩ (.int .i64 n1)).setCell ⟨w.heap.size, 1, none⟩ (.int .u64 (cc : Int))).setCell ⟨w.heap.size, 2, none⟩ (.int .i64 (i6 : Int)) = U at *
              have q0 := hz2.c0
              have q1 := hz2.c1
              have q2 := hz2.c2
              refine bodyPost_ret (v := .tuple #[.agg #[.int .i64 n1, .int .u64 (cc : Int), .int .i64 (i6 : Int)], .int .i64 0, .int .i64 0]) (by simp [results, Tryz.results7, go_sem, q0, q1, q2]) rfl ?_
              refine ⟨?_, hb2⟩
              have e : lab s = (some ⟨n1, cc, (i6 : Int)⟩, []) := by
                rw [HLAB.out, HN1.out, HCC.out yc HYC.out]
                rfl
              unfold parseL parseP parseE
              rw [e]
              rfl
            | cons q6 r6 =>
              obtain ⟨yc, hyc, hlab⟩ := HLAH.out.2 i6 (q6 :: r6) HY.out
              have HLAB := Lib.hid (show lab s = (none, q6 :: r6) from hlab)
              clear hyc hlab
              have c0 := HM9.out.rr.c0
              have c1 := HM9.out.rr.c1
              have c2 : W9.cell? ⟨w.heap.size + 1, 2, none⟩ = some (.bool false) := HM9.out.rr.c2
              have hlt : s.length - (q6 :: r6).length < s.length := by
                have := HEN9.out.len
                rw [List.length_cons] at this ⊢
                omega
              obtain ⟨pl, hpl⟩ : ∃ k, s.length - (q6 :: r6).length = k := ⟨_, rfl⟩
              rw [hpl] at c1 hlt
              have HPL := Lib.hid hpl
              clear hpl
              have zc : ∀ u x y, (((W9.setCell ⟨w.heap.size, 0, none⟩ u).setCell ⟨w.heap.size, 1, none⟩ x).setCell ⟨w.heap.size, 2, none⟩ y).cell? ⟨w.heap.size + 1, 1, none⟩ = some (.int .i64 (pl : Int)) := fun u x y =>
                (World.cell?_setCell_other _ _ _ _ (fun h => by have := congrArg Addr.block h; simp at this)).trans ((World.cell?_setCell_other _ _ _ _ (fun h => by have := congrArg Addr.block h; simp at this)).trans ((World.cell?_setCell_other _ _ _ _ (fun h => by have := congrArg Addr.block h; simp at this)).trans c1))
              have z0 := HM9.out.z.c0
              have z1 := HM9.out.z.c1
              have z2 := HM9.out.z.c2
              have y0 := HM9.out.z.fr 0
              have y1 := HM9.out.z.fr 1
              have y2 := HM9.out.z.fr 2
              go_wp2
              go_region
              all_goals
                go_wp2
                have hz2 : Lb3 (((W9.setCell ⟨w.heap.size, 0, none⟩ (.int .i64 0)).setCell ⟨w.heap.size, 1, none⟩ (.int .u64 0)).setCell ⟨w.heap.size, 2, none⟩ (.int .i64 0)) w.heap.size Lab.zero := ((HM9.out.z.set0 0).set1 0).set2 0
                have hb2 : Below w.heap.size w (((W9.setCell ⟨w.heap.size, 0, none⟩ (.int .i64 0)).setCell ⟨w.heap.size, 1, none⟩ (.int .u64 0)).setCell ⟨w.heap.size, 2, none⟩ (.int .i64 0)) := ((HM9.out.below.setCell (p := ⟨w.heap.size, 0, none⟩) (Nat.le_refl _) _).setCell (p := ⟨w.heap.size, 1, none⟩) (Nat.le_refl _) _).setCell (p := ⟨w.heap.size, 2, none⟩) (Nat.le_refl _) _
                generalize ((W9.setCell ⟨w.heap.size, 0, none⟩ (.int .i64 0)).setCell ⟨w.heap.size, 1, none⟩ (.int .u64 0)).setCell ⟨w.heap.size, 2, none⟩ (.int .i64 0) = U at *
                have q0 := hz2.c0
                have q1 := hz2.c1
                have q2 := hz2.c2
                refine bodyPost_ret (v := .tuple #[.agg #[.int .i64 0, .int .u64 0, .int .i64 0], .int .i64 (pl : Int), .int .i64 50]) (by simp [results, Tryz.results7, go_sem, q0, q1, q2, Lab.zero]) rfl ?_
                refine ⟨?_, ⟨hb2.os, hb2.tape, hb2.output, hb2.size, hb2.block⟩⟩
                unfold parseL parseP parseE
                rw [HLAB.out, ← HPL.out]
                rfl
  · have hf : isX (o2, r2) 123 = false := by
      cases h : isX (o2, r2) 123
      · rfl
      · exact absurd h h123
    rw [hf] at he3
    subst he3
    have HN1 := Lib.hid HN.out
    have HLB := Lib.hid (labB HX2.out hf)
    clear h123 hf
    have HC : Calls Tryz.prog 14 #[.pointer (some ⟨w.heap.size + 1, 0, none⟩), .int .u8 73] w3 (RrPost (w.heap.size + 1) s (thenV (o2, r2) fun _ => sgn [73]).2 (thenV (o2, r2) fun _ => sgn [73]).1.isNone w3) := must_X (o2, r2) 73 HEN2.out hs w3 HM3.out.rr
    have HCH := Lib.hid HC
    clear HC
    go_wp2_with fail
    refine HCH.out.mono ?_
    rintro e w7 ⟨rfl, hr7, ho7⟩
    have HM7 := Lib.hid (HM3.out.step (by omega) hLQ ho7 hr7)
    have HEN7 := Lib.hid (EndOf.then (x := (o2, r2)) (f := fun _ => sgn [73]) HEN2.out (fun _ => good_sgn _))
    clear hr7 ho7 HCH
    have HC8 := Lib.hid (refNum_X (thenV (o2, r2) fun _ => sgn [73]) 0 7 (by omega) (by omega) HEN7.out hs w7 HM7.out.rr)
    go_wp2_with fail
    refine HC8.out.mono ?_
    rintro e w8 ⟨n6, rfl, hn61, hn62, hn6, hr8, ho8⟩
    have HM8 := Lib.hid (HM7.out.step (by omega) hLQ ho8 hr8)
    have HEN9 := Lib.hid (EndOf.then (x := thenV (o2, r2) fun _ => sgn [73]) (f := fun _ => num 0 7) HEN7.out (fun _ => good_num _ _))
    obtain ⟨⟨o6, r6⟩, hy⟩ : ∃ y, lastTwo (o2, r2) = y := ⟨_, rfl⟩
    have hy2 : (thenV (thenV (o2, r2) fun _ => sgn [73]) fun _ => num 0 7) = (o6, r6) := hy
    rw [hy2] at hn6 HM8 HEN9
    have HY := Lib.hid hy
    have HN6 := Lib.hid hn6
    have ka := HM8.out.a.c2
    have kf := HM8.out.a.fr 2
    have HM9 := Lib.hid (HM8.out.set2 hLQ hNL n6)
    obtain ⟨W9, hW9⟩ : ∃ W, w8.setCell ⟨L, 2, none⟩ (.int .i64 n6) = W := ⟨_, rfl⟩
    rw [hW9] at HM9
    clear hr8 ho8 hy hy2 hn6 HC8
    cases o6 with
    | none =>
      have HLAB := Lib.hid (HLB.out.1 r6 HY.out)
      have c0 := HM9.out.rr.c0
      have c1 := HM9.out.rr.c1
      have c2 : W9.cell? ⟨w.heap.size + 1, 2, none⟩ = some (.bool true) := HM9.out.rr.c2
      obtain ⟨pl, hpl⟩ : ∃ k, s.length - r6.length = k := ⟨_, rfl⟩
      rw [hpl] at c1
      have HPL := Lib.hid hpl
      clear hpl
      have zc : ∀ u x y, (((W9.setCell ⟨w.heap.size, 0, none⟩ u).setCell ⟨w.heap.size, 1, none⟩ x).setCell ⟨w.heap.size, 2, none⟩ y).cell? ⟨w.heap.size + 1, 1, none⟩ = some (.int .i64 (pl : Int)) := fun u x y =>
        (World.cell?_setCell_other _ _ _ _ (fun h => by have := congrArg Addr.block h; simp at this)).trans ((World.cell?_setCell_other _ _ _ _ (fun h => by have := congrArg Addr.block h; simp at this)).trans ((World.cell?_setCell_other _ _ _ _ (fun h => by have := congrArg Addr.block h; simp at this)).trans c1))
      have z0 := HM9.out.z.c0
      have z1 := HM9.out.z.c1
      have z2 := HM9.out.z.c2
      have y0 := HM9.out.z.fr 0
      have y1 := HM9.out.z.fr 1
      have y2 := HM9.out.z.fr 2
      go_wp2
      go_region
      all_goals
        go_wp2
        have hz2 : Lb3 (((W9.setCell ⟨w.heap.size, 0, none⟩ (.int .i64 0)).setCell ⟨w.heap.size, 1, none⟩ (.int .u64 0)).setCell ⟨w.heap.size, 2, none⟩ (.int .i64 0)) w.heap.size Lab.zero := ((HM9.out.z.set0 0).set1 0).set2 0
        have hb2 : Below w.heap.size w (((W9.setCell ⟨w.heap.size, 0, none⟩ (.int .i64 0)).setCell ⟨w.heap.size, 1, none⟩ (.int .u64 0)).setCell ⟨w.heap.size, 2, none⟩ (.int .i64 0)) := ((HM9.out.below.setCell (p := ⟨w.heap.size, 0, none⟩) (Nat.le_refl _) _).setCell (p := ⟨w.heap.size, 1, none⟩) (Nat.le_refl _) _).setCell (p := ⟨w.heap.size, 2, none⟩) (Nat.le_refl _) _
        generalize ((W9.setCell ⟨w.heap.size, 0, none⟩ (.int .i64 0)).setCell ⟨w.heap.size, 1, none⟩ (.int .u64 0)).setCell ⟨w.heap.size, 2, none⟩ (.int .i64 0) = U at *
        have q0 := hz2.c0
        have q1 := hz2.c1
        have q2 := hz2.c2
        refine bodyPost_ret (v := .tuple #[.agg #[.int .i64 0, .int .u64 0, .int .i64 0], .int .i64 (pl : Int), .int .i64 50]) (by simp [results, Tryz.results7, go_sem, q0, q1, q2, Lab.zero]) rfl ?_
        refine ⟨?_, ⟨hb2.os, hb2.tape, hb2.output, hb2.size, hb2.block⟩⟩
        unfold parseL parseP parseE
        rw [HLAB.out, ← HPL.out]
        rfl
    | some i6 =>
      have hn6i : n6 = (i6 : Int) := HN6.out i6 rfl
      subst hn6i
      cases r6 with
      | nil =>
        obtain ⟨yc, hyc, hlab⟩ := HLB.out.2 i6 [] HY.out
        have HLAB := Lib.hid hlab
        have HYC := Lib.hid hyc
        clear hyc hlab
        have c0 := HM9.out.rr.c0
        have c1 := HM9.out.rr.c1
        have c2 : W9.cell? ⟨w.heap.size + 1, 2, none⟩ = some (.bool false) := HM9.out.rr.c2
        rw [show (s.length - ([] : List UInt8).length : Nat) = s.length by simp] at c1
        have a0 := HM9.out.a.c0
        have a1 := HM9.out.a.c1
        have a2 := HM9.out.a.c2
        have z0 := HM9.out.z.c0
        have z1 := HM9.out.z.c1
        have z2 := HM9.out.z.c2
        have y0 := HM9.out.z.fr 0
        have y1 := HM9.out.z.fr 1
        have y2 := HM9.out.z.fr 2
        go_wp2
        have hz2 : Lb3 (((W9.setCell ⟨w.heap.size, 0, none⟩ (.int .i64 n1)).setCell ⟨w.heap.size, 1, none⟩ (.int .u64 (0 : Int))).setCell ⟨w.heap.size, 2, none⟩ (.int .i64 (i6 : Int))) w.heap.size ⟨n1, 0, (i6 : Int)⟩ := ((HM9.out.z.set0 n1).set1 0).set2 (i6 : Int)
        have hb2 : Below w.heap.size w (((W9.setCell ⟨w.heap.size, 0, none⟩ (.int .i64 n1)).setCell ⟨w.heap.size, 1, none⟩ (.int .u64 (0 : Int))).setCell ⟨w.heap.size, 2, none⟩ (.int .i64 (i6 : Int))) := ((HM9.out.below.setCell (p := ⟨w.heap.size, 0, none⟩) (Nat.le_refl _) _).setCell (p := ⟨w.heap.size, 1, none⟩) (Nat.le_refl _) _).setCell (p := ⟨w.heap.size, 2, none⟩) (Nat.le_refl _) _
        generalize ((W9.setCell ⟨w.heap.size, 0, none⟩ (.int .i64 n1)).setCell ⟨w.heap.size, 1, none⟩ (.int .u64 (0 : Int))).setCell ⟨w.heap.size, 2, none⟩ (.int .i64 (i6 : Int)) = U at *
        have q0 := hz2.c0
        have q1 := hz2.c1
        have q2 := hz2.c2
        refine bodyPost_ret (v := .tuple #[.agg #[.int .i64 n1, .int .u64 (0 : Int), .int .i64 (i6 : Int)], .int .i64 0, .int .i64 0]) (by simp [results, Tryz.results7, go_sem, q0, q1, q2]) rfl ?_
        refine ⟨?_, hb2⟩
        have e : lab s = (some ⟨n1, 0, (i6 : Int)⟩, []) := by
          rw [HLAB.out, HN1.out yc HYC.out]
          rfl
        unfold parseL parseP parseE
        rw [e]
        rfl
      | cons q6 r6 =>
        obtain ⟨yc, hyc, hlab⟩ := HLB.out.2 i6 (q6 :: r6) HY.out
        have HLAB := Lib.hid (show lab s = (none, q6 :: r6) from hlab)
        clear hyc hlab
        have c0 := HM9.out.rr.c0
        have c1 := HM9.out.rr.c1
        have c2 : W9.cell? ⟨w.heap.size + 1, 2, none⟩ = some (.bool false) := HM9.out.rr.c2
        have hlt : s.length - (q6 :: r6).length < s.length := by
          have := HEN9.out.len
          rw [List.length_cons] at this ⊢
          omega
        obtain ⟨pl, hpl⟩ : ∃ k, s.length - (q6 :: r6).length = k := ⟨_, rfl⟩
        rw [hpl] at c1 hlt
        have HPL := Lib.hid hpl
        clear hpl
        have zc : ∀ u x y, (((W9.setCell ⟨w.heap.size, 0, none⟩ u).setCell ⟨w.heap.size, 1, none⟩ x).setCell ⟨w.heap.size, 2, none⟩ y).cell? ⟨w.heap.size + 1, 1, none⟩ = some (.int .i64 (pl : Int)) := fun u x y =>
          (World.cell?_setCell_other _ _ _ _ (fun h => by have := congrArg Addr.block h; simp at this)).trans ((World.cell?_setCell_other _ _ _ _ (fun h => by have := congrArg Addr.block h; simp at this)).trans ((World.cell?_setCell_other _ _ _ _ (fun h => by have := congrArg Addr.block h; simp at this)).trans c1))
        have z0 := HM9.out.z.c0
        have z1 := HM9.out.z.c1
        have z2 := HM9.out.z.c2
        have y0 := HM9.out.z.fr 0
        have y1 := HM9.out.z.fr 1
        have y2 := HM9.out.z.fr 2
        go_wp2
        go_region
        all_goals
          go_wp2
          have hz2 : Lb3 (((W9.setCell ⟨w.heap.size, 0, none⟩ (.int .i64 0)).setCell ⟨w.heap.size, 1, none⟩ (.int .u64 0)).setCell ⟨w.heap.size, 2, none⟩ (.int .i64 0)) w.heap.size Lab.zero := ((HM9.out.z.set0 0).set1 0).set2 0
          have hb2 : Below w.heap.size w (((W9.setCell ⟨w.heap.size, 0, none⟩ (.int .i64 0)).setCell ⟨w.heap.size, 1, none⟩ (.int .u64 0)).setCell ⟨w.heap.size, 2, none⟩ (.int .i64 0)) := ((HM9.out.below.setCell (p := ⟨w.heap.size, 0, none⟩) (Nat.le_refl _) _).setCell (p := ⟨w.heap.size, 1, none⟩) (Nat.le_refl _) _).setCell (p := ⟨w.heap.size, 2, none⟩) (Nat.le_refl _) _
          generalize ((W9.setCell ⟨w.heap.size, 0, none⟩ (.int .i64 0)).setCell ⟨w.heap.size, 1, none⟩ (.int .u64 0)).setCell ⟨w.heap.size, 2, none⟩ (.int .i64 0) = U at *
          have q0 := hz2.c0
          have q1 := hz2.c1
          have q2 := hz2.c2
          refine bodyPost_ret (v := .tuple #[.agg #[.int .i64 0, .int .u64 0, .int .i64 0], .int .i64 (pl : Int), .int .i64 50]) (by simp [results, Tryz.results7, go_sem, q0, q1, q2, Lab.zero]) rfl ?_
          refine ⟨?_, ⟨hb2.os, hb2.tape, hb2.output, hb2.size, hb2.block⟩⟩
          unfold parseL parseP parseE
          rw [HLAB.out, ← HPL.out]
          rfl

end Go.Proofs.YtcjokjipgeaikaaGreatDoor
