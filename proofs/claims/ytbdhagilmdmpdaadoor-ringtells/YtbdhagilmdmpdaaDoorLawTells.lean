/- RingTells: the walk. -/
import Derived.Test.YtbdhagilmdmpdaaDoorLawAll
namespace Go.Proofs.YtbdhagilmdmpdaaDoor
open Go.RowKit Go.Proofs.Fld Go.Proofs.Rng Go.Shelf Go.Sort

set_option maxRecDepth 100000 in
set_option maxHeartbeats 8000000 in
theorem tells_walk (s : Sn) (m qm mx : Int) (ao qo : Option Addr) (len cap qlen qcap : Nat) (zs qz : List It) (x : It) (hx : x.length ≤ 9223372036854775807) (w : World) (hL : Txs w ao len cap zs) (hQ : Txs w qo qlen qcap qz) (hs : Sent s w) :
    Calls Tryd.prog 3 #[.agg #[.int .i64 m, .slice ao len cap], .int .i64 mx, .string (bs x), .agg #[.int .i64 qm, .slice qo qlen qcap]] w (TruePost w) := by
  have R := Rv.new w m ao len cap zs hL
  have hN := Below.new w (.cells #[.int .i64 m, .slice ao len cap] 24)
  have hN2 := Below.new (w.alloc (.cells #[.int .i64 m, .slice ao len cap] 24)) (.cells #[.int .i64 qm, .slice qo qlen qcap] 24)
  have D := ((Wd.of hs).more hN).more hN2
  have Q := Rv.new (w.alloc (.cells #[.int .i64 m, .slice ao len cap] 24)) qm qo qlen qcap qz (hQ.more hN)
  rw [World.size_alloc] at Q
  replace R := R.more hN2
  obtain ⟨W0, hW0⟩ : ∃ W0, (w.alloc (.cells #[.int .i64 m, .slice ao len cap] 24)).alloc (.cells #[.int .i64 qm, .slice qo qlen qcap] 24) = W0 := ⟨_, rfl⟩
  rw [hW0] at R D Q
  have R := Lib.hid R
  have D := Lib.hid D
  have Q := Lib.hid Q
  have S0 := Lib.hid hs
  have HQB := Lib.hid (show 0 < qlen → ∀ a, qo = some a → a.block ≠ w.heap.size from fun hp a e q => by have := hQ.below hp a e; omega)
  clear hL hQ hs hN hN2
  obtain ⟨ys, hys⟩ : ∃ ys, fewI zs = ys := ⟨_, rfl⟩
  have hyl := fewI_length zs
  have hyt := fewI_takes zs
  rw [hys] at hyl hyt
  obtain ⟨k, hk⟩ : ∃ k, ys.length = k := ⟨_, rfl⟩
  rw [hk] at hyl
  obtain ⟨qs, hqs⟩ : ∃ qs, fewI qz = qs := ⟨_, rfl⟩
  have hql := fewI_length qz
  rw [hqs] at hql
  obtain ⟨qk, hqk⟩ : ∃ qk, qs.length = qk := ⟨_, rfl⟩
  rw [hqk] at hql
  have HY := Lib.hid (And.intro hys hk)
  have HZ := Lib.hid (And.intro hqs hqk)
  obtain ⟨y, hy⟩ : ∃ y, x.take 210 = y := ⟨_, rfl⟩
  have hy210 : y.length ≤ 210 := by rw [← hy, List.length_take]; omega
  have HC := Lib.hid (fun W => hy ▸ cut_any x hx W)
  clear hys hk hqs hqk hy
  go_enter Tryd.func3, Tryd.ntmps3
  go_wp2_with (go_at_call 9; refine (shown_any s _ D.out.sent).mono ?_)
  rintro e w1 ⟨rfl, hb⟩
  replace D := Lib.hid (D.out.more hb)
  replace R := Lib.hid (R.out.more hb)
  replace Q := Lib.hid (Q.out.more hb)
  clear hb
  have c0 := R.out.r.c0
  have c1 := R.out.r.c1
  have hlt := R.out.r.lt
  have hlt2 := Q.out.r.lt
  go_wp2_with (go_at_call 10; refine (Few_p HY.out.1 HY.out.2 R.out.t).mono ?_)
  rintro e w2 ⟨va2, vc2, rfl, ⟨ht, ho⟩, hb⟩
  clear c0 c1
  replace D := Lib.hid (D.out.more hb)
  replace R := Lib.hid (R.out.more hb)
  replace Q := Lib.hid (Q.out.more hb)
  have HRA := Lib.hid (show 0 < k → ∀ a, va2 = some a → a.block ≠ w.heap.size + 1 from fun _ => ho.apart hlt2)
  have R' := Rv.set (m := m) R.out.r ht (ho.apart hlt)
  have D' := D.out.set S0.out (b := w.heap.size) (Nat.le_refl _) (.int .i64 m) (.slice va2 k vc2)
  have Q' := Q.out.set2 (b' := w.heap.size) (u := .int .i64 m) (v := .slice va2 k vc2) (by omega) HQB.out
  obtain ⟨c0, c1, f0, f1⟩ := R.out.r
  obtain ⟨V1, hV1⟩ : ∃ V1, ((w2.setCell ⟨w.heap.size, 0, none⟩ (.int .i64 m)).setCell ⟨w.heap.size, 1, none⟩ (.slice va2 k vc2)) = V1 := ⟨_, rfl⟩
  rw [hV1] at R' D' Q'
  replace R := Lib.hid R'
  replace D := Lib.hid D'
  replace Q := Lib.hid Q'
  clear ht ho hb hlt hlt2 R' D' Q'
  have e0 := Q.out.r.c0
  have e1 := Q.out.r.c1
  have hlt := Q.out.r.lt
  go_wp2_with (go_at_call 10; refine (Few_p HZ.out.1 HZ.out.2 Q.out.t).mono ?_)
  rintro e w3 ⟨va3, vc3, rfl, ⟨ht, ho⟩, hb⟩
  clear c0 c1 f0 f1 e0 e1
  replace D := Lib.hid (D.out.more hb)
  replace R := Lib.hid (R.out.more hb)
  replace Q := Lib.hid (Q.out.more hb)
  have Q' := Rv.set (m := qm) Q.out.r ht (ho.apart hlt)
  have D' := D.out.set S0.out (b := w.heap.size + 1) (by omega) (.int .i64 qm) (.slice va3 qk vc3)
  have R' := R.out.set2 (b' := w.heap.size + 1) (u := .int .i64 qm) (v := .slice va3 qk vc3) (by omega) HRA.out
  obtain ⟨c0, c1, f0, f1⟩ := Q.out.r
  obtain ⟨V2, hV2⟩ : ∃ V2, ((w3.setCell ⟨w.heap.size + 1, 0, none⟩ (.int .i64 qm)).setCell ⟨w.heap.size + 1, 1, none⟩ (.slice va3 qk vc3)) = V2 := ⟨_, rfl⟩
  rw [hV2] at R' D' Q'
  replace R := Lib.hid R'
  replace D := Lib.hid D'
  replace Q := Lib.hid Q'
  clear ht ho hb hlt R' D' Q'
  obtain ⟨am, ham⟩ : ∃ v, newM mx = v := ⟨_, rfl⟩
  obtain ⟨ec, hec⟩ : ∃ v, errN (newE mx) = v := ⟨_, rfl⟩
  obtain ⟨cm, hcm⟩ : ∃ v, putM m ys y = v := ⟨_, rfl⟩
  obtain ⟨cl, hcl⟩ : ∃ v, putL m ys y = v := ⟨_, rfl⟩
  obtain ⟨gc, hgc⟩ : ∃ v, errN (putE m ys y) = v := ⟨_, rfl⟩
  obtain ⟨px, hpx⟩ : ∃ v, takeX m ys = v := ⟨_, rfl⟩
  obtain ⟨im, him⟩ : ∃ v, takeM m ys = v := ⟨_, rfl⟩
  obtain ⟨il, hil⟩ : ∃ v, takeL m ys = v := ⟨_, rfl⟩
  obtain ⟨jc, hjc⟩ : ∃ v, errN (takeE m ys) = v := ⟨_, rfl⟩
  obtain ⟨rb, hrb⟩ : ∃ v, rightR m ys = v := ⟨_, rfl⟩
  obtain ⟨ub, hub⟩ : ∃ v, usedR m ys = v := ⟨_, rfl⟩
  obtain ⟨sb, hsb⟩ : ∃ v, sameR m ys qm qs = v := ⟨_, rfl⟩
  obtain ⟨ck, hck⟩ : ∃ v, cl.length = v := ⟨_, rfl⟩
  obtain ⟨ik, hik⟩ : ∃ v, il.length = v := ⟨_, rfl⟩
  have t1 := putL_len m ys y
  rw [hcl, hck, HY.out.2] at t1
  have t2 := takeL_len m ys
  rw [hil, hik, HY.out.2] at t2
  have a1 : ck ≤ 1000000 := by omega
  have a2 : ik ≤ 1000000 := by omega
  have a3 : qk ≤ 1000000 := by omega
  have a7 : k ≤ 1000000 := by omega
  have a8 : takes ys ≤ 1000000 := by omega
  have a9 : y.length ≤ 900000 := by omega
  have HN := Lib.hid (And.intro ham hec)
  have HP := Lib.hid (And.intro hcm (And.intro hcl (And.intro hgc hck)))
  have HT := Lib.hid (And.intro hpx (And.intro him (And.intro hil (And.intro hjc hik))))
  have HR := Lib.hid (And.intro hrb (And.intro hub hsb))
  clear ham hec hcm hcl hgc hck hpx him hil hjc hik hrb hub hsb t1 t2
  go_wp2_with (go_at_call 11; refine (New_q HN.out.1 HN.out.2 D.out.sent).mono ?_)
  rintro e w4 ⟨va4, vc4, rfl, ⟨ht4, ho4⟩, hb4⟩
  clear c0 c1 f0 f1
  have hN4 := Below.new w4 (.cells #[.int .i64 am, .slice va4 0 vc4] 24)
  have b4 := below_more hb4 hN4
  have A := Rv.new w4 am va4 0 vc4 [] ht4
  obtain ⟨W4, hW4⟩ : ∃ W4, w4.alloc (.cells #[.int .i64 am, .slice va4 0 vc4] 24) = W4 := ⟨_, rfl⟩
  rw [hW4] at b4 A
  have A := Lib.hid A
  replace D := Lib.hid (D.out.more b4)
  replace R := Lib.hid (R.out.more b4)
  replace Q := Lib.hid (Q.out.more b4)
  clear ht4 ho4 hb4 hN4 b4
  go_wp2_with (go_at_call 12; refine (RNew_p HN.out.1 HN.out.2 _).mono ?_)
  rintro e w5 ⟨va5, vc5, rfl, ⟨ht5, ho5⟩, hb5⟩
  have hN5 := Below.new w5 (.cells #[.int .i64 am, .slice va5 0 vc5] 24)
  have b5 := below_more hb5 hN5
  have B := Rv.new w5 am va5 0 vc5 [] ht5
  obtain ⟨W5, hW5⟩ : ∃ W5, w5.alloc (.cells #[.int .i64 am, .slice va5 0 vc5] 24) = W5 := ⟨_, rfl⟩
  rw [hW5] at b5 B
  have B := Lib.hid B
  replace D := Lib.hid (D.out.more b5)
  replace R := Lib.hid (R.out.more b5)
  replace Q := Lib.hid (Q.out.more b5)
  replace A := Lib.hid (A.out.more b5)
  clear ht5 ho5 hb5 hN5 b5
  have c0C := R.out.r.c0
  have c1C := R.out.r.c1
  have c0Ca : ∀ o, (W5.alloc o).cell? ⟨w.heap.size, 0, none⟩ = some (.int .i64 m) := fun o => cell_later (Below.new _ _) c0C
  have c1Ca : ∀ o, (W5.alloc o).cell? ⟨w.heap.size, 1, none⟩ = some (.slice va2 k vc2) := fun o => cell_later (Below.new _ _) c1C
  have HPl := Lib.hid (Put_q (w := W5.drew) a9 a7 a8 HP.out.1 HP.out.2.1 HP.out.2.2.1 HP.out.2.2.2 (R.out.more (Below.refl _ _).drew).t (D.out.more (Below.refl _ _).drew).sent)
  have HPa := Lib.hid (Put_q (w := (W5.alloc (.cells #[.int .i64 0, .slice none 0 0] 24)).drew) a9 a7 a8 HP.out.1 HP.out.2.1 HP.out.2.2.1 HP.out.2.2.2 (R.out.more (Below.new _ _).drew).t (D.out.more (Below.new _ _).drew).sent)
  have HQ9 := Lib.hid (fun w9 (hb : Below ((W5.alloc (.cells #[.int .i64 0, .slice none 0 0] 24)).drew).heap.size ((W5.alloc (.cells #[.int .i64 0, .slice none 0 0] 24)).drew) w9) => (R2.new W5 (.int .i64 0) (.slice none 0 0) 24).more (below_more ((Below.refl _ (W5.alloc (.cells #[.int .i64 0, .slice none 0 0] 24))).drew) hb))
  go_upto_region 6 with fail
  go_cut [14, 15] from 39 to 45 (fun p e wx => ∃ (Bn : Nat) (va : Option Addr) (vc : Nat), p = .pointer (some ⟨Bn, 0, none⟩) ∧ e = .int .i64 gc ∧ Hid (NvJ W5 wx Bn cm va ck vc cl))
  case first =>
    go_region_with (first | (go_at_call 14; refine (HC.out _).mono ?_; rintro e w' ⟨rfl, rfl⟩) | (go_at_call 13; (with_reducible refine HPa.out.mono ?_); rintro e w9 ⟨va9, vc9, rfl, ⟨ht9, ho9⟩, hb9⟩; obtain ⟨e0, e1, g0, g1⟩ := HQ9.out _ hb9) | (go_at_call 13; (with_reducible refine HPl.out.mono ?_); rintro e w9 ⟨va9, vc9, rfl, ⟨ht9, ho9⟩, hb9⟩))
    all_goals go_wp2_with fail
    all_goals go_meet
    all_goals first | exact ⟨_, _, _, rfl, rfl, NvJ.late (V := W5) (U := W5.drew) (Below.refl _ _).drew ht9 hb9⟩ | exact ⟨_, _, _, rfl, rfl, NvJ.early (V := W5) (U := W5) (Below.refl _ _) ((Below.refl _ (W5.alloc (.cells #[.int .i64 0, .slice none 0 0] 24))).drew) ht9 hb9 (own_apart ((Below.refl _ (W5.alloc (.cells #[.int .i64 0, .slice none 0 0] 24))).drew) ho9)⟩
  case rest =>
    obtain ⟨BC, vaC, vcC, rfl, rfl, HC⟩ := hcut
    clear c0C c1C c0Ca c1Ca HPl HPa HQ9
    obtain ⟨VC, hVC⟩ : ∃ VC, wc = VC := ⟨_, rfl⟩
    rw [hVC] at HC
    rw [hVC]
    clear hVC
    replace D := Lib.hid (D.out.more HC.out.b)
    replace R := Lib.hid (R.out.more HC.out.b)
    replace Q := Lib.hid (Q.out.more HC.out.b)
    replace A := Lib.hid (A.out.more HC.out.b)
    replace B := Lib.hid (B.out.more HC.out.b)
    have C := Lib.hid HC.out.v
    clear HC
    have c0E := R.out.r.c0
    have c1E := R.out.r.c1
    have c0Ea : ∀ o, (VC.alloc o).cell? ⟨w.heap.size, 0, none⟩ = some (.int .i64 m) := fun o => cell_later (Below.new _ _) c0E
    have c1Ea : ∀ o, (VC.alloc o).cell? ⟨w.heap.size, 1, none⟩ = some (.slice va2 k vc2) := fun o => cell_later (Below.new _ _) c1E
    have HPl := Lib.hid (RPut_q (w := VC.drew) a9 a7 a8 HP.out.1 HP.out.2.1 HP.out.2.2.1 HP.out.2.2.2 (R.out.more (Below.refl _ _).drew).t)
    have HPa := Lib.hid (RPut_q (w := (VC.alloc (.cells #[.int .i64 0, .slice none 0 0] 24)).drew) a9 a7 a8 HP.out.1 HP.out.2.1 HP.out.2.2.1 HP.out.2.2.2 (R.out.more (Below.new _ _).drew).t)
    have HQ9 := Lib.hid (fun w9 (hb : Below ((VC.alloc (.cells #[.int .i64 0, .slice none 0 0] 24)).drew).heap.size ((VC.alloc (.cells #[.int .i64 0, .slice none 0 0] 24)).drew) w9) => (R2.new VC (.int .i64 0) (.slice none 0 0) 24).more (below_more ((Below.refl _ (VC.alloc (.cells #[.int .i64 0, .slice none 0 0] 24))).drew) hb))
    go_upto_region 7 with fail
    go_cut [16, 17] from 46 to 52 (fun p e wx => ∃ (Bn : Nat) (va : Option Addr) (vc : Nat), p = .pointer (some ⟨Bn, 0, none⟩) ∧ e = .int .i64 gc ∧ Hid (NvJ VC wx Bn cm va ck vc cl))
    case first =>
      go_region_with (first | (go_at_call 14; refine (HC.out _).mono ?_; rintro e w' ⟨rfl, rfl⟩) | (go_at_call 15; (with_reducible refine HPa.out.mono ?_); rintro e w9 ⟨va9, vc9, rfl, ⟨ht9, ho9⟩, hb9⟩; obtain ⟨e0, e1, g0, g1⟩ := HQ9.out _ hb9) | (go_at_call 15; (with_reducible refine HPl.out.mono ?_); rintro e w9 ⟨va9, vc9, rfl, ⟨ht9, ho9⟩, hb9⟩))
      all_goals go_wp2_with fail
      all_goals go_meet
      all_goals first | exact ⟨_, _, _, rfl, rfl, NvJ.late (V := VC) (U := VC.drew) (Below.refl _ _).drew ht9 hb9⟩ | exact ⟨_, _, _, rfl, rfl, NvJ.early (V := VC) (U := VC) (Below.refl _ _) ((Below.refl _ (VC.alloc (.cells #[.int .i64 0, .slice none 0 0] 24))).drew) ht9 hb9 (own_apart ((Below.refl _ (VC.alloc (.cells #[.int .i64 0, .slice none 0 0] 24))).drew) ho9)⟩
    case rest =>
      obtain ⟨BE, vaE, vcE, rfl, rfl, HE⟩ := hcut
      clear c0E c1E c0Ea c1Ea HPl HPa HQ9
      obtain ⟨VE, hVE⟩ : ∃ VE, wc = VE := ⟨_, rfl⟩
      rw [hVE] at HE
      rw [hVE]
      clear hVE
      replace D := Lib.hid (D.out.more HE.out.b)
      replace R := Lib.hid (R.out.more HE.out.b)
      replace Q := Lib.hid (Q.out.more HE.out.b)
      replace A := Lib.hid (A.out.more HE.out.b)
      replace B := Lib.hid (B.out.more HE.out.b)
      replace C := Lib.hid (C.out.more HE.out.b)
      have E := Lib.hid HE.out.v
      clear HE
      have Rc0 := R.out.r.c0
      have Rc1 := R.out.r.c1
      go_wp2_with (go_at_call 16; refine (Take_q a7 a8 HT.out.1 HT.out.2.1 HT.out.2.2.1 HT.out.2.2.2.1 HT.out.2.2.2.2 R.out.t D.out.sent).mono ?_)
      rintro e w6 ⟨va6, vc6, rfl, ⟨ht6, ho6⟩, hb6⟩
      clear Rc0 Rc1
      have hN6 := Below.new w6 (.cells #[.int .i64 im, .slice va6 ik vc6] 24)
      have b6 := below_more hb6 hN6
      have I := Rv.new w6 im va6 ik vc6 il ht6
      obtain ⟨W6, hW6⟩ : ∃ W6, w6.alloc (.cells #[.int .i64 im, .slice va6 ik vc6] 24) = W6 := ⟨_, rfl⟩
      rw [hW6] at b6 I
      have I := Lib.hid I
      replace D := Lib.hid (D.out.more b6)
      replace R := Lib.hid (R.out.more b6)
      replace Q := Lib.hid (Q.out.more b6)
      replace A := Lib.hid (A.out.more b6)
      replace B := Lib.hid (B.out.more b6)
      replace C := Lib.hid (C.out.more b6)
      replace E := Lib.hid (E.out.more b6)
      clear ht6 ho6 hb6 hN6 b6
      have Rc0 := R.out.r.c0
      have Rc1 := R.out.r.c1
      go_wp2_with (go_at_call 17; refine (RTake_q a7 a8 HT.out.1 HT.out.2.1 HT.out.2.2.1 HT.out.2.2.2.1 HT.out.2.2.2.2 R.out.t).mono ?_)
      rintro e w7 ⟨va7, vc7, rfl, ⟨ht7, ho7⟩, hb7⟩
      clear Rc0 Rc1
      have hN7 := Below.new w7 (.cells #[.int .i64 im, .slice va7 ik vc7] 24)
      have b7 := below_more hb7 hN7
      have J := Rv.new w7 im va7 ik vc7 il ht7
      obtain ⟨W7, hW7⟩ : ∃ W7, w7.alloc (.cells #[.int .i64 im, .slice va7 ik vc7] 24) = W7 := ⟨_, rfl⟩
      rw [hW7] at b7 J
      have J := Lib.hid J
      replace D := Lib.hid (D.out.more b7)
      replace R := Lib.hid (R.out.more b7)
      replace Q := Lib.hid (Q.out.more b7)
      replace A := Lib.hid (A.out.more b7)
      replace B := Lib.hid (B.out.more b7)
      replace C := Lib.hid (C.out.more b7)
      replace E := Lib.hid (E.out.more b7)
      replace I := Lib.hid (I.out.more b7)
      clear ht7 ho7 hb7 hN7 b7
      have s1 := Lib.hid (show sameR am [] am [] = true from sameR_iff.2 ⟨rfl, rfl⟩)
      have s2 := Lib.hid (show sameR cm cl cm cl = true from sameR_iff.2 ⟨rfl, rfl⟩)
      have s3 := Lib.hid (show sameR im il im il = true from sameR_iff.2 ⟨rfl, rfl⟩)
      have s4 := Lib.hid (show sameR m ys m ys = true from sameR_iff.2 ⟨rfl, rfl⟩)
      have q1 := rg_bool (V := W7) fun W hb => RSame_p (by omega) (by omega) s1.out (A.out.more hb).t (B.out.more hb).t
      have q2 := rg_bool (V := W7) fun W hb => RSame_p a1 a1 s2.out (C.out.more hb).t (E.out.more hb).t
      have q3 := rg_bool (V := W7) fun W hb => RSame_p a2 a2 s3.out (I.out.more hb).t (J.out.more hb).t
      have q4 := rg_bool (V := W7) fun W hb => Right_p a7 a8 HR.out.1 (R.out.more hb).t (D.out.more hb).sent
      have q5 := rg_bool (V := W7) fun W hb => RRight_p a7 a8 HR.out.1 (R.out.more hb).t
      have q6 := rg_int (V := W7) fun W hb => Used_p a7 a8 HR.out.2.1 (R.out.more hb).t (D.out.more hb).sent
      have q7 := rg_int (V := W7) fun W hb => RUsed_p a7 a8 HR.out.2.1 (R.out.more hb).t
      have q8 := rg_bool (V := W7) fun W hb => Same_p a7 a3 HR.out.2.2 (R.out.more hb).t (Q.out.more hb).t
      have q9 := rg_bool (V := W7) fun W hb => RSame_p a7 a3 HR.out.2.2 (R.out.more hb).t (Q.out.more hb).t
      have q10 := rg_bool (V := W7) fun W hb => Same_p a7 a7 s4.out (R.out.more hb).t (R.out.more hb).t
      have Ac0 := A.out.r.c0
      have Ac1 := A.out.r.c1
      have Ad0 := cell_regrown Ac0
      have Ad1 := cell_regrown Ac1
      have Bc0 := B.out.r.c0
      have Bc1 := B.out.r.c1
      have Bd0 := cell_regrown Bc0
      have Bd1 := cell_regrown Bc1
      have Cc0 := C.out.r.c0
      have Cc1 := C.out.r.c1
      have Cd0 := cell_regrown Cc0
      have Cd1 := cell_regrown Cc1
      have Ec0 := E.out.r.c0
      have Ec1 := E.out.r.c1
      have Ed0 := cell_regrown Ec0
      have Ed1 := cell_regrown Ec1
      have Ic0 := I.out.r.c0
      have Ic1 := I.out.r.c1
      have Id0 := cell_regrown Ic0
      have Id1 := cell_regrown Ic1
      have Jc0 := J.out.r.c0
      have Jc1 := J.out.r.c1
      have Jd0 := cell_regrown Jc0
      have Jd1 := cell_regrown Jc1
      have Rc0 := R.out.r.c0
      have Rc1 := R.out.r.c1
      have Rd0 := cell_regrown Rc0
      have Rd1 := cell_regrown Rc1
      have Qc0 := Q.out.r.c0
      have Qc1 := Q.out.r.c1
      have Qd0 := cell_regrown Qc0
      have Qd1 := cell_regrown Qc1
      go_wp2
      refine wp_region_quiet_below (by kernel_rfl) (by kernel_rfl) ?_
      repeat (quiet_step (with_reducible (first | exact q1 _ _ | exact q2 _ _ | exact q3 _ _ | exact q4 _ _ | exact q5 _ _ | exact q6 _ _ | exact q7 _ _ | exact q8 _ _ | exact q9 _ _ | exact q10 _ _)))
      refine wpQuiet_nil ?_
      intro W99 hw'
      obtain ⟨⟨dq, osq⟩, hw''⟩ := hw'
      have hbq : Below W7.heap.size W7 W99 := hw'' ▸ below_regrown W7 dq osq
      replace D := Lib.hid (D.out.more hbq)
      clear hw'' hbq
      go_wp2
      go_ret
      exact ⟨rfl, D.out.below⟩

end Go.Proofs.YtbdhagilmdmpdaaDoor
