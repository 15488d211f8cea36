/- RingTurns: the walk. -/
import Derived.Test.YtbdhagilmdmpdaaDoorRgHead
namespace Go.Proofs.Rng
theorem errN_0 {k : Nat} (h : errN k = 0) : k = 0 := by
  match k with
  | 0 => rfl
  | 1 => simp [errN] at h
  | 2 => simp [errN] at h
  | n + 3 => simp [errN] at h
theorem put_or (m : Int) (l : List It) (x : It) : putE m l x = 0 ∨ (putE m l x ≠ 0 ∧ putM m l x = 0 ∧ putL m l x = []) := by
  by_cases h : putE m l x = 0
  · exact .inl h
  · exact .inr ⟨h, by unfold putM; rw [if_neg h], by unfold putL; rw [if_neg h]⟩
theorem take_or (m : Int) (l : List It) : takeE m l = 0 ∨ (takeE m l ≠ 0 ∧ takeM m l = 0 ∧ takeL m l = [] ∧ takeX m l = []) := by
  by_cases h : takeE m l = 0
  · exact .inl h
  · exact .inr ⟨h, by unfold takeM; rw [if_neg h], by unfold takeL; rw [if_neg h], by unfold takeX; rw [if_neg h]⟩
theorem put_0 {m : Int} {l : List It} {x : It} (h : putE m l x = 0) : putM m l x = m ∧ putL m l x = l ++ [x] := ⟨by unfold putM; rw [if_pos h], by unfold putL; rw [if_pos h]⟩
theorem take_0 {m : Int} {l : List It} (h : takeE m l = 0) : rightR m l = true ∧ ∃ x r, l = x :: r ∧ takeM m l = m ∧ takeL m l = r ∧ takeX m l = x := by
  have hr : rightR m l = true := by
    cases e : rightR m l
    · unfold takeE at h; rw [e] at h; cases h
    · rfl
  have hne : l ≠ [] := fun e => by unfold takeE at h; rw [if_pos hr, if_pos e] at h; cases h
  cases l with
  | nil => exact absurd rfl hne
  | cons x r => exact ⟨hr, x, r, rfl, by unfold takeM; rw [if_pos h], by unfold takeL; rw [if_pos h]; rfl, by unfold takeX; rw [if_pos h]; rfl⟩
theorem putE_iff {m : Int} {l : List It} {x : It} : putE m l x = 0 ↔ rightR m l = true ∧ x.length ≤ 200 ∧ ((takes l + x.length + 1 : Nat) : Int) ≤ m := by
  unfold putE
  constructor
  · intro h
    split at h
    · rename_i hr
      rw [roomE_one] at h
      split at h
      · cases h
      split at h
      · cases h
      exact ⟨hr, by omega, by omega⟩
    · cases h
  · rintro ⟨hr, h1, h2⟩
    rw [if_pos hr, roomE_one, if_neg (by omega), if_neg (by omega)]
theorem takeE_iff {m : Int} {l : List It} : takeE m l = 0 ↔ rightR m l = true ∧ l ≠ [] := by
  unfold takeE
  constructor
  · intro h
    split at h
    · rename_i hr
      split at h
      · cases h
      · rename_i hn
        exact ⟨hr, hn⟩
    · cases h
  · rintro ⟨hr, hn⟩
    rw [if_pos hr, if_neg hn]
theorem take_empty : errN (takeE 0 []) = 81 := by rfl
theorem put_zero (x : It) : putE 0 [] x ≠ 0 := fun h => by
  have := (putE_iff.1 h).2.2
  omega
theorem turns_ok {m : Int} {l : List It} {x : It} (hp : putE m l x = 0) (ht : takeE m l = 0) : takeE (putM m l x) (putL m l x) = 0 ∧ putE (takeM m l) (takeL m l) x = 0 ∧ takeX (putM m l x) (putL m l x) = takeX m l ∧ sameR (takeM (putM m l x) (putL m l x)) (takeL (putM m l x) (putL m l x)) (putM (takeM m l) (takeL m l) x) (putL (takeM m l) (takeL m l) x) = true := by
  obtain ⟨e1, e2⟩ := put_0 hp
  obtain ⟨hr, a, r, rfl, e3, e4, e5⟩ := take_0 ht
  have hrp := (right_put hp).2.1
  rw [e1, e2, e3, e4, e5]
  have h1 : takeE m (a :: r ++ [x]) = 0 := takeE_iff.2 ⟨hrp, by simp⟩
  obtain ⟨_, a', r', ea, f1, f2, f3⟩ := take_0 h1
  simp at ea
  obtain ⟨rfl, rfl⟩ := ea
  obtain ⟨p1, p2, p3⟩ := putE_iff.1 hp
  have h2 : putE m r x = 0 := putE_iff.2 ⟨by simpa using right_drop 1 hr, p2, by simp [takes] at p3 ⊢; omega⟩
  obtain ⟨g1, g2⟩ := put_0 h2
  refine ⟨h1, h2, f3, ?_⟩
  rw [f1, f2, g1, g2]
  exact sameR_iff.2 ⟨rfl, rfl⟩
theorem putL_takes (m : Int) (l : List It) (x : It) : takes (putL m l x) ≤ takes l + x.length + 1 := by
  unfold putL
  split
  · rw [takes_append]; simp [takes]; omega
  · simp [takes]
theorem putL_len (m : Int) (l : List It) (x : It) : (putL m l x).length ≤ l.length + 1 := by
  unfold putL
  split
  · simp
  · simp
theorem takeL_takes (m : Int) (l : List It) : takes (takeL m l) ≤ takes l := by
  unfold takeL
  split
  · cases l with
    | nil => simp
    | cons a r => simp [takes]
  · simp [takes]
theorem takeL_len (m : Int) (l : List It) : (takeL m l).length ≤ l.length := by
  unfold takeL
  split
  · simp
  · simp
end Go.Proofs.Rng
namespace Go.Proofs.YtbdhagilmdmpdaaDoor
open Go.RowKit Go.Proofs.Fld Go.Proofs.Rng Go.Shelf Go.Sort

set_option maxRecDepth 100000 in
set_option maxHeartbeats 8000000 in
theorem turns_walk (s : Sn) (m : Int) (ao : Option Addr) (len cap : Nat) (zs : List It) (x : It) (hx : x.length ≤ 9223372036854775807) (w : World) (hL : Txs w ao len cap zs) (hs : Sent s w) :
    Calls Tryd.prog 8 #[.agg #[.int .i64 m, .slice ao len cap], .string (bs x)] w (TruePost w) := by
  have R := Rv.new w m ao len cap zs hL
  have hN := Below.new w (.cells #[.int .i64 m, .slice ao len cap] 24)
  have D := (Wd.of hs).more hN
  obtain ⟨W0, hW0⟩ : ∃ W0, w.alloc (.cells #[.int .i64 m, .slice ao len cap] 24) = W0 := ⟨_, rfl⟩
  rw [hW0] at R hN D
  have R := Lib.hid R
  have D := Lib.hid D
  have S0 := Lib.hid hs
  obtain ⟨ys, hys⟩ : ∃ ys, fewI zs = ys := ⟨_, rfl⟩
  have hyl := fewI_length zs
  have hyt := fewI_takes zs
  rw [hys] at hyl hyt
  obtain ⟨k, hk⟩ : ∃ k, ys.length = k := ⟨_, rfl⟩
  have hk40 : k ≤ 40 := hk ▸ hyl
  have HY := Lib.hid (And.intro hys hk)
  clear hL hs hN hys hk hyl
  obtain ⟨y, hy⟩ : ∃ y, x.take 210 = y := ⟨_, rfl⟩
  have hy210 : y.length ≤ 210 := by rw [← hy, List.length_take]; omega
  have HC := Lib.hid (fun W => hy ▸ cut_any x hx W)
  clear hy
  go_enter Tryd.func8, Tryd.ntmps8
  go_wp2_with (go_at_call 9; refine (shown_any s _ D.out.sent).mono ?_)
  rintro e w1 ⟨rfl, hb⟩
  replace D := Lib.hid (D.out.more hb)
  replace R := Lib.hid (R.out.more hb)
  clear hb
  have c0 := R.out.r.c0
  have c1 := R.out.r.c1
  have hlt := R.out.r.lt
  go_wp2_with (go_at_call 10; refine (Few_p HY.out.1 HY.out.2 R.out.t).mono ?_)
  rintro e w2 ⟨va2, vc2, rfl, ⟨ht, ho⟩, hb⟩
  clear c0 c1
  replace D := Lib.hid (D.out.more hb)
  replace R := Lib.hid (R.out.more hb)
  have R' := Rv.set (m := m) R.out.r ht (ho.apart hlt)
  have D' := D.out.set S0.out (b := w.heap.size) (Nat.le_refl _) (.int .i64 m) (.slice va2 k vc2)
  obtain ⟨c0, c1, f0, f1⟩ := R.out.r
  obtain ⟨W2, hW2⟩ : ∃ W2, ((w2.setCell ⟨w.heap.size, 0, none⟩ (.int .i64 m)).setCell ⟨w.heap.size, 1, none⟩ (.slice va2 k vc2)) = W2 := ⟨_, rfl⟩
  rw [hW2] at R' D'
  replace R := Lib.hid R'
  replace D := Lib.hid D'
  clear ht ho hb hlt R' D'
  go_wp2_with fail
  clear c0 c1 f0 f1
  go_wp2_with (go_at_call 14; refine (HC.out _).mono ?_)
  rintro e w3 ⟨rfl, rfl⟩
  obtain ⟨am, ham⟩ : ∃ v, putM m ys y = v := ⟨_, rfl⟩
  obtain ⟨al, hal⟩ : ∃ v, putL m ys y = v := ⟨_, rfl⟩
  obtain ⟨ec, hec⟩ : ∃ v, errN (putE m ys y) = v := ⟨_, rfl⟩
  obtain ⟨bm, hbm⟩ : ∃ v, takeM am al = v := ⟨_, rfl⟩
  obtain ⟨bl, hbl⟩ : ∃ v, takeL am al = v := ⟨_, rfl⟩
  obtain ⟨fc, hfc⟩ : ∃ v, errN (takeE am al) = v := ⟨_, rfl⟩
  obtain ⟨sx, hsx⟩ : ∃ v, takeX am al = v := ⟨_, rfl⟩
  obtain ⟨cm, hcm⟩ : ∃ v, takeM m ys = v := ⟨_, rfl⟩
  obtain ⟨cl, hcl⟩ : ∃ v, takeL m ys = v := ⟨_, rfl⟩
  obtain ⟨gc, hgc⟩ : ∃ v, errN (takeE m ys) = v := ⟨_, rfl⟩
  obtain ⟨tx, htx⟩ : ∃ v, takeX m ys = v := ⟨_, rfl⟩
  obtain ⟨dm, hdm⟩ : ∃ v, putM cm cl y = v := ⟨_, rfl⟩
  obtain ⟨dl, hdl⟩ : ∃ v, putL cm cl y = v := ⟨_, rfl⟩
  obtain ⟨hc, hhc⟩ : ∃ v, errN (putE cm cl y) = v := ⟨_, rfl⟩
  obtain ⟨ak, hak⟩ : ∃ v, al.length = v := ⟨_, rfl⟩
  obtain ⟨bk, hbk⟩ : ∃ v, bl.length = v := ⟨_, rfl⟩
  obtain ⟨ck, hck⟩ : ∃ v, cl.length = v := ⟨_, rfl⟩
  obtain ⟨dk, hdk⟩ : ∃ v, dl.length = v := ⟨_, rfl⟩
  have t1 := putL_takes m ys y
  have t2 := putL_len m ys y
  rw [hal] at t1 t2
  have t3 := takeL_takes am al
  have t4 := takeL_len am al
  rw [hbl] at t3 t4
  have t5 := takeL_takes m ys
  have t6 := takeL_len m ys
  rw [hcl] at t5 t6
  have t7 := putL_takes cm cl y
  have t8 := putL_len cm cl y
  rw [hdl] at t7 t8
  have hkk := HY.out.2
  have a1 : ak ≤ 1000000 := by omega
  have a2 : takes al ≤ 1000000 := by omega
  have a3 : bk ≤ 1000000 := by omega
  have a4 : ck ≤ 1000000 := by omega
  have a5 : takes cl ≤ 1000000 := by omega
  have a6 : dk ≤ 1000000 := by omega
  have a7 : k ≤ 1000000 := by omega
  have a8 : takes ys ≤ 1000000 := by omega
  have a9 : y.length ≤ 900000 := by omega
  clear t1 t2 t3 t4 t5 t6 t7 t8 hkk
  have HW := Lib.hid (And.intro ham (And.intro hal (And.intro hec (And.intro hak (And.intro hsx (And.intro hbm (And.intro hbl (And.intro hfc hbk))))))))
  have HV := Lib.hid (And.intro htx (And.intro hcm (And.intro hcl (And.intro hgc (And.intro hck (And.intro hdm (And.intro hdl (And.intro hhc hdk))))))))
  clear ham hal hec hbm hbl hfc hsx hcm hcl hgc htx hdm hdl hhc hak hbk hck hdk
  have Rc0 := R.out.r.c0
  have Rc1 := R.out.r.c1
  go_wp2_with (go_at_call 13; refine (Put_q a9 a7 a8 HW.out.1 HW.out.2.1 HW.out.2.2.1 HW.out.2.2.2.1 R.out.t D.out.sent).mono ?_)
  rintro e w4 ⟨va4, vc4, rfl, ⟨ht4, ho4⟩, hb4⟩
  clear Rc0 Rc1
  have hN4 := Below.new w4 (.cells #[.int .i64 am, .slice va4 ak vc4] 24)
  have b4 := below_more hb4 hN4
  have A := Rv.new w4 am va4 ak vc4 al ht4
  obtain ⟨W4, hW4⟩ : ∃ W4, w4.alloc (.cells #[.int .i64 am, .slice va4 ak vc4] 24) = W4 := ⟨_, rfl⟩
  rw [hW4] at b4 A
  have A := Lib.hid A
  replace D := Lib.hid (D.out.more b4)
  replace R := Lib.hid (R.out.more b4)
  clear ht4 ho4 hb4 hN4 b4
  have Ac0 := A.out.r.c0
  have Ac1 := A.out.r.c1
  go_wp2_with (go_at_call 16; refine (Take_q a1 a2 HW.out.2.2.2.2.1 HW.out.2.2.2.2.2.1 HW.out.2.2.2.2.2.2.1 HW.out.2.2.2.2.2.2.2.1 HW.out.2.2.2.2.2.2.2.2 A.out.t D.out.sent).mono ?_)
  rintro e w5 ⟨va5, vc5, rfl, ⟨ht5, ho5⟩, hb5⟩
  clear Ac0 Ac1
  have hN5 := Below.new w5 (.cells #[.int .i64 bm, .slice va5 bk vc5] 24)
  have b5 := below_more hb5 hN5
  have B := Rv.new w5 bm va5 bk vc5 bl ht5
  obtain ⟨W5, hW5⟩ : ∃ W5, w5.alloc (.cells #[.int .i64 bm, .slice va5 bk vc5] 24) = W5 := ⟨_, rfl⟩
  rw [hW5] at b5 B
  have B := Lib.hid B
  replace D := Lib.hid (D.out.more b5)
  replace R := Lib.hid (R.out.more b5)
  replace A := Lib.hid (A.out.more b5)
  clear ht5 ho5 hb5 hN5 b5
  have Rc0 := R.out.r.c0
  have Rc1 := R.out.r.c1
  go_wp2_with (go_at_call 16; refine (Take_q a7 a8 HV.out.1 HV.out.2.1 HV.out.2.2.1 HV.out.2.2.2.1 HV.out.2.2.2.2.1 R.out.t D.out.sent).mono ?_)
  rintro e w6 ⟨va6, vc6, rfl, ⟨ht6, ho6⟩, hb6⟩
  clear Rc0 Rc1
  have hN6 := Below.new w6 (.cells #[.int .i64 cm, .slice va6 ck vc6] 24)
  have b6 := below_more hb6 hN6
  have C := Rv.new w6 cm va6 ck vc6 cl ht6
  obtain ⟨W6, hW6⟩ : ∃ W6, w6.alloc (.cells #[.int .i64 cm, .slice va6 ck vc6] 24) = W6 := ⟨_, rfl⟩
  rw [hW6] at b6 C
  have C := Lib.hid C
  replace D := Lib.hid (D.out.more b6)
  replace R := Lib.hid (R.out.more b6)
  replace A := Lib.hid (A.out.more b6)
  replace B := Lib.hid (B.out.more b6)
  clear ht6 ho6 hb6 hN6 b6
  have Cc0 := C.out.r.c0
  have Cc1 := C.out.r.c1
  go_wp2_with (go_at_call 13; refine (Put_q a9 a4 a5 HV.out.2.2.2.2.2.1 HV.out.2.2.2.2.2.2.1 HV.out.2.2.2.2.2.2.2.1 HV.out.2.2.2.2.2.2.2.2 C.out.t D.out.sent).mono ?_)
  rintro e w7 ⟨va7, vc7, rfl, ⟨ht7, ho7⟩, hb7⟩
  clear Cc0 Cc1
  have hN7 := Below.new w7 (.cells #[.int .i64 dm, .slice va7 dk vc7] 24)
  have b7 := below_more hb7 hN7
  have E := Rv.new w7 dm va7 dk vc7 dl ht7
  obtain ⟨W7, hW7⟩ : ∃ W7, w7.alloc (.cells #[.int .i64 dm, .slice va7 dk vc7] 24) = W7 := ⟨_, rfl⟩
  rw [hW7] at b7 E
  have E := Lib.hid E
  replace D := Lib.hid (D.out.more b7)
  replace R := Lib.hid (R.out.more b7)
  replace A := Lib.hid (A.out.more b7)
  replace B := Lib.hid (B.out.more b7)
  replace C := Lib.hid (C.out.more b7)
  clear ht7 ho7 hb7 hN7 b7
  obtain ⟨ham, hal, hec, hak, hsx, hbm, hbl, hfc, hbk⟩ := HW.out
  obtain ⟨htx, hcm, hcl, hgc, hck, hdm, hdl, hhc, hdk⟩ := HV.out
  by_cases he : ec = 0
  · by_cases hg : gc = 0
    · have e1 := errN_0 (hec.trans he)
      have e2 := errN_0 (hgc.trans hg)
      obtain ⟨o1, o2, o3, o4⟩ := turns_ok e1 e2
      rw [ham, hal] at o1 o3 o4
      rw [hcm, hcl] at o2 o4
      rw [hsx, htx] at o3
      rw [hbm, hbl, hdm, hdl] at o4
      rw [o1] at hfc
      rw [o2] at hhc
      obtain rfl : (0 : Int) = fc := hfc
      obtain rfl : (0 : Int) = hc := hhc
      subst he hg o3
      have hsame : ((bs sx).toList == (bs sx).toList) = true := by simp
      have HS := Lib.hid o4
      clear e1 e2 o1 o2 o4 ham hal hec hak hsx hbm hbl hbk htx hcm hcl hgc hck hdm hdl hdk HW HV
      have Bc0 := B.out.r.c0
      have Bc1 := B.out.r.c1
      have Ec0 := E.out.r.c0
      have Ec1 := E.out.r.c1
      go_wp2_with (go_at_call 23; refine (Same_p a3 a6 HS.out B.out.t E.out.t).mono ?_)
      rintro e w8 ⟨rfl, hb⟩
      clear Bc0 Bc1 Ec0 Ec1
      replace D := Lib.hid (D.out.more hb)
      replace R := Lib.hid (R.out.more hb)
      replace A := Lib.hid (A.out.more hb)
      replace B := Lib.hid (B.out.more hb)
      replace C := Lib.hid (C.out.more hb)
      replace E := Lib.hid (E.out.more hb)
      clear hb
      go_wp2
      go_ret
      exact ⟨rfl, D.out.below⟩
    · have g1 : (gc == 0) = false := by simp [hg]
      have g2 : (gc != 0) = true := by simp [hg]
      rcases take_or m ys with q | ⟨q, q1, q2, _⟩
      · exact absurd (by rw [← hgc, q]; rfl) hg
      · have h0 : cm = 0 := hcm.symm.trans q1
        have h1 : cl = [] := hcl.symm.trans q2
        have h2 : ¬ hc = 0 := fun e => put_zero y (by rw [← h0, ← h1]; exact errN_0 (hhc.trans e))
        have h3 : (hc != 0) = true := by simp [h2]
        subst he
        clear ham hal hec hak hsx hbm hbl hfc hbk htx hcm hcl hgc hck hdm hdl hhc hdk HW HV q q1 q2 h0 h1
        go_wp2
        go_ret
        exact ⟨rfl, D.out.below⟩
  · have g1 : (ec == 0) = false := by simp [he]
    have g2 : (ec != 0) = true := by simp [he]
    rcases put_or m ys y with q | ⟨q, q1, q2⟩
    · exact absurd (by rw [← hec, q]; rfl) he
    · have h0 : am = 0 := ham.symm.trans q1
      have h1 : al = [] := hal.symm.trans q2
      have h2 : fc = 81 := by rw [← hfc, h0, h1]; exact take_empty
      subst h2
      by_cases hg : gc = 0
      · subst hg
        clear ham hal hec hak hsx hbm hbl hfc hbk htx hcm hcl hgc hck hdm hdl hhc hdk HW HV q q1 q2 h0 h1
        go_wp2
        go_ret
        exact ⟨rfl, D.out.below⟩
      · have g3 : (gc == 0) = false := by simp [hg]
        rcases take_or m ys with p | ⟨p, p1, p2, _⟩
        · exact absurd (by rw [← hgc, p]; rfl) hg
        · have h0 : cm = 0 := hcm.symm.trans p1
          have h1 : cl = [] := hcl.symm.trans p2
          have h2 : ¬ hc = 0 := fun e => put_zero y (by rw [← h0, ← h1]; exact errN_0 (hhc.trans e))
          have h3 : (hc != 0) = true := by simp [h2]
          clear ham hal hec hak hsx hbm hbl hfc hbk htx hcm hcl hgc hck hdm hdl hhc hdk HW HV q q1 q2 h0 h1 p p1 p2
          go_wp2
          go_ret
          exact ⟨rfl, D.out.below⟩

end Go.Proofs.YtbdhagilmdmpdaaDoor
