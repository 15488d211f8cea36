/- set. -/
import Derived.Test.YtcjokjipgeaikaaDoorTxNum
namespace Go.Proofs.YtcjokjipgeaikaaDoor
open Go.RowKit Go.Shelf Go.Proofs.Fld Go.Proofs.Tx Go.Proofs.Cats

attribute [local go_sem] bs_toList

def SetPost (R T : Nat) (x : Option Nat × List UInt8) (w : World) (e : Ending) (w' : World) : Prop := e = .returned (.tuple #[.int .u64 ((x.1.getD 0 : Nat) : Int), errO T x]) ∧ Rx w' R T x.2 ∧ w.grownBy w' (some R)

theorem glob_only {ga : Addr} {R : Nat} {A B : World} (h : Ct.Glob ga A) (hR : 2 ≠ R) (hg : A.grownBy B (some R)) : Ct.Glob ga B :=
  (only_cell hg (p := ⟨2, 0, none⟩) h.lt hR).trans h
theorem good_len {α : Type} {R : Rdr α} (h : Tx.Good R) (s : List UInt8) : (R s).2.length ≤ s.length := by
  obtain ⟨p, hp⟩ := h.suf s
  have := congrArg List.length hp
  rw [List.length_append] at this
  omega
theorem set_num_no {f acc least : Nat} {s r : List UInt8} (h : num least 63 s = (none, r)) : setGo (f + 1) acc least s = (none, r) := then_no h
theorem set_sgn_no {f acc least i : Nat} {s r r2 : List UInt8} (h : num least 63 s = (some i, r)) (h2 : sgn (behindL i) r = (none, r2)) : setGo (f + 1) acc least s = (none, r2) := by
  show andThen _ _ _ = _
  rw [then_of h]
  exact then_no h2
theorem set_shut {f acc least i : Nat} {s r r2 : List UInt8} (h : num least 63 s = (some i, r)) (h2 : sgn (behindL i) r = (some 125, r2)) : setGo (f + 1) acc least s = (some (acc ||| 2 ^ i), r2) := by
  show andThen _ _ _ = _
  rw [then_of h, then_of h2]
  rfl
theorem set_more {f acc least i : Nat} {s r r2 : List UInt8} (h : num least 63 s = (some i, r)) (h2 : sgn (behindL i) r = (some 44, r2)) : setGo (f + 1) acc least s = setGo f (acc ||| 2 ^ i) (i + 1) r2 := by
  show andThen _ _ _ = _
  rw [then_of h, then_of h2]
  rfl
theorem with_bit (s : Nat) (hs : U64 s) (i : Nat) (hi : i < 64) (ga : Addr) (w : World) (hg : Ct.Glob ga w) :
    Calls Tryd.prog 51 #[.int .u64 s, .int .i64 (i : Int)] w fun e W' => e = .returned (.tuple #[.int .u64 ((s ||| 2 ^ i : Nat) : Int), .int .i64 0]) ∧ Below w.heap.size w W' := by
  have h := Ct.with_any s hs (i : Int) ga w hg
  have e : Ct.joinE [(i : Int)] = 0 := by simp [Ct.joinE, okC]; omega
  rw [Ct.joinV_one s i hi, e] at h
  exact h

set_option maxRecDepth 100000 in
set_option maxHeartbeats 2000000 in
theorem set_any (R T : Nat) (ga : Addr) (l : List UInt8) (hl : l.length ≤ T) (hT : T ≤ 4611686018427387904) (hgR : 2 ≠ R) (w : World) (h : Rx w R T l) (hg : Ct.Glob ga w) :
    Calls Tryd.prog 32 #[.pointer (some ⟨R, 0, none⟩)] w (SetPost R T (setGo 64 0 0 l) w) := by
  have HG := Lib.hid hg
  have H := Lib.hid h
  clear hg h
  go_enter Tryd.func32, Tryd.ntmps32
  go_wp2
  go_loopw [4, 5] (fun s i wr => ∃ (f acc least : Nat) (rest : List UInt8), setGo 64 0 0 l = setGo f acc least rest ∧ 64 ≤ f + least ∧ least ≤ 63 ∧ U64 acc ∧ s = .int .u64 (acc : Int) ∧ i = .int .i64 (least : Int) ∧ Rx wr R T rest ∧ rest.length ≤ T ∧ w.grownBy wr (some R)) (fun _ i _ => 64 - (intOf i).toNat)
  case atStart => exact ⟨64, 0, 0, l, rfl, by omega, by omega, by unfold U64; omega, rfl, rfl, H.out, hl, World.grownBy.refl _ _⟩
  case round =>
    obtain ⟨f, acc, least, rest, he, hf, hle, hu, rfl, rfl, hrx, hrl, ho⟩ := hrel
    obtain ⟨f, rfl⟩ : ∃ f', f = f' + 1 := ⟨f - 1, by omega⟩
    have HE := Lib.hid he
    have HU := Lib.hid hu
    have HO := Lib.hid ho
    have HRX := Lib.hid hrx
    have hnl := good_len (good_num least 63) rest
    have hc := number_any R T least 63 (by omega) (by omega) rest hrl hT wr hrx
    obtain ⟨⟨o, r1⟩, hx⟩ : ∃ x, num least 63 rest = x := ⟨_, rfl⟩
    rw [hx] at hc hnl
    have HX := Lib.hid hx
    have HC := Lib.hid hc
    clear he hu ho hrx hx hc
    cases o with
    | none =>
      go_wp2_with fail
      refine HC.out.mono ?_
      rintro e w1 ⟨he1, hr1, ho1⟩
      replace he1 : e = .returned (.tuple #[.int .i64 0, .iface 51 (.agg #[.int .i64 ((T - r1.length : Nat) : Int)])]) := he1
      subst he1
      go_wp2
      go_ret2
      unfold SetPost
      rw [HE.out, set_num_no HX.out]
      exact ⟨rfl, hr1, only_trans HO.out ho1⟩
    | some i =>
      obtain ⟨_, hi1, hi2⟩ := num_text HX.out
      have hi3 : i < 64 := by omega
      go_wp2_with fail
      refine HC.out.mono ?_
      rintro e w1 ⟨he1, hr1, ho1⟩
      replace he1 : e = .returned (.tuple #[.int .i64 (i : Int), .nilIface]) := he1
      subst he1
      have hg1 := glob_only HG.out hgR (only_trans HO.out ho1)
      replace hr1 : Rx w1 R T r1 := hr1
      replace hnl : r1.length ≤ rest.length := hnl
      have HW := Lib.hid (with_bit acc HU.out i hi3 ga w1 hg1)
      have HR1 := Lib.hid hr1
      have HO1 := Lib.hid (only_trans HO.out ho1)
      clear ho1 hg1 hr1
      go_wp2_with fail
      refine HW.out.mono ?_
      rintro e w2 ⟨rfl, hb2⟩
      have HR2 := Lib.hid (HR1.out.more hb2)
      have HO2 := Lib.hid (only_below HO1.out hb2 HO1.out.size)
      clear hb2
      go_wp2_with fail
      refine (behind_any i _).mono ?_
      rintro e w3 ⟨g, rfl, hsg, hb3, hg3⟩
      have hcl : (behindL i).length ≤ 2 := by unfold behindL; split <;> simp
      have hc4 := sign_any R T g (behindL i).length (behindL i) r1 (Nat.le_refl _) (by omega) (by omega) hT w3 (HR2.out.more hb3) hsg
      have HO3 := Lib.hid (only_below HO2.out hb3 HO2.out.size)
      have hsl := good_len (good_sgn (behindL i)) r1
      obtain ⟨⟨o2, r2⟩, hx2⟩ : ∃ x, sgn (behindL i) r1 = x := ⟨_, rfl⟩
      rw [hx2] at hc4 hsl
      have HX2 := Lib.hid hx2
      have HC4 := Lib.hid hc4
      clear hx2 hc4 hsg hb3
      generalize hlen : (behindL i).length = len at *
      have HL := Lib.hid hlen
      clear hlen
      go_wp2_with fail
      refine HC4.out.mono ?_
      rintro e w4 ⟨he4, hr4, ho4⟩
      cases o2 with
      | none =>
        replace he4 : e = .returned (.tuple #[.string (bs []), .iface 51 (.agg #[.int .i64 ((T - r2.length : Nat) : Int)])]) := he4
        subst he4
        go_wp2
        go_ret2
        unfold SetPost
        rw [HE.out, set_sgn_no HX.out HX2.out]
        exact ⟨rfl, hr4, only_trans HO3.out ho4⟩
      | some b =>
        replace he4 : e = .returned (.tuple #[.string (bs [b]), .nilIface]) := he4
        subst he4
        by_cases hb : b = 125
        · subst hb
          have HR4 := Lib.hid hr4
          have HO4 := Lib.hid (only_trans HO3.out ho4)
          clear hr4 ho4
          go_wp2
          go_ret2
          unfold SetPost
          rw [HE.out, set_shut HX.out HX2.out]
          exact ⟨rfl, HR4.out, HO4.out⟩
        · have hb44 : b = 44 ∧ i ≠ 63 := by
            have hm := (sgn_some HX2.out).2
            unfold behindL at hm
            split at hm <;> rename_i h63 <;> simp at hm
            · exact absurd hm hb
            · rcases hm with k | k
              · exact ⟨k, h63⟩
              · exact absurd k hb
          obtain ⟨rfl, h63⟩ := hb44
          have HR4 := Lib.hid hr4
          have HO4 := Lib.hid (only_trans HO3.out ho4)
          clear hr4 ho4 hb
          have hi4 : i ≤ 62 := by omega
          clear h63
          replace hsl : r2.length ≤ r1.length := hsl
          go_wp2
          go_roundw
          case rel =>
            refine ⟨f, acc ||| 2 ^ i, i + 1, r2, ?_, by omega, by omega, or_pow_u64 _ _ HU.out hi3, rfl, by go_num, HR4.out, by omega, HO4.out⟩
            rw [HE.out, set_more HX.out HX2.out]
          case measure => simp [intOf]; omega

end Go.Proofs.YtcjokjipgeaikaaDoor
