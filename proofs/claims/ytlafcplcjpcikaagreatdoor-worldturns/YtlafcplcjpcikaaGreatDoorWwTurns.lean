/- WorldTurns: the walk. -/
import Derived.Test.YtlafcplcjpcikaaGreatDoorWdE
import Derived.Test.YtlafcplcjpcikaaGreatDoorWdA
import Derived.Test.YtlafcplcjpcikaaGreatDoorLbA
namespace Go.Proofs.YtlafcplcjpcikaaGreatDoor
open Go.RowKit Go.Proofs.Fld Go.Proofs.Rng Go.Proofs.Spc Go.Proofs.Cats Go.Proofs.Wld Go.Shelf Go.Sort

theorem st_pairT (l : List Pt) (a : Lab) (m : List Ob) : ∃ c y k, setW l a m = (c, y) ∧ y.length = k := ⟨_, _, _, rfl, rfl⟩
theorem set_len (w : List Pt) (a : Lab) (l : List Ob) : (setW w a l).2.length ≤ w.length + 1 := by
  unfold setW
  split
  · simp
  · split
    · simp
    · exact put_length w a l
theorem set_pair {w y : List Pt} {a : Lab} {l : List Ob} {c : Int} (h : setW w a l = (c, y)) : y.length ≤ w.length + 1 := by
  have := set_len w a l
  rw [h] at this
  exact this
/-- What the law tells. -/
theorem turns_or {w x y u v : List Pt} {a b : Lab} {l m : List Ob} {e f g h : Int} (h1 : setW w a l = (e, x)) (h2 : setW x b m = (f, y)) (h3 : setW w b m = (g, u)) (h4 : setW u a l = (h, v)) :
    (e = 0 ∧ f = 0 ∧ g = 0 ∧ h = 0 ∧ (a ≠ b → y = v)) ∨ ((e ≠ 0 ∨ f ≠ 0) ∧ (g ≠ 0 ∨ h ≠ 0)) := by
  by_cases h5 : e = 0 ∧ f = 0
  · obtain ⟨rfl, rfl⟩ := h5
    obtain ⟨k1, k2, k3⟩ := set_turns (w := w) (a := a) (b := b) (l := l) (m := m) ⟨by rw [h1], by rw [h1]; rw [h2]⟩
    rw [h1, h3] at k3
    rw [h3] at k1 k2
    dsimp only at k1 k2 k3
    rw [h4] at k2 k3
    rw [h2] at k3
    exact .inl ⟨rfl, rfl, k1, k2, fun hne => (k3 hne).symm⟩
  · refine .inr ⟨?_, ?_⟩
    · by_cases e0 : e = 0
      · exact .inr fun f0 => h5 ⟨e0, f0⟩
      · exact .inl e0
    · by_cases g0 : g = 0
      · refine .inr fun h0 => h5 ?_
        subst g0 h0
        obtain ⟨k1, k2, _⟩ := set_turns (w := w) (a := b) (b := a) (l := m) (m := l) ⟨by rw [h3], by rw [h3]; rw [h4]⟩
        rw [h1] at k1 k2
        dsimp only at k1 k2
        rw [h2] at k2
        exact ⟨k1, k2⟩
      · exact .inl g0

set_option maxRecDepth 100000 in
set_option maxHeartbeats 4000000 in
theorem wturns_walk {s : Sn} (ao : Option Addr) (len cap : Nat) (zs : List Pv) (a b : Lab) (ha : a.fits) (hb0 : b.fits) (ao2 : Option Addr) (len2 cap2 : Nat) (zs2 : List Ov) (ao3 : Option Addr) (len3 cap3 : Nat) (zs3 : List Ov) (w : World) (hg : Ev s w) (hL : Parts w ao len cap zs) (hM : Objs w ao2 len2 cap2 zs2) (hN : Objs w ao3 len3 cap3 zs3) :
    Calls Tryz.prog 7 #[.slice ao len cap, .agg #[.int .i64 a.l, .int .u64 a.c, .int .i64 a.i], .agg #[.int .i64 b.l, .int .u64 b.c, .int .i64 b.i], .slice ao2 len2 cap2, .slice ao3 len3 cap3] w (BoolP true w) := by
  obtain ⟨l, hl⟩ : ∃ l, fewW (pts zs) = l := ⟨_, rfl⟩
  obtain ⟨k0, hk0⟩ : ∃ k0, l.length = k0 := ⟨_, rfl⟩
  have HL0 := Lib.hid (show l.length ≤ 8 from hl ▸ fewW_length _)
  have HLe := Lib.hid (And.intro hl hk0)
  obtain ⟨m, hm⟩ : ∃ l, fewL (obs zs2) = l := ⟨_, rfl⟩
  obtain ⟨km, hkm⟩ : ∃ k0, m.length = k0 := ⟨_, rfl⟩
  have EhM := Lib.hid (And.intro hm hkm)
  have ShM := Lib.hid (show Small m from hm ▸ small_few _)
  obtain ⟨n, hn⟩ : ∃ l, fewL (obs zs3) = l := ⟨_, rfl⟩
  obtain ⟨kn, hkn⟩ : ∃ k0, n.length = k0 := ⟨_, rfl⟩
  have EhN := Lib.hid (And.intro hn hkn)
  have ShN := Lib.hid (show Small n from hn ▸ small_few _)
  obtain ⟨ec, x, kx, h1, hk1⟩ := st_pairT l a m
  obtain ⟨fc, y, ky, h2, hk2⟩ := st_pairT x b n
  obtain ⟨gc, u, ku, h3, hk3⟩ := st_pairT l b n
  obtain ⟨hc, v, kv, h4, hk4⟩ := st_pairT u a m
  have n1 := set_pair h1
  have n2 := set_pair h3
  have HN := Lib.hid (And.intro (show x.length ≤ 9 by have := HL0.out; omega) (show u.length ≤ 9 by have := HL0.out; omega))
  have Y := Lib.hid (And.intro h1 (And.intro h2 (And.intro h3 h4)))
  have K := Lib.hid (And.intro hk1 (And.intro hk2 (And.intro hk3 hk4)))
  have T := Lib.hid (turns_or h1 h2 h3 h4)
  have HA := Lib.hid (And.intro ha hb0)
  clear h1 h2 h3 h4 hk1 hk2 hk3 hk4 n1 n2 ha hb0
  have HB := Lib.hid (Below.refl w.heap.size w)
  have N0 := Below.new w (.cells #[.int .i64 a.l, .int .u64 a.c, .int .i64 a.i] 25)
  have N1 := Below.new (w.alloc (.cells #[.int .i64 a.l, .int .u64 a.c, .int .i64 a.i] 25)) (.cells #[.int .i64 b.l, .int .u64 b.c, .int .i64 b.i] 25)
  have hb := below_more N0 N1
  have A := Lib.hid (LabAt.new w a 25)
  replace A := Lib.hid (A.out.more N1)
  have hB1 := LabAt.new (w.alloc (.cells #[.int .i64 a.l, .int .u64 a.c, .int .i64 a.i] 25)) b 25
  have hz1 : (w.alloc (.cells #[.int .i64 a.l, .int .u64 a.c, .int .i64 a.i] 25)).heap.size = w.heap.size + 1 := by simp
  have B := Lib.hid (show LabAt ((w.alloc (.cells #[.int .i64 a.l, .int .u64 a.c, .int .i64 a.i] 25)).alloc (.cells #[.int .i64 b.l, .int .u64 b.c, .int .i64 b.i] 25)) (w.heap.size + 1) b from hz1 ▸ hB1)
  clear hB1 hz1
  have D := Lib.hid ((WE.of hg).more hb)
  have IhL := Lib.hid (hL.more hb)
  have IhM := Lib.hid (hM.more hb)
  have IhN := Lib.hid (hN.more hb)
  clear HB hb hg hl hk0 N0 N1 hL hM hN hm hkm hn hkn
  go_enter Tryz.func7, Tryz.ntmps7
  go_wp2_with (go_at_call 10; refine (shown_w s _ D.out.ev).mono ?_)
  rintro e wn ⟨rfl, hb⟩
  replace D := Lib.hid (D.out.more hb)
  replace A := Lib.hid (A.out.more hb)
  replace B := Lib.hid (B.out.more hb)
  replace IhL := Lib.hid (IhL.out.more hb)
  replace IhM := Lib.hid (IhM.out.more hb)
  replace IhN := Lib.hid (IhN.out.more hb)
  clear hb
  go_wp2_with (go_at_call 11; refine (FewW_g HLe.out.1 HLe.out.2 IhL.out).mono ?_)
  rintro e wn ⟨vL, aL, cL, rfl, hA, hO2⟩
  have hb := hO2.below
  replace D := Lib.hid (D.out.more hb)
  replace A := Lib.hid (A.out.more hb)
  replace B := Lib.hid (B.out.more hb)
  replace IhM := Lib.hid (IhM.out.more hb)
  replace IhN := Lib.hid (IhN.out.more hb)
  have L := Lib.hid hA
  clear hA hO2 IhL
  clear hb
  go_wp2_with (go_at_call 23; refine (FewO_g EhM.out.1 EhM.out.2 IhM.out).mono ?_)
  rintro e wn ⟨vM, aM, cM, rfl, hvs, hO, _, _, hb⟩
  replace D := Lib.hid (D.out.more hb)
  replace A := Lib.hid (A.out.more hb)
  replace B := Lib.hid (B.out.more hb)
  replace IhN := Lib.hid (IhN.out.more hb)
  replace L := Lib.hid (L.out.more hb)
  have M := Lib.hid (SO.mk hvs hO ShM.out)
  clear hvs hO IhM
  clear hb
  go_wp2_with (go_at_call 23; refine (FewO_g EhN.out.1 EhN.out.2 IhN.out).mono ?_)
  rintro e wn ⟨vN, aN, cN, rfl, hvs, hO, _, _, hb⟩
  replace D := Lib.hid (D.out.more hb)
  replace A := Lib.hid (A.out.more hb)
  replace B := Lib.hid (B.out.more hb)
  replace L := Lib.hid (L.out.more hb)
  replace M := Lib.hid (M.out.more hb)
  have N := Lib.hid (SO.mk hvs hO ShN.out)
  clear hvs hO IhN
  clear hb
  obtain ⟨q00, q01, q02⟩ := A.out
  go_wp2_with (go_at_call 24; refine (GSet_w (Nat.le_trans HL0.out (by omega)) HA.out.1 Y.out.1 K.out.1 L.out M.out D.out).mono ?_)
  rintro e wn ⟨vX, aX, cX, rfl, hA, _, hb⟩
  replace D := Lib.hid (D.out.more hb)
  replace A := Lib.hid (A.out.more hb)
  replace B := Lib.hid (B.out.more hb)
  replace L := Lib.hid (L.out.more hb)
  replace M := Lib.hid (M.out.more hb)
  replace N := Lib.hid (N.out.more hb)
  have X := Lib.hid hA
  clear hA
  clear hb q00 q01 q02
  obtain ⟨q00, q01, q02⟩ := B.out
  go_wp2_with (go_at_call 24; refine (GSet_w HN.out.1 HA.out.2 Y.out.2.1 K.out.2.1 X.out N.out D.out).mono ?_)
  rintro e wn ⟨vZ, aZ, cZ, rfl, hA, _, hb⟩
  replace D := Lib.hid (D.out.more hb)
  replace A := Lib.hid (A.out.more hb)
  replace B := Lib.hid (B.out.more hb)
  replace L := Lib.hid (L.out.more hb)
  replace M := Lib.hid (M.out.more hb)
  replace N := Lib.hid (N.out.more hb)
  have Z := Lib.hid hA
  clear hA
  clear hb q00 q01 q02
  obtain ⟨q00, q01, q02⟩ := B.out
  go_wp2_with (go_at_call 24; refine (GSet_w (Nat.le_trans HL0.out (by omega)) HA.out.2 Y.out.2.2.1 K.out.2.2.1 L.out N.out D.out).mono ?_)
  rintro e wn ⟨vU, aU, cU, rfl, hA, _, hb⟩
  replace D := Lib.hid (D.out.more hb)
  replace A := Lib.hid (A.out.more hb)
  replace B := Lib.hid (B.out.more hb)
  replace M := Lib.hid (M.out.more hb)
  replace Z := Lib.hid (Z.out.more hb)
  have U := Lib.hid hA
  clear hA
  clear hb q00 q01 q02
  obtain ⟨q00, q01, q02⟩ := A.out
  go_wp2_with (go_at_call 24; refine (GSet_w HN.out.2 HA.out.1 Y.out.2.2.2 K.out.2.2.2 U.out M.out D.out).mono ?_)
  rintro e wn ⟨vV, aV, cV, rfl, hA, _, hb⟩
  replace D := Lib.hid (D.out.more hb)
  replace A := Lib.hid (A.out.more hb)
  replace B := Lib.hid (B.out.more hb)
  replace Z := Lib.hid (Z.out.more hb)
  have V := Lib.hid hA
  clear hA
  clear hb q00 q01 q02
  rcases T.out with ⟨rfl, rfl, rfl, rfl, hyv⟩ | ⟨h1, h2⟩
  · obtain ⟨q00, q01, q02⟩ := A.out
    obtain ⟨q10, q11, q12⟩ := B.out
    by_cases hab : a = b
    · subst hab
      have heq := Lb.eqL a a
      have hs : a.same a = true := (Lab.same_iff a a).2 rfl
      go_wp2
      go_ret
      exact ⟨rfl, D.out.below⟩
    · have hyv2 := Lib.hid (show sameW y v = true from sameW_iff.2 (hyv hab))
      have heq := Lb.eqL a b
      have hs : a.same b = false := by
        cases e : a.same b
        · rfl
        · exact absurd ((Lab.same_iff a b).1 e) hab
      clear hyv
      go_wp2_with (go_at_call 22; refine (GSame_w hyv2.out Z.out V.out D.out).mono ?_)
      rintro e wn ⟨rfl, hb⟩
      replace D := Lib.hid (D.out.more hb)
      clear hb
      go_wp2
      go_ret
      exact ⟨rfl, D.out.below⟩
  · have e1 : (ec != 0 || fc != 0) = true := by simpa using h1
    have e2 : (gc != 0 || hc != 0) = true := by simpa using h2
    cases d1 : ec != 0 <;> cases d2 : gc != 0
    all_goals
      rw [d1] at e1
      rw [d2] at e2
      simp only [Bool.false_or, Bool.true_or] at e1 e2
      go_wp2
      go_ret
      exact ⟨rfl, D.out.below⟩

end Go.Proofs.YtlafcplcjpcikaaGreatDoor
