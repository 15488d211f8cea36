/- WorldBack: the walk. -/
import Derived.Test.YtlafcplcjpcikaaGreatDoorWdE
import Derived.Test.YtlafcplcjpcikaaGreatDoorWdA
import Derived.Test.YtlafcplcjpcikaaGreatDoorLbA
import Derived.Test.YtlafcplcjpcikaaGreatDoorSpF
import Derived.Deep.RegionHeld3
namespace Go.Proofs.Wld
open Go.Proofs.Cats Go.Proofs.Rng Go.Proofs.Spc
theorem look_right {p : Option Lab} {w : List Pt} (h : goodW p w = true) (a : Lab) : rightB (lookW w a) = true := by
  induction w generalizing p with
  | nil => rfl
  | cons x r ih =>
    obtain ⟨h1, h5⟩ := goodW_cons.1 h
    unfold lookW
    split
    · exact h1.2.2.1
    · exact ih h5
/-- P11.3, as the law asks it. -/
theorem back_ok {l y : List Pt} {m : List Ob} {a : Lab} (h : setW l a m = (0, y)) : setW y a (getW l a) = (0, l) ∧ rightW y = true ∧ getW y a = m ∧ ∀ b, a ≠ b → getW y b = getW l b := by
  obtain ⟨r1, r2, r3, rfl⟩ := set_some h
  have ry := put_right r1 r2 r3
  have e1 : ∀ b, getW l b = lookW l b := fun b => by unfold getW; rw [if_pos r1]
  have e2 : ∀ b, getW (putW l a m) b = lookW (putW l a m) b := fun b => by unfold getW; rw [if_pos ry]
  refine ⟨?_, ry, ?_, fun b hne => ?_⟩
  · rw [e1, set_ok ry (look_right r1 a) r3, put_back m r1]
  · rw [e2, look_put r1]
  · rw [e1, e2, look_other _ _ (Ne.symm hne)]
end Go.Proofs.Wld
namespace Go.Proofs.YtlafcplcjpcikaaGreatDoor
open Go.RowKit Go.Proofs.Fld Go.Proofs.Rng Go.Proofs.Spc Go.Proofs.Cats Go.Proofs.Wld Go.Shelf Go.Sort

theorem st_pairB (l : List Pt) (a : Lab) (m : List Ob) : ∃ c y k, setW l a m = (c, y) ∧ y.length = k := ⟨_, _, _, rfl, rfl⟩
/-- What lives on through the region. -/
structure BkS (s : Sn) (w0 : World) (ba bb : Nat) (a b : Lab) (aL : Option Addr) (k0 cL : Nat) (vL : List Pv) (l : List Pt) (aX : Option Addr) (ky cX : Nat) (vX : List Pv) (y : List Pt) (aZ : Option Addr) (cZ : Nat) (vZ : List Pv) (aM : Option Addr) (km cM : Nat) (vM : List Ov) (m : List Ob) (W : World) : Prop where
  D : WE s w0 W
  A : LabAt W ba a
  B : LabAt W bb b
  L : SP W aL k0 cL vL l
  X : SP W aX ky cX vX y
  Z : SP W aZ k0 cZ vZ l
  M : SO W aM km cM vM m
theorem BkS.more {s : Sn} {w0 : World} {ba bb : Nat} {a b : Lab} {aL : Option Addr} {k0 cL : Nat} {vL : List Pv} {l : List Pt} {aX : Option Addr} {ky cX : Nat} {vX : List Pv} {y : List Pt} {aZ : Option Addr} {cZ : Nat} {vZ : List Pv} {aM : Option Addr} {km cM : Nat} {vM : List Ov} {m : List Ob} {W W' : World} (h : BkS s w0 ba bb a b aL k0 cL vL l aX ky cX vX y aZ cZ vZ aM km cM vM m W) (hb : Below W.heap.size W W') : BkS s w0 ba bb a b aL k0 cL vL l aX ky cX vX y aZ cZ vZ aM km cM vM m W' :=
  ⟨h.D.more hb, h.A.more hb, h.B.more hb, h.L.more hb, h.X.more hb, h.Z.more hb, h.M.more hb⟩
theorem set_len {w y : List Pt} {a : Lab} {l : List Ob} {c : Int} (h : setW w a l = (c, y)) : y.length ≤ w.length + 1 := by
  unfold setW at h
  split at h
  · rw [← (Prod.mk.inj h).2]; simp
  · split at h
    · rw [← (Prod.mk.inj h).2]; simp
    · rw [← (Prod.mk.inj h).2]; exact put_length w a l

set_option maxRecDepth 100000 in
set_option maxHeartbeats 4000000 in
theorem wback_walk {s : Sn} (ao : Option Addr) (len cap : Nat) (zs : List Pv) (a b : Lab) (ha : a.fits) (hb0 : b.fits) (ao2 : Option Addr) (len2 cap2 : Nat) (zs2 : List Ov) (w : World) (hg : Ev s w) (hL : Parts w ao len cap zs) (hM : Objs w ao2 len2 cap2 zs2) :
    Calls Tryz.prog 5 #[.slice ao len cap, .agg #[.int .i64 a.l, .int .u64 a.c, .int .i64 a.i], .agg #[.int .i64 b.l, .int .u64 b.c, .int .i64 b.i], .slice ao2 len2 cap2] w (BoolP true w) := by
  obtain ⟨l, hl⟩ : ∃ l, fewW (pts zs) = l := ⟨_, rfl⟩
  obtain ⟨k0, hk0⟩ : ∃ k0, l.length = k0 := ⟨_, rfl⟩
  have HL0 := Lib.hid (show l.length ≤ 8 from hl ▸ fewW_length _)
  have HLe := Lib.hid (And.intro hl hk0)
  obtain ⟨m, hm⟩ : ∃ l, fewL (obs zs2) = l := ⟨_, rfl⟩
  obtain ⟨km, hkm⟩ : ∃ k0, m.length = k0 := ⟨_, rfl⟩
  have EhM := Lib.hid (And.intro hm hkm)
  have ShM := Lib.hid (show Small m from hm ▸ small_few _)
  obtain ⟨os, hos⟩ : ∃ os, getW l a = os := ⟨_, rfl⟩
  obtain ⟨ko, hko⟩ : ∃ k, os.length = k := ⟨_, rfl⟩
  obtain ⟨ec, y, ky, hy, hky⟩ := st_pairB l a m
  obtain ⟨g1, hg1⟩ : ∃ g, getW y b = g := ⟨_, rfl⟩
  obtain ⟨n1, hn1⟩ : ∃ k, g1.length = k := ⟨_, rfl⟩
  obtain ⟨g2, hg2⟩ : ∃ g, getW l b = g := ⟨_, rfl⟩
  obtain ⟨n2, hn2⟩ : ∃ k, g2.length = k := ⟨_, rfl⟩
  have Y := Lib.hid (And.intro hos (And.intro hko (And.intro hy hky)))
  have G := Lib.hid (And.intro hg1 (And.intro hn1 (And.intro hg2 hn2)))
  have HK := Lib.hid (And.intro hk0 hkm)
  have HP := Lib.hid (show y.length ≤ 9 by have := set_len hy; have := HL0.out; omega)
  have T0 := Lib.hid (show ec = 0 → setW y a os = (0, l) ∧ rightW y = true ∧ getW y a = m ∧ (a ≠ b → sameL g1 g2 = true) from fun h => by
    subst h
    obtain ⟨b1, b2, b3, b4⟩ := back_ok hy
    exact ⟨hos ▸ b1, b2, b3, fun hne => by rw [← hg1, ← hg2, b4 b hne]; exact sameL_self _⟩)
  have T1 := Lib.hid (show ¬ ec = 0 → ky = 0 ∧ (ec = 110 ∨ ec = 20) from fun h => by
    obtain ⟨h1, h2⟩ := set_none hy h
    exact ⟨by rw [← hky, h1]; rfl, h2⟩)
  have HA := Lib.hid (And.intro ha hb0)
  clear hos hko hy hky hg1 hn1 hg2 hn2 ha hb0
  have HB := Lib.hid (Below.refl w.heap.size w)
  have N0 := Below.new w (.cells #[.int .i64 a.l, .int .u64 a.c, .int .i64 a.i] 25)
  have N1 := Below.new (w.alloc (.cells #[.int .i64 a.l, .int .u64 a.c, .int .i64 a.i] 25)) (.cells #[.int .i64 b.l, .int .u64 b.c, .int .i64 b.i] 25)
  have hb := below_more N0 N1
  have A := Lib.hid (LabAt.new w a 25)
  replace A := Lib.hid (A.out.more N1)
  have hB1 := LabAt.new (w.alloc (.cells #[.int .i64 a.l, .int .u64 a.c, .int .i64 a.i] 25)) b 25
  have hz1 : (w.alloc (.cells #[.int .i64 a.l, .int .u64 a.c, .int .i64 a.i] 25)).heap.size = w.heap.size + 1 := by simp
  have B := Lib.hid (show LabAt ((w.alloc (.cells #[.int .i64 a.l, .int .u64 a.c, .int .i64 a.i] 25)).alloc (.cells #[.int .i64 b.l, .int .u64 b.c, .int .i64 b.i] 25)) (w.heap.size + 1) b from hz1 ▸ hB1)
  clear hB1 hz1
  have D := Lib.hid ((WE.of hg).more hb)
  have IhL := Lib.hid (hL.more hb)
  have IhM := Lib.hid (hM.more hb)
  clear HB hb hg hl hk0 N0 N1 hL hM hm hkm
  go_enter Tryz.func5, Tryz.ntmps5
  go_wp2_with (go_at_call 10; refine (shown_w s _ D.out.ev).mono ?_)
  rintro e wn ⟨rfl, hb⟩
  replace D := Lib.hid (D.out.more hb)
  replace A := Lib.hid (A.out.more hb)
  replace B := Lib.hid (B.out.more hb)
  replace IhL := Lib.hid (IhL.out.more hb)
  replace IhM := Lib.hid (IhM.out.more hb)
  clear hb
  go_wp2_with (go_at_call 11; refine (FewW_g HLe.out.1 HLe.out.2 IhL.out).mono ?_)
  rintro e wn ⟨vL, aL, cL, rfl, hA, hO2⟩
  have hb := hO2.below
  replace D := Lib.hid (D.out.more hb)
  replace A := Lib.hid (A.out.more hb)
  replace B := Lib.hid (B.out.more hb)
  replace IhM := Lib.hid (IhM.out.more hb)
  have L := Lib.hid hA
  clear hA hO2 IhL
  clear hb
  go_wp2_with (go_at_call 23; refine (FewO_g EhM.out.1 EhM.out.2 IhM.out).mono ?_)
  rintro e wn ⟨vM, aM, cM, rfl, hvs, hO, _, _, hb⟩
  replace D := Lib.hid (D.out.more hb)
  replace A := Lib.hid (A.out.more hb)
  replace B := Lib.hid (B.out.more hb)
  replace L := Lib.hid (L.out.more hb)
  have M := Lib.hid (SO.mk hvs hO ShM.out)
  clear hvs hO IhM
  clear hb
  obtain ⟨q00, q01, q02⟩ := A.out
  go_wp2_with (go_at_call 15; refine (GGet_w HA.out.1 Y.out.1 Y.out.2.1 L.out D.out).mono ?_)
  rintro e wn ⟨vI, aI, cI, rfl, hA, _, hb⟩
  replace D := Lib.hid (D.out.more hb)
  replace A := Lib.hid (A.out.more hb)
  replace B := Lib.hid (B.out.more hb)
  replace L := Lib.hid (L.out.more hb)
  replace M := Lib.hid (M.out.more hb)
  have I := Lib.hid hA
  clear hA
  clear hb q00 q01 q02
  obtain ⟨q00, q01, q02⟩ := A.out
  go_wp2_with (go_at_call 24; refine (GSet_w (Nat.le_trans HL0.out (by omega)) HA.out.1 Y.out.2.2.1 Y.out.2.2.2 L.out M.out D.out).mono ?_)
  rintro e wn ⟨vX, aX, cX, rfl, hA, _, hb⟩
  replace D := Lib.hid (D.out.more hb)
  replace A := Lib.hid (A.out.more hb)
  replace B := Lib.hid (B.out.more hb)
  replace L := Lib.hid (L.out.more hb)
  replace M := Lib.hid (M.out.more hb)
  replace I := Lib.hid (I.out.more hb)
  have X := Lib.hid hA
  clear hA
  clear hb q00 q01 q02
  by_cases he : ec = 0
  · subst he
    have TT := Lib.hid (T0.out rfl)
    obtain ⟨q00, q01, q02⟩ := A.out
    go_wp2_with (go_at_call 24; refine (GSet_w HP.out HA.out.1 TT.out.1 HK.out.1 X.out I.out D.out).mono ?_)
    rintro e wn ⟨vZ, aZ, cZ, rfl, hA, _, hb⟩
    have SS := Lib.hid (show BkS s w w.heap.size (w.heap.size + 1) a b aL k0 cL vL l aX ky cX vX y aZ cZ vZ aM km cM vM m _ from ⟨D.out.more hb, A.out.more hb, B.out.more hb, L.out.more hb, X.out.more hb, hA, M.out.more hb⟩)
    clear hA hb q00 q01 q02 D A B L X M I
    obtain ⟨wr, hwr⟩ : ∃ wr, wn = wr := ⟨_, rfl⟩
    rw [hwr] at SS
    rw [hwr]
    clear hwr
    have S0 := Lib.hid (SS.out.more (Below.refl _ wr).drew)
    obtain ⟨x00, x01, x02⟩ := S0.out.A
    obtain ⟨x03, x04, x05⟩ := S0.out.B
    have H0 := Lib.hid (GSame_w (sameW_self l) S0.out.Z S0.out.L S0.out.D)
    have heq := Lb.eqL a b
    by_cases hab : a = b
    · have hs : a.same b = true := (Lab.same_iff a b).2 hab
      rw [hs] at heq
      clear hab hs
      go_wp2
      refine wp_region_held_drew (S := (fun w' => (w'.cell? ⟨w.heap.size, 0, none⟩ = some (.int .i64 a.l) ∧ w'.cell? ⟨w.heap.size, 1, none⟩ = some (.int .u64 a.c) ∧ w'.cell? ⟨w.heap.size, 2, none⟩ = some (.int .i64 a.i)) ∧ w'.cell? ⟨w.heap.size + 1, 0, none⟩ = some (.int .i64 b.l) ∧ w'.cell? ⟨w.heap.size + 1, 1, none⟩ = some (.int .u64 b.c) ∧ w'.cell? ⟨w.heap.size + 1, 2, none⟩ = some (.int .i64 b.i))) (by kernel_rfl) (⟨⟨x00, x01, x02⟩, x03, x04, x05⟩) (fun hS0 => ?_)
      refine wpAnyH_take (i := 0) (oi := { dst := some 53, op := Go.Op.move (Go.Operand.tmp 9), type := 4, pos := "law.go:60", after := #[], guard := none }) (v := ?_) rfl (by kernel_rfl) (by kernel_rfl) (by kernel_rfl) (fun _ _ _ h => h) (Or.inl ⟨by rfl, ?_⟩) hS0 ?_; rotate_left; (· (intro wq hSw; obtain ⟨⟨y0, y1, y2⟩, y3, y4, y5⟩ := hSw; go_simp; try with_reducible rfl))
      try simp only [Act.put, List.setIfInBounds_toArray, List.set_cons_zero, List.set_cons_succ]
      refine wpAnyH_take (i := 1) (oi := { dst := some 54, op := Go.Op.move (Go.Operand.tmp 53), type := 4, pos := "law.go:60", after := #[{ on := 0, ground := Go.Ground.data }], guard := none }) (v := ?_) rfl (by kernel_rfl) (by kernel_rfl) (by kernel_rfl) (fun _ _ _ h => h) (Or.inl ⟨by rfl, ?_⟩) hS0 ?_; rotate_left; (· (intro wq hSw; obtain ⟨⟨y0, y1, y2⟩, y3, y4, y5⟩ := hSw; go_simp; try with_reducible rfl))
      try simp only [Act.put, List.setIfInBounds_toArray, List.set_cons_zero, List.set_cons_succ]
      refine wpAnyH_take (i := 2) (oi := { dst := some 55, op := Go.Op.move (Go.Operand.tmp 14), type := 37, pos := "law.go:60", after := #[{ on := 1, ground := Go.Ground.guard }], guard := some (1, true) }) (v := ?_) rfl (by kernel_rfl) (by kernel_rfl) (by kernel_rfl) (fun _ _ _ h => h) (Or.inl ⟨by rfl, ?_⟩) hS0 ?_; rotate_left; (· (intro wq hSw; obtain ⟨⟨y0, y1, y2⟩, y3, y4, y5⟩ := hSw; go_simp; try with_reducible rfl))
      try simp only [Act.put, List.setIfInBounds_toArray, List.set_cons_zero, List.set_cons_succ]
      refine wpAnyH_take (i := 3) (oi := { dst := some 56, op := Go.Op.binOp Go.BinOp.eql 37 (Go.Operand.tmp 55) (Go.Operand.const (Go.Value.int Go.IntKind.i64 0)) 37, type := 4, pos := "law.go:60", after := #[{ on := 2, ground := Go.Ground.data }, { on := 1, ground := Go.Ground.guard }], guard := some (1, true) }) (v := ?_) rfl (by kernel_rfl) (by kernel_rfl) (by kernel_rfl) (fun _ _ _ h => h) (Or.inl ⟨by rfl, ?_⟩) hS0 ?_; rotate_left; (· (intro wq hSw; obtain ⟨⟨y0, y1, y2⟩, y3, y4, y5⟩ := hSw; go_simp; try with_reducible rfl))
      try simp only [Act.put, List.setIfInBounds_toArray, List.set_cons_zero, List.set_cons_succ]
      refine wpAnyH_take (i := 4) (oi := { dst := some 57, op := Go.Op.pick (Go.Operand.tmp 54) (Go.Operand.tmp 56) (Go.Operand.const (Go.Value.bool false)), type := 4, pos := "law.go:60", after := #[{ on := 1, ground := Go.Ground.data }, { on := 3, ground := Go.Ground.data }], guard := none }) (v := ?_) rfl (by kernel_rfl) (by kernel_rfl) (by kernel_rfl) (fun _ _ _ h => h) (Or.inl ⟨by rfl, ?_⟩) hS0 ?_; rotate_left; (· (intro wq hSw; obtain ⟨⟨y0, y1, y2⟩, y3, y4, y5⟩ := hSw; go_simp; try with_reducible rfl))
      try simp only [Act.put, List.setIfInBounds_toArray, List.set_cons_zero, List.set_cons_succ]
      refine wpAnyH_take (i := 5) (oi := { dst := some 58, op := Go.Op.move (Go.Operand.tmp 57), type := 4, pos := "law.go:60", after := #[{ on := 4, ground := Go.Ground.data }, { on := 1, ground := Go.Ground.chain }], guard := none }) (v := ?_) rfl (by kernel_rfl) (by kernel_rfl) (by kernel_rfl) (fun _ _ _ h => h) (Or.inl ⟨by rfl, ?_⟩) hS0 ?_; rotate_left; (· (intro wq hSw; obtain ⟨⟨y0, y1, y2⟩, y3, y4, y5⟩ := hSw; go_simp; try with_reducible rfl))
      try simp only [Act.put, List.setIfInBounds_toArray, List.set_cons_zero, List.set_cons_succ]
      refine wpAnyH_take (i := 6) (oi := { dst := some 59, op := Go.Op.move (Go.Operand.tmp 13), type := 22, pos := "law.go:60", after := #[{ on := 5, ground := Go.Ground.guard }], guard := some (5, true) }) (v := ?_) rfl (by kernel_rfl) (by kernel_rfl) (by kernel_rfl) (fun _ _ _ h => h) (Or.inl ⟨by rfl, ?_⟩) hS0 ?_; rotate_left; (· (intro wq hSw; obtain ⟨⟨y0, y1, y2⟩, y3, y4, y5⟩ := hSw; go_simp; try with_reducible rfl))
      try simp only [Act.put, List.setIfInBounds_toArray, List.set_cons_zero, List.set_cons_succ]
      refine wpAnyH_take (i := 7) (oi := { dst := some 60, op := Go.Op.move (Go.Operand.tmp 0), type := 22, pos := "law.go:60", after := #[{ on := 5, ground := Go.Ground.guard }], guard := some (5, true) }) (v := ?_) rfl (by kernel_rfl) (by kernel_rfl) (by kernel_rfl) (fun _ _ _ h => h) (Or.inl ⟨by rfl, ?_⟩) hS0 ?_; rotate_left; (· (intro wq hSw; obtain ⟨⟨y0, y1, y2⟩, y3, y4, y5⟩ := hSw; go_simp; try with_reducible rfl))
      try simp only [Act.put, List.setIfInBounds_toArray, List.set_cons_zero, List.set_cons_succ]
      refine wpAnyH_ready (rs := [8]) (by kernel_rfl) (by simp) ?_
      refine AllReadyH.cons (o := { dst := some 61, op := Go.Op.call { callee := Go.Callee.value (Go.Operand.func 22), args := #[Go.Operand.tmp 59, Go.Operand.tmp 60], argTypes := #[22, 22] }, type := 4, pos := "law.go:60", after := #[{ on := 6, ground := Go.Ground.data }, { on := 7, ground := Go.Ground.data }, { on := 5, ground := Go.Ground.chain }, { on := 5, ground := Go.Ground.guard }], guard := some (5, true) }) rfl (fun K hK => ?_) AllReadyH.nil
      go_simp
      refine H0.out.mono ?_
      rintro e wx ⟨rfl, hb1⟩
      have S1 := Lib.hid (S0.out.more hb1)
      obtain ⟨x10, x11, x12⟩ := S1.out.A
      obtain ⟨x13, x14, x15⟩ := S1.out.B
      have H1 := Lib.hid (GRight_w TT.out.2.1 S1.out.X S1.out.D)
      refine hK.out _ _ ⟨⟨x10, x11, x12⟩, x13, x14, x15⟩ (fun hS1 => ?_)
      clear hK K hS0
      try simp only [Act.put, List.setIfInBounds_toArray, List.set_cons_zero, List.set_cons_succ]
      refine wpAnyH_take (i := 9) (oi := { dst := some 62, op := Go.Op.pick (Go.Operand.tmp 58) (Go.Operand.tmp 61) (Go.Operand.const (Go.Value.bool false)), type := 4, pos := "law.go:60", after := #[{ on := 5, ground := Go.Ground.data }, { on := 8, ground := Go.Ground.data }], guard := none }) (v := ?_) rfl (by kernel_rfl) (by kernel_rfl) (by kernel_rfl) (fun _ _ _ h => h) (Or.inl ⟨by rfl, ?_⟩) hS1 ?_; rotate_left; (· (intro wq hSw; obtain ⟨⟨y0, y1, y2⟩, y3, y4, y5⟩ := hSw; go_simp; try with_reducible rfl))
      try simp only [Act.put, List.setIfInBounds_toArray, List.set_cons_zero, List.set_cons_succ]
      refine wpAnyH_take (i := 10) (oi := { dst := some 63, op := Go.Op.move (Go.Operand.tmp 62), type := 4, pos := "law.go:60", after := #[{ on := 9, ground := Go.Ground.data }, { on := 8, ground := Go.Ground.chain }], guard := none }) (v := ?_) rfl (by kernel_rfl) (by kernel_rfl) (by kernel_rfl) (fun _ _ _ h => h) (Or.inl ⟨by rfl, ?_⟩) hS1 ?_; rotate_left; (· (intro wq hSw; obtain ⟨⟨y0, y1, y2⟩, y3, y4, y5⟩ := hSw; go_simp; try with_reducible rfl))
      try simp only [Act.put, List.setIfInBounds_toArray, List.set_cons_zero, List.set_cons_succ]
      refine wpAnyH_take (i := 11) (oi := { dst := some 64, op := Go.Op.move (Go.Operand.tmp 11), type := 22, pos := "law.go:60", after := #[{ on := 10, ground := Go.Ground.guard }], guard := some (10, true) }) (v := ?_) rfl (by kernel_rfl) (by kernel_rfl) (by kernel_rfl) (fun _ _ _ h => h) (Or.inl ⟨by rfl, ?_⟩) hS1 ?_; rotate_left; (· (intro wq hSw; obtain ⟨⟨y0, y1, y2⟩, y3, y4, y5⟩ := hSw; go_simp; try with_reducible rfl))
      try simp only [Act.put, List.setIfInBounds_toArray, List.set_cons_zero, List.set_cons_succ]
      refine wpAnyH_ready (rs := [12]) (by kernel_rfl) (by simp) ?_
      refine AllReadyH.cons (o := { dst := some 65, op := Go.Op.call { callee := Go.Callee.value (Go.Operand.func 12), args := #[Go.Operand.tmp 64], argTypes := #[22] }, type := 4, pos := "law.go:60", after := #[{ on := 11, ground := Go.Ground.data }, { on := 10, ground := Go.Ground.chain }, { on := 10, ground := Go.Ground.guard }], guard := some (10, true) }) rfl (fun K hK => ?_) AllReadyH.nil
      go_simp
      refine H1.out.mono ?_
      rintro e wx ⟨rfl, hb2⟩
      have S2 := Lib.hid (S1.out.more hb2)
      obtain ⟨x20, x21, x22⟩ := S2.out.A
      obtain ⟨x23, x24, x25⟩ := S2.out.B
      have H2 := Lib.hid (GGet_w HA.out.1 TT.out.2.2.1 HK.out.2 S2.out.X S2.out.D)
      refine hK.out _ _ ⟨⟨x20, x21, x22⟩, x23, x24, x25⟩ (fun hS2 => ?_)
      clear hK K hS1
      try simp only [Act.put, List.setIfInBounds_toArray, List.set_cons_zero, List.set_cons_succ]
      refine wpAnyH_take (i := 13) (oi := { dst := some 66, op := Go.Op.pick (Go.Operand.tmp 63) (Go.Operand.tmp 65) (Go.Operand.const (Go.Value.bool false)), type := 4, pos := "law.go:60", after := #[{ on := 10, ground := Go.Ground.data }, { on := 12, ground := Go.Ground.data }], guard := none }) (v := ?_) rfl (by kernel_rfl) (by kernel_rfl) (by kernel_rfl) (fun _ _ _ h => h) (Or.inl ⟨by rfl, ?_⟩) hS2 ?_; rotate_left; (· (intro wq hSw; obtain ⟨⟨y0, y1, y2⟩, y3, y4, y5⟩ := hSw; go_simp; try with_reducible rfl))
      try simp only [Act.put, List.setIfInBounds_toArray, List.set_cons_zero, List.set_cons_succ]
      refine wpAnyH_take (i := 14) (oi := { dst := some 67, op := Go.Op.move (Go.Operand.tmp 66), type := 4, pos := "law.go:60", after := #[{ on := 13, ground := Go.Ground.data }, { on := 12, ground := Go.Ground.chain }], guard := none }) (v := ?_) rfl (by kernel_rfl) (by kernel_rfl) (by kernel_rfl) (fun _ _ _ h => h) (Or.inl ⟨by rfl, ?_⟩) hS2 ?_; rotate_left; (· (intro wq hSw; obtain ⟨⟨y0, y1, y2⟩, y3, y4, y5⟩ := hSw; go_simp; try with_reducible rfl))
      try simp only [Act.put, List.setIfInBounds_toArray, List.set_cons_zero, List.set_cons_succ]
      refine wpAnyH_take (i := 15) (oi := { dst := some 68, op := Go.Op.move (Go.Operand.tmp 11), type := 22, pos := "law.go:60", after := #[{ on := 14, ground := Go.Ground.guard }], guard := some (14, true) }) (v := ?_) rfl (by kernel_rfl) (by kernel_rfl) (by kernel_rfl) (fun _ _ _ h => h) (Or.inl ⟨by rfl, ?_⟩) hS2 ?_; rotate_left; (· (intro wq hSw; obtain ⟨⟨y0, y1, y2⟩, y3, y4, y5⟩ := hSw; go_simp; try with_reducible rfl))
      try simp only [Act.put, List.setIfInBounds_toArray, List.set_cons_zero, List.set_cons_succ]
      refine wpAnyH_take (i := 16) (oi := { dst := some 69, op := Go.Op.load 25 (Go.Operand.tmp 5), type := 25, pos := "law.go:60", after := #[{ on := 14, ground := Go.Ground.guard }], guard := some (14, true) }) (v := ?_) rfl (by kernel_rfl) (by kernel_rfl) (by kernel_rfl) (fun _ _ _ h => h) (Or.inl ⟨by rfl, ?_⟩) hS2 ?_; rotate_left; (· (intro wq hSw; obtain ⟨⟨y0, y1, y2⟩, y3, y4, y5⟩ := hSw; go_simp; try with_reducible rfl))
      try simp only [Act.put, List.setIfInBounds_toArray, List.set_cons_zero, List.set_cons_succ]
      refine wpAnyH_take (i := 18) (oi := { dst := some 71, op := Go.Op.move (Go.Operand.tmp 3), type := 30, pos := "law.go:60", after := #[{ on := 14, ground := Go.Ground.guard }], guard := some (14, true) }) (v := ?_) rfl (by kernel_rfl) (by kernel_rfl) (by kernel_rfl) (fun _ _ _ h => h) (Or.inl ⟨by rfl, ?_⟩) hS2 ?_; rotate_left; (· (intro wq hSw; obtain ⟨⟨y0, y1, y2⟩, y3, y4, y5⟩ := hSw; go_simp; try with_reducible rfl))
      try simp only [Act.put, List.setIfInBounds_toArray, List.set_cons_zero, List.set_cons_succ]
      refine wpAnyH_ready (rs := [17]) (by kernel_rfl) (by simp) ?_
      refine AllReadyH.cons (o := { dst := some 70, op := Go.Op.call { callee := Go.Callee.value (Go.Operand.func 15), args := #[Go.Operand.tmp 68, Go.Operand.tmp 69], argTypes := #[22, 25] }, type := 30, pos := "law.go:60", after := #[{ on := 15, ground := Go.Ground.data }, { on := 16, ground := Go.Ground.data }, { on := 14, ground := Go.Ground.chain }, { on := 14, ground := Go.Ground.guard }], guard := some (14, true) }) rfl (fun K hK => ?_) AllReadyH.nil
      go_simp
      refine H2.out.mono ?_
      rintro e wx ⟨vG, aG, cG, rfl, hG, _, hb3⟩
      have S3 := Lib.hid (S2.out.more hb3)
      obtain ⟨x30, x31, x32⟩ := S3.out.A
      obtain ⟨x33, x34, x35⟩ := S3.out.B
      have H3 := Lib.hid (RSame_w (sameL_self m) hG S3.out.M)
      refine hK.out _ _ ⟨⟨x30, x31, x32⟩, x33, x34, x35⟩ (fun hS3 => ?_)
      clear hK K hS2
      try simp only [Act.put, List.setIfInBounds_toArray, List.set_cons_zero, List.set_cons_succ]
      refine wpAnyH_ready (rs := [19]) (by kernel_rfl) (by simp) ?_
      refine AllReadyH.cons (o := { dst := some 72, op := Go.Op.call { callee := Go.Callee.value (Go.Operand.func 14), args := #[Go.Operand.tmp 70, Go.Operand.tmp 71], argTypes := #[30, 30] }, type := 4, pos := "law.go:60", after := #[{ on := 17, ground := Go.Ground.data }, { on := 18, ground := Go.Ground.data }, { on := 17, ground := Go.Ground.chain }, { on := 14, ground := Go.Ground.guard }], guard := some (14, true) }) rfl (fun K hK => ?_) AllReadyH.nil
      go_simp
      refine H3.out.mono ?_
      rintro e wx ⟨rfl, hb4⟩
      have S4 := Lib.hid (S3.out.more hb4)
      obtain ⟨x40, x41, x42⟩ := S4.out.A
      obtain ⟨x43, x44, x45⟩ := S4.out.B
      have H4 := Lib.hid (GGet_w HA.out.2 G.out.1 G.out.2.1 S4.out.X S4.out.D)
      have H5 := Lib.hid (GGet_w HA.out.2 G.out.2.2.1 G.out.2.2.2 S4.out.L S4.out.D)
      refine hK.out _ _ ⟨⟨x40, x41, x42⟩, x43, x44, x45⟩ (fun hS4 => ?_)
      clear hK K hS3
      try simp only [Act.put, List.setIfInBounds_toArray, List.set_cons_zero, List.set_cons_succ]
      refine wpAnyH_take (i := 20) (oi := { dst := some 73, op := Go.Op.pick (Go.Operand.tmp 67) (Go.Operand.tmp 72) (Go.Operand.const (Go.Value.bool false)), type := 4, pos := "law.go:60", after := #[{ on := 14, ground := Go.Ground.data }, { on := 19, ground := Go.Ground.data }], guard := none }) (v := ?_) rfl (by kernel_rfl) (by kernel_rfl) (by kernel_rfl) (fun _ _ _ h => h) (Or.inl ⟨by rfl, ?_⟩) hS4 ?_; rotate_left; (· (intro wq hSw; obtain ⟨⟨y0, y1, y2⟩, y3, y4, y5⟩ := hSw; go_simp; try with_reducible rfl))
      try simp only [Act.put, List.setIfInBounds_toArray, List.set_cons_zero, List.set_cons_succ]
      refine wpAnyH_take (i := 21) (oi := { dst := some 74, op := Go.Op.move (Go.Operand.tmp 73), type := 4, pos := "law.go:60", after := #[{ on := 20, ground := Go.Ground.data }, { on := 19, ground := Go.Ground.chain }], guard := none }) (v := ?_) rfl (by kernel_rfl) (by kernel_rfl) (by kernel_rfl) (fun _ _ _ h => h) (Or.inl ⟨by rfl, ?_⟩) hS4 ?_; rotate_left; (· (intro wq hSw; obtain ⟨⟨y0, y1, y2⟩, y3, y4, y5⟩ := hSw; go_simp; try with_reducible rfl))
      try simp only [Act.put, List.setIfInBounds_toArray, List.set_cons_zero, List.set_cons_succ]
      refine wpAnyH_take (i := 22) (oi := { dst := some 75, op := Go.Op.load 25 (Go.Operand.tmp 5), type := 25, pos := "law.go:60", after := #[{ on := 21, ground := Go.Ground.guard }], guard := some (21, true) }) (v := ?_) rfl (by kernel_rfl) (by kernel_rfl) (by kernel_rfl) (fun _ _ _ h => h) (Or.inl ⟨by rfl, ?_⟩) hS4 ?_; rotate_left; (· (intro wq hSw; obtain ⟨⟨y0, y1, y2⟩, y3, y4, y5⟩ := hSw; go_simp; try with_reducible rfl))
      try simp only [Act.put, List.setIfInBounds_toArray, List.set_cons_zero, List.set_cons_succ]
      refine wpAnyH_take (i := 23) (oi := { dst := some 76, op := Go.Op.load 25 (Go.Operand.tmp 6), type := 25, pos := "law.go:60", after := #[{ on := 21, ground := Go.Ground.guard }], guard := some (21, true) }) (v := ?_) rfl (by kernel_rfl) (by kernel_rfl) (by kernel_rfl) (fun _ _ _ h => h) (Or.inl ⟨by rfl, ?_⟩) hS4 ?_; rotate_left; (· (intro wq hSw; obtain ⟨⟨y0, y1, y2⟩, y3, y4, y5⟩ := hSw; go_simp; try with_reducible rfl))
      try simp only [Act.put, List.setIfInBounds_toArray, List.set_cons_zero, List.set_cons_succ]
      refine wpAnyH_take (i := 24) (oi := { dst := some 77, op := Go.Op.binOp Go.BinOp.eql 25 (Go.Operand.tmp 75) (Go.Operand.tmp 76) 25, type := 4, pos := "law.go:60", after := #[{ on := 22, ground := Go.Ground.data }, { on := 23, ground := Go.Ground.data }, { on := 21, ground := Go.Ground.guard }], guard := some (21, true) }) (v := ?_) rfl (by kernel_rfl) (by kernel_rfl) (by kernel_rfl) (fun _ _ _ h => h) (Or.inl ⟨by rfl, ?_⟩) hS4 ?_; rotate_left; (· (intro wq hSw; obtain ⟨⟨y0, y1, y2⟩, y3, y4, y5⟩ := hSw; go_simp; try with_reducible rfl))
      try simp only [Act.put, List.setIfInBounds_toArray, List.set_cons_zero, List.set_cons_succ]
      refine wpAnyH_take (i := 25) (oi := { dst := some 78, op := Go.Op.move (Go.Operand.tmp 77), type := 4, pos := "law.go:60", after := #[{ on := 24, ground := Go.Ground.data }, { on := 21, ground := Go.Ground.chain }, { on := 21, ground := Go.Ground.guard }], guard := some (21, true) }) (v := ?_) rfl (by kernel_rfl) (by kernel_rfl) (by kernel_rfl) (fun _ _ _ h => h) (Or.inl ⟨by rfl, ?_⟩) hS4 ?_; rotate_left; (· (intro wq hSw; obtain ⟨⟨y0, y1, y2⟩, y3, y4, y5⟩ := hSw; go_simp; try with_reducible rfl))
      try simp only [Act.put, List.setIfInBounds_toArray, List.set_cons_zero, List.set_cons_succ]
      refine wpAnyH_take (i := 26) (oi := { dst := some 79, op := Go.Op.move (Go.Operand.tmp 11), type := 22, pos := "law.go:60", after := #[{ on := 25, ground := Go.Ground.guard }], guard := some (25, false) }) (v := undef) rfl (by kernel_rfl) (by kernel_rfl) (by kernel_rfl) (fun _ _ _ h => h) (Or.inr ⟨by rfl, rfl⟩) hS4 ?_
      try simp only [Act.put, List.setIfInBounds_toArray, List.set_cons_zero, List.set_cons_succ]
      refine wpAnyH_take (i := 27) (oi := { dst := some 80, op := Go.Op.load 25 (Go.Operand.tmp 6), type := 25, pos := "law.go:60", after := #[{ on := 25, ground := Go.Ground.guard }], guard := some (25, false) }) (v := undef) rfl (by kernel_rfl) (by kernel_rfl) (by kernel_rfl) (fun _ _ _ h => h) (Or.inr ⟨by rfl, rfl⟩) hS4 ?_
      try simp only [Act.put, List.setIfInBounds_toArray, List.set_cons_zero, List.set_cons_succ]
      refine wpAnyH_take (i := 29) (oi := { dst := some 82, op := Go.Op.move (Go.Operand.tmp 0), type := 22, pos := "law.go:60", after := #[{ on := 25, ground := Go.Ground.guard }], guard := some (25, false) }) (v := undef) rfl (by kernel_rfl) (by kernel_rfl) (by kernel_rfl) (fun _ _ _ h => h) (Or.inr ⟨by rfl, rfl⟩) hS4 ?_
      try simp only [Act.put, List.setIfInBounds_toArray, List.set_cons_zero, List.set_cons_succ]
      refine wpAnyH_take (i := 30) (oi := { dst := some 83, op := Go.Op.load 25 (Go.Operand.tmp 6), type := 25, pos := "law.go:60", after := #[{ on := 25, ground := Go.Ground.guard }], guard := some (25, false) }) (v := undef) rfl (by kernel_rfl) (by kernel_rfl) (by kernel_rfl) (fun _ _ _ h => h) (Or.inr ⟨by rfl, rfl⟩) hS4 ?_
      try simp only [Act.put, List.setIfInBounds_toArray, List.set_cons_zero, List.set_cons_succ]
      refine wpAnyH_ready (rs := [28]) (by kernel_rfl) (by simp) ?_
      refine AllReadyH.cons (o := { dst := some 81, op := Go.Op.call { callee := Go.Callee.value (Go.Operand.func 15), args := #[Go.Operand.tmp 79, Go.Operand.tmp 80], argTypes := #[22, 25] }, type := 30, pos := "law.go:60", after := #[{ on := 26, ground := Go.Ground.data }, { on := 27, ground := Go.Ground.data }, { on := 25, ground := Go.Ground.chain }, { on := 25, ground := Go.Ground.guard }], guard := some (25, false) }) rfl (fun K hK => ?_) AllReadyH.nil
      rw [if_neg (by intro h; cases h)]
      refine hK.out _ _ hS4 (fun hS5 => ?_)
      clear hK K hS4
      try simp only [Act.put, List.setIfInBounds_toArray, List.set_cons_zero, List.set_cons_succ]
      refine wpAnyH_ready (rs := [31]) (by kernel_rfl) (by simp) ?_
      refine AllReadyH.cons (o := { dst := some 84, op := Go.Op.call { callee := Go.Callee.value (Go.Operand.func 15), args := #[Go.Operand.tmp 82, Go.Operand.tmp 83], argTypes := #[22, 25] }, type := 30, pos := "law.go:60", after := #[{ on := 29, ground := Go.Ground.data }, { on := 30, ground := Go.Ground.data }, { on := 28, ground := Go.Ground.chain }, { on := 25, ground := Go.Ground.guard }], guard := some (25, false) }) rfl (fun K hK => ?_) AllReadyH.nil
      rw [if_neg (by intro h; cases h)]
      refine hK.out _ _ hS5 (fun hS6 => ?_)
      clear hK K hS5
      try simp only [Act.put, List.setIfInBounds_toArray, List.set_cons_zero, List.set_cons_succ]
      refine wpAnyH_ready (rs := [32]) (by kernel_rfl) (by simp) ?_
      refine AllReadyH.cons (o := { dst := some 85, op := Go.Op.call { callee := Go.Callee.value (Go.Operand.func 14), args := #[Go.Operand.tmp 81, Go.Operand.tmp 84], argTypes := #[30, 30] }, type := 4, pos := "law.go:60", after := #[{ on := 28, ground := Go.Ground.data }, { on := 31, ground := Go.Ground.data }, { on := 31, ground := Go.Ground.chain }, { on := 25, ground := Go.Ground.guard }], guard := some (25, false) }) rfl (fun K hK => ?_) AllReadyH.nil
      rw [if_neg (by intro h; cases h)]
      refine hK.out _ _ hS6 (fun hS7 => ?_)
      clear hK K hS6
      try simp only [Act.put, List.setIfInBounds_toArray, List.set_cons_zero, List.set_cons_succ]
      refine wpAnyH_take (i := 33) (oi := { dst := some 86, op := Go.Op.pick (Go.Operand.tmp 78) (Go.Operand.const (Go.Value.bool true)) (Go.Operand.tmp 85), type := 4, pos := "law.go:60", after := #[{ on := 25, ground := Go.Ground.data }, { on := 32, ground := Go.Ground.data }, { on := 21, ground := Go.Ground.guard }], guard := some (21, true) }) (v := ?_) rfl (by kernel_rfl) (by kernel_rfl) (by kernel_rfl) (fun _ _ _ h => h) (Or.inl ⟨by rfl, ?_⟩) hS7 ?_; rotate_left; (· (intro wq hSw; obtain ⟨⟨y0, y1, y2⟩, y3, y4, y5⟩ := hSw; go_simp; try with_reducible rfl))
      try simp only [Act.put, List.setIfInBounds_toArray, List.set_cons_zero, List.set_cons_succ]
      refine wpAnyH_take (i := 34) (oi := { dst := some 87, op := Go.Op.pick (Go.Operand.tmp 74) (Go.Operand.tmp 86) (Go.Operand.const (Go.Value.bool false)), type := 4, pos := "law.go:60", after := #[{ on := 21, ground := Go.Ground.data }, { on := 33, ground := Go.Ground.data }], guard := none }) (v := ?_) rfl (by kernel_rfl) (by kernel_rfl) (by kernel_rfl) (fun _ _ _ h => h) (Or.inl ⟨by rfl, ?_⟩) hS7 ?_; rotate_left; (· (intro wq hSw; obtain ⟨⟨y0, y1, y2⟩, y3, y4, y5⟩ := hSw; go_simp; try with_reducible rfl))
      try simp only [Act.put, List.setIfInBounds_toArray, List.set_cons_zero, List.set_cons_succ]
      refine wpAnyH_take (i := 35) (oi := { dst := some 8, op := Go.Op.assign (Go.Operand.tmp 87), type := 4, pos := "law.go:60", after := #[{ on := 34, ground := Go.Ground.data }, { on := 32, ground := Go.Ground.chain }, { on := 0, ground := Go.Ground.phase }, { on := 1, ground := Go.Ground.phase }, { on := 2, ground := Go.Ground.phase }, { on := 3, ground := Go.Ground.phase }, { on := 4, ground := Go.Ground.phase }, { on := 5, ground := Go.Ground.phase }, { on := 6, ground := Go.Ground.phase }, { on := 7, ground := Go.Ground.phase }, { on := 8, ground := Go.Ground.phase }, { on := 9, ground := Go.Ground.phase }, { on := 10, ground := Go.Ground.phase }, { on := 11, ground := Go.Ground.phase }, { on := 12, ground := Go.Ground.phase }, { on := 13, ground := Go.Ground.phase }, { on := 14, ground := Go.Ground.phase }, { on := 15, ground := Go.Ground.phase }, { on := 16, ground := Go.Ground.phase }, { on := 17, ground := Go.Ground.phase }, { on := 18, ground := Go.Ground.phase }, { on := 19, ground := Go.Ground.phase }, { on := 20, ground := Go.Ground.phase }, { on := 21, ground := Go.Ground.phase }, { on := 22, ground := Go.Ground.phase }, { on := 23, ground := Go.Ground.phase }, { on := 24, ground := Go.Ground.phase }, { on := 25, ground := Go.Ground.phase }, { on := 26, ground := Go.Ground.phase }, { on := 27, ground := Go.Ground.phase }, { on := 28, ground := Go.Ground.phase }, { on := 29, ground := Go.Ground.phase }, { on := 30, ground := Go.Ground.phase }, { on := 31, ground := Go.Ground.phase }, { on := 32, ground := Go.Ground.phase }, { on := 33, ground := Go.Ground.phase }, { on := 34, ground := Go.Ground.phase }], guard := none }) (v := ?_) rfl (by kernel_rfl) (by kernel_rfl) (by kernel_rfl) (fun _ _ _ h => h) (Or.inl ⟨by rfl, ?_⟩) hS7 ?_; rotate_left; (· (intro wq hSw; obtain ⟨⟨y0, y1, y2⟩, y3, y4, y5⟩ := hSw; go_simp; try with_reducible rfl))
      try simp only [Act.put, List.setIfInBounds_toArray, List.set_cons_zero, List.set_cons_succ]
      refine wpAnyH_done (by kernel_rfl) ?_ _
      clear hS7
      go_wp2
      go_ret
      exact ⟨rfl, S4.out.D.below⟩
    · have hs : a.same b = false := by
        cases e : a.same b
        · rfl
        · exact absurd ((Lab.same_iff a b).1 e) hab
      rw [hs] at heq
      clear hs
      go_wp2
      go_region_held3 (fun w' => (w'.cell? ⟨w.heap.size, 0, none⟩ = some (.int .i64 a.l) ∧ w'.cell? ⟨w.heap.size, 1, none⟩ = some (.int .u64 a.c) ∧ w'.cell? ⟨w.heap.size, 2, none⟩ = some (.int .i64 a.i)) ∧ w'.cell? ⟨w.heap.size + 1, 0, none⟩ = some (.int .i64 b.l) ∧ w'.cell? ⟨w.heap.size + 1, 1, none⟩ = some (.int .u64 b.c) ∧ w'.cell? ⟨w.heap.size + 1, 2, none⟩ = some (.int .i64 b.i))
        (first | (with_reducible exact ⟨⟨x00, x01, x02⟩, x03, x04, x05⟩) | (with_reducible exact ⟨⟨x10, x11, x12⟩, x13, x14, x15⟩) | (with_reducible exact ⟨⟨x20, x21, x22⟩, x23, x24, x25⟩) | (with_reducible exact ⟨⟨x30, x31, x32⟩, x33, x34, x35⟩) | (with_reducible exact ⟨⟨x40, x41, x42⟩, x43, x44, x45⟩) | (with_reducible exact ⟨⟨x50, x51, x52⟩, x53, x54, x55⟩) | (with_reducible exact ⟨⟨x60, x61, x62⟩, x63, x64, x65⟩) | (with_reducible exact ⟨⟨x70, x71, x72⟩, x73, x74, x75⟩))
        (first
          | (go_at_call 22; ((with_reducible refine H0.out.mono ?_); rintro e wx ⟨rfl, hb1⟩; have S1 := Lib.hid (S0.out.more hb1); obtain ⟨x10, x11, x12⟩ := S1.out.A; obtain ⟨x13, x14, x15⟩ := S1.out.B; have H1 := Lib.hid (GRight_w TT.out.2.1 S1.out.X S1.out.D)))
          | (go_at_call 12; ((with_reducible refine H1.out.mono ?_); rintro e wx ⟨rfl, hb2⟩; have S2 := Lib.hid (S1.out.more hb2); obtain ⟨x20, x21, x22⟩ := S2.out.A; obtain ⟨x23, x24, x25⟩ := S2.out.B; have H2 := Lib.hid (GGet_w HA.out.1 TT.out.2.2.1 HK.out.2 S2.out.X S2.out.D)))
          | (go_at_call 15; ((with_reducible refine H2.out.mono ?_); rintro e wx ⟨vG, aG, cG, rfl, hG, _, hb3⟩; have S3 := Lib.hid (S2.out.more hb3); obtain ⟨x30, x31, x32⟩ := S3.out.A; obtain ⟨x33, x34, x35⟩ := S3.out.B; have H3 := Lib.hid (RSame_w (sameL_self m) hG S3.out.M)))
          | (go_at_call 14; ((with_reducible refine H3.out.mono ?_); rintro e wx ⟨rfl, hb4⟩; have S4 := Lib.hid (S3.out.more hb4); obtain ⟨x40, x41, x42⟩ := S4.out.A; obtain ⟨x43, x44, x45⟩ := S4.out.B; have H4 := Lib.hid (GGet_w HA.out.2 G.out.1 G.out.2.1 S4.out.X S4.out.D); have H5 := Lib.hid (GGet_w HA.out.2 G.out.2.2.1 G.out.2.2.2 S4.out.L S4.out.D)))
          | (go_at_call 15; ((with_reducible refine H4.out.mono ?_); rintro e wx ⟨vP, aP, cP, rfl, hP, _, hb5⟩; have S5 := Lib.hid (S4.out.more hb5); obtain ⟨x50, x51, x52⟩ := S5.out.A; obtain ⟨x53, x54, x55⟩ := S5.out.B; have H6 := Lib.hid (GGet_w HA.out.2 G.out.2.2.1 G.out.2.2.2 S5.out.L S5.out.D)))
          | (go_at_call 15; ((with_reducible refine H6.out.mono ?_); rintro e wx ⟨vQ, aQ, cQ, rfl, hQ, _, hb6⟩; have S6 := Lib.hid (S5.out.more hb6); obtain ⟨x60, x61, x62⟩ := S6.out.A; obtain ⟨x63, x64, x65⟩ := S6.out.B; have H8 := Lib.hid (RSame_w (TT.out.2.2.2 hab) (hP.more hb6) hQ)))
          | (go_at_call 15; ((with_reducible refine H5.out.mono ?_); rintro e wx ⟨vQ, aQ, cQ, rfl, hQ, _, hb5⟩; have S5 := Lib.hid (S4.out.more hb5); obtain ⟨x50, x51, x52⟩ := S5.out.A; obtain ⟨x53, x54, x55⟩ := S5.out.B; have H7 := Lib.hid (GGet_w HA.out.2 G.out.1 G.out.2.1 S5.out.X S5.out.D)))
          | (go_at_call 15; ((with_reducible refine H7.out.mono ?_); rintro e wx ⟨vP, aP, cP, rfl, hP, _, hb6⟩; have S6 := Lib.hid (S5.out.more hb6); obtain ⟨x60, x61, x62⟩ := S6.out.A; obtain ⟨x63, x64, x65⟩ := S6.out.B; have H8 := Lib.hid (RSame_w (TT.out.2.2.2 hab) hP (hQ.more hb6))))
          | (go_at_call 14; ((with_reducible refine H8.out.mono ?_); rintro e wx ⟨rfl, hb7⟩; have S7 := Lib.hid (S6.out.more hb7); obtain ⟨x70, x71, x72⟩ := S7.out.A; obtain ⟨x73, x74, x75⟩ := S7.out.B)))
      all_goals
        go_wp2
        go_ret
        exact ⟨rfl, S7.out.D.below⟩
  · obtain ⟨rfl, h | h⟩ := T1.out he
    · subst h
      go_wp2
      go_ret
      exact ⟨rfl, D.out.below⟩
    · subst h
      go_wp2
      go_ret
      exact ⟨rfl, D.out.below⟩

end Go.Proofs.YtlafcplcjpcikaaGreatDoor
