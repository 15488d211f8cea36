/- The document's Set of parts. -/
import Derived.Test.YtlafcplcjpcikaaGreatDoorWdF
import Derived.Test.YtlafcplcjpcikaaGreatDoorWdA
namespace Go.Proofs.YtlafcplcjpcikaaGreatDoor
open Go.RowKit Go.Proofs.Fld Go.Proofs.Rng Go.Proofs.Spc Go.Proofs.Cats Go.Proofs.Wld Go.Shelf Go.Sort

theorem small_putD {l : List Pt} (h : SmallW l) (hn : l.length ≤ 9) {a : Lab} {lo : List Ob} (ho : Small lo) : SmallW (putW l a lo) := ⟨Nat.le_trans (put_length l a lo) (by omega), fun x hx => by
  rcases put_mem x hx with q | rfl
  · exact h.b x q
  · exact ho⟩
section
variable {w : World} {ao bo : Option Addr} {k0 cap k1 cap1 : Nat} {zs : List Pv} {os : List Ov} {l : List Pt} {lo : List Ob} {c : Int}
set_option maxRecDepth 100000 in
set_option maxHeartbeats 8000000 in
theorem RWSet_w {a : Lab} {y : List Pt} {kr : Nat} (hn : l.length ≤ 9) (hf : a.fits) (hr : setW l a lo = (c, y)) (hkr : y.length = kr) (hL : SP w ao k0 cap zs l) (hO : SO w bo k1 cap1 os lo) : Calls Tryz.prog 25 #[.slice ao k0 cap, .agg #[.int .i64 a.l, .int .u64 a.c, .int .i64 a.i], .slice bo k1 cap1] w (ResW c y kr w) := by
  obtain ⟨i0, hin, hz0, hz1, hz2⟩ := info_parts infoP
  have hke := hL.len
  have hk10 := hL.le
  have hoe : os.length = k1 := hO.o.hlen
  subst hoe
  have hBn := Below.new w (.cells #[.int .i64 a.l, .int .u64 a.c, .int .i64 a.i] 25)
  have c0 : (w.alloc (.cells #[.int .i64 a.l, .int .u64 a.c, .int .i64 a.i] 25)).cell? ⟨w.heap.size, 0, none⟩ = some (.int .i64 a.l) := by simp
  have c1 : (w.alloc (.cells #[.int .i64 a.l, .int .u64 a.c, .int .i64 a.i] 25)).cell? ⟨w.heap.size, 1, none⟩ = some (.int .u64 a.c) := by simp
  have c2 : (w.alloc (.cells #[.int .i64 a.l, .int .u64 a.c, .int .i64 a.i] 25)).cell? ⟨w.heap.size, 2, none⟩ = some (.int .i64 a.i) := by simp
  obtain ⟨W0, hW0⟩ : ∃ W0, w.alloc (.cells #[.int .i64 a.l, .int .u64 a.c, .int .i64 a.i] 25) = W0 := ⟨_, rfl⟩
  have hL1 := hL.more hBn
  have hO1 := hO.more hBn
  rw [hW0] at hBn c0 c1 c2 hL1 hO1
  have L := Lib.hid hL1
  have O := Lib.hid hO1
  have HH := Lib.hid (And.intro hkr (And.intro hke (And.intro hn hf)))
  have B := Lib.hid hBn
  have HC := Lib.hid (And.intro c0 (And.intro c1 c2))
  clear hL hL1 hO hO1 hkr hke hBn hn hf
  cases h1 : rightW l with
  | false =>
    rw [setW_1 h1] at hr
    obtain ⟨rfl, rfl⟩ := Prod.mk.inj hr
    obtain rfl : kr = 0 := HH.out.1.symm
    have HR := Lib.hid h1
    clear h1 hr c0 c1 c2
    go_enter Tryz.func25, Tryz.ntmps25
    go_wp2_with (go_at_call 13; refine (RWRight_w HR.out L.out).mono ?_)
    rintro e w1 ⟨rfl, hb⟩
    replace B := Lib.hid (below_more B.out hb)
    clear hb
    go_wp2
    refine bodyPost_ret (results_tmp2 rfl _ _ _) rfl ?_
    exact ⟨[], none, 0, rfl, SP.nil _, B.out⟩
  | true =>
    cases h2 : rightB lo with
    | false =>
      rw [setW_2 h2] at hr
      obtain ⟨rfl, rfl⟩ := Prod.mk.inj hr
      obtain rfl : kr = 0 := HH.out.1.symm
      have HR := Lib.hid (And.intro h1 h2)
      clear h1 h2 hr c0 c1 c2
      go_enter Tryz.func25, Tryz.ntmps25
      go_wp2_with (go_at_call 13; refine (RWRight_w HR.out.1 L.out).mono ?_)
      rintro e w1 ⟨rfl, hb⟩
      replace B := Lib.hid (below_more B.out hb)
      replace O := Lib.hid (O.out.more hb)
      clear hb
      go_wp2_with (go_at_call 33; refine (RRight_w HR.out.2 O.out).mono ?_)
      rintro e w2 ⟨rfl, hb⟩
      replace B := Lib.hid (below_more B.out hb)
      clear hb
      go_wp2
      refine bodyPost_ret (results_tmp2 rfl _ _ _) rfl ?_
      exact ⟨[], none, 0, rfl, SP.nil _, B.out⟩
    | true =>
      cases h3 : a.right with
      | false =>
        rw [setW_3 h1 h2 h3] at hr
        obtain ⟨rfl, rfl⟩ := Prod.mk.inj hr
        obtain rfl : kr = 0 := HH.out.1.symm
        have HR := Lib.hid (And.intro h1 (And.intro h2 h3))
        clear h1 h2 h3 hr c0 c1 c2
        go_enter Tryz.func25, Tryz.ntmps25
        go_wp2_with (go_at_call 13; refine (RWRight_w HR.out.1 L.out).mono ?_)
        rintro e w1 ⟨rfl, hb⟩
        replace B := Lib.hid (below_more B.out hb)
        replace O := Lib.hid (O.out.more hb)
        replace HC := Lib.hid (And.intro (cell_later hb HC.out.1) (And.intro (cell_later hb HC.out.2.1) (cell_later hb HC.out.2.2)))
        clear hb
        go_wp2_with (go_at_call 33; refine (RRight_w HR.out.2.1 O.out).mono ?_)
        rintro e w2 ⟨rfl, hb⟩
        replace B := Lib.hid (below_more B.out hb)
        have c0 := cell_later hb HC.out.1
        have c1 := cell_later hb HC.out.2.1
        have c2 := cell_later hb HC.out.2.2
        clear hb
        go_wp2_with (go_at_call 32; refine (Lb.refRight_any a _).mono ?_)
        rintro e w3 ⟨he, hb⟩
        rw [HR.out.2.2] at he
        subst he
        replace B := Lib.hid (below_more B.out hb)
        clear hb c0 c1 c2
        go_wp2
        refine bodyPost_ret (results_tmp2 rfl _ _ _) rfl ?_
        exact ⟨[], none, 0, rfl, SP.nil _, B.out⟩
      | true =>
        rw [set_ok h1 h2 h3] at hr
        obtain ⟨rfl, hr2⟩ := Prod.mk.inj hr
        have hgo := (setGo_put (a := a) (l := lo) h1).trans hr2
        have HSM := Lib.hid (show SmallW y from hr2 ▸ small_putD L.out.s HH.out.2.2.1 O.out.s)
        have HR := Lib.hid (And.intro h1 (And.intro h2 h3))
        have hle : lo.length = os.length := by rw [← O.out.e]; exact obs_length _
        obtain ⟨d0, hd0⟩ : ∃ d0, lo.isEmpty = d0 := ⟨_, rfl⟩
        rw [hd0] at hgo
        have hde : ((os.length : Int) == 0) = d0 := by
          rw [← hd0, ← hle]
          cases lo with
          | nil => rfl
          | cons o r => simp only [List.length_cons, List.isEmpty_cons, beq_eq_false_iff_ne]; omega
        have HGO := Lib.hid hgo
        clear h1 h2 h3 hr hr2 c0 c1 c2 hle hd0 hgo
        go_enter Tryz.func25, Tryz.ntmps25
        go_wp2_with (go_at_call 13; refine (RWRight_w HR.out.1 L.out).mono ?_)
        rintro e w1 ⟨rfl, hb⟩
        replace B := Lib.hid (below_more B.out hb)
        replace O := Lib.hid (O.out.more hb)
        replace L := Lib.hid (L.out.more hb)
        replace HC := Lib.hid (And.intro (cell_later hb HC.out.1) (And.intro (cell_later hb HC.out.2.1) (cell_later hb HC.out.2.2)))
        clear hb
        go_wp2_with (go_at_call 33; refine (RRight_w HR.out.2.1 O.out).mono ?_)
        rintro e w2 ⟨rfl, hb⟩
        replace B := Lib.hid (below_more B.out hb)
        replace O := Lib.hid (O.out.more hb)
        replace L := Lib.hid (L.out.more hb)
        replace HC := Lib.hid (And.intro (cell_later hb HC.out.1) (And.intro (cell_later hb HC.out.2.1) (cell_later hb HC.out.2.2)))
        obtain ⟨c0, c1, c2⟩ := HC.out
        clear hb
        go_wp2_with (go_at_call 32; refine (Lb.refRight_any a _).mono ?_)
        rintro e W1 ⟨he, hb⟩
        rw [HR.out.2.2] at he
        subst he
        replace B := Lib.hid (below_more B.out hb)
        replace O := Lib.hid (O.out.more hb)
        replace L := Lib.hid (L.out.more hb)
        replace HC := Lib.hid (And.intro (cell_later hb HC.out.1) (And.intro (cell_later hb HC.out.2.1) (cell_later hb HC.out.2.2)))
        obtain ⟨ye, hye⟩ : ∃ ye : Pv, ye = ⟨a, os, bo, cap1⟩ := ⟨_, rfl⟩
        have HYE := Lib.hid (show Pl W1 ⟨a, os, bo, cap1⟩ from ⟨O.out.o, HH.out.2.2.2⟩)
        have HYP := Lib.hid (show pt ⟨a, os, bo, cap1⟩ = ⟨a, lo⟩ by show Pt.mk _ _ = _; rw [O.out.e])
        clear hb c0 c1 c2 hye ye
        go_wp2
        go_loopw [8, 9, 10] (fun v dv u wr => ∃ (k m : Nat) (d : Bool) (va : Option Addr) (vc : Nat) (vs : List Pv) (lk : List Pt), k ≤ k0 ∧ m ≤ k + k ∧ u = .int .i64 k ∧ dv = .bool d ∧ v = .slice va m vc ∧ Hid (RowP W1 wr va m vc vs lk) ∧ Hid (lk ++ setGo a lo d (l.drop k) = y) ∧ Hid (Below W1.heap.size W1 wr)) (fun _ _ u _ => k0 - (intOf u).toNat)
        case atStart => exact ⟨0, 0, d0, none, 0, [], [], Nat.zero_le _, Nat.le_refl _, rfl, rfl, rfl, RowP.nil _ _, HGO.out, Below.refl _ _⟩
        case round =>
          obtain ⟨k, m, d, va, vc, vs, lk, hk, hmk, rfl, rfl, rfl, HRW, HQ, HB⟩ := hrel
          by_cases hlt : k < k0
          · obtain ⟨z, hz⟩ : ∃ z, l[k]? = some z := ⟨_, List.getElem?_eq_getElem (by rw [HH.out.2.1]; exact hlt)⟩
            obtain ⟨bb, off, x, rfl, hx, hpl, hpa, hso⟩ := L.out.cell hz
            obtain ⟨q0, q1, q2, q3⟩ := hpa.more HB.out
            have hd1 : decide ((k : Int) < (k0 : Int)) = true := decide_eq_true (by omega)
            have i1 : (0 : Int) ≤ (k : Int) := by omega
            have i2 : (k : Int) < (k0 : Int) := by omega
            have hza : z.a = x.a := by rw [← hx]; rfl
            have HZ := Lib.hid (And.intro hx (And.intro hpl hza))
            have hstep := setGo_step (a := a) (l := lo) (d := d) hz
            rw [hza] at hstep
            have HST := Lib.hid hstep
            have hd : Below wr.heap.size wr wr.drew := (Below.refl _ _).drew
            have HD := Lib.hid hd
            have dq0 := cell_later hd q0
            have dq1 := cell_later hd q1
            have dq2 := cell_later hd q2
            have HPA := Lib.hid hpa
            have dc0 := cell_later hd (cell_later HB.out HC.out.1)
            have dc1 := cell_later hd (cell_later HB.out HC.out.2.1)
            have dc2 := cell_later hd (cell_later HB.out HC.out.2.2)
            have hnq := Lb.neqL x.a a
            obtain ⟨cv, hcv⟩ : ∃ cv, a.cmp x.a = cv := ⟨_, rfl⟩
            have HCV := Lib.hid (And.intro hcv (show leL a x.a = decide (cv ≤ 0) by rw [← hcv]; rfl))
            clear hx hpl hpa hso hza hstep hz hd q0 q1 q2 q3 hcv
            cases d with
            | true =>
              go_wp2
              refine wp_region_held_drew (S := (fun w' => w'.cell? ⟨bb, off + k * 4, none⟩ = some (.int .i64 x.a.l) ∧ w'.cell? ⟨bb, off + k * 4 + 1, none⟩ = some (.int .u64 x.a.c) ∧ w'.cell? ⟨bb, off + k * 4 + 2, none⟩ = some (.int .i64 x.a.i) ∧ w'.cell? ⟨w.heap.size, 0, none⟩ = some (.int .i64 a.l) ∧ w'.cell? ⟨w.heap.size, 1, none⟩ = some (.int .u64 a.c) ∧ w'.cell? ⟨w.heap.size, 2, none⟩ = some (.int .i64 a.i))) (by kernel_rfl) (⟨dq0, dq1, dq2, dc0, dc1, dc2⟩) (fun hS0 => ?_)
              refine wpAnyH_take (i := 0) (oi := { dst := some 31, op := Go.Op.move (Go.Operand.tmp 9), type := 4, pos := "ref.go:54", after := #[], guard := none }) (v := ?_) rfl (by kernel_rfl) (by kernel_rfl) (by kernel_rfl) (fun _ _ _ h => h) (Or.inl ⟨by rfl, ?_⟩) hS0 ?_; rotate_left; (· (intro wq hSw; obtain ⟨y0, y1, y2, y3, y4, y5⟩ := hSw; go_simp; try with_reducible rfl))
              try simp only [Act.put, List.setIfInBounds_toArray, List.set_cons_zero, List.set_cons_succ]
              refine wpAnyH_take (i := 1) (oi := { dst := some 32, op := Go.Op.unOp Go.UnOp.not 4 (Go.Operand.tmp 31), type := 4, pos := "ref.go:54", after := #[{ on := 0, ground := Go.Ground.data }], guard := none }) (v := ?_) rfl (by kernel_rfl) (by kernel_rfl) (by kernel_rfl) (fun _ _ _ h => h) (Or.inl ⟨by rfl, ?_⟩) hS0 ?_; rotate_left; (· (intro wq hSw; obtain ⟨y0, y1, y2, y3, y4, y5⟩ := hSw; go_simp; try with_reducible rfl))
              try simp only [Act.put, List.setIfInBounds_toArray, List.set_cons_zero, List.set_cons_succ]
              refine wpAnyH_take (i := 2) (oi := { dst := some 33, op := Go.Op.move (Go.Operand.tmp 32), type := 4, pos := "ref.go:54", after := #[{ on := 1, ground := Go.Ground.data }], guard := none }) (v := ?_) rfl (by kernel_rfl) (by kernel_rfl) (by kernel_rfl) (fun _ _ _ h => h) (Or.inl ⟨by rfl, ?_⟩) hS0 ?_; rotate_left; (· (intro wq hSw; obtain ⟨y0, y1, y2, y3, y4, y5⟩ := hSw; go_simp; try with_reducible rfl))
              try simp only [Act.put, List.setIfInBounds_toArray, List.set_cons_zero, List.set_cons_succ]
              refine wpAnyH_take (i := 3) (oi := { dst := some 34, op := Go.Op.load 25 (Go.Operand.tmp 4), type := 25, pos := "ref.go:54", after := #[{ on := 2, ground := Go.Ground.guard }], guard := some (2, true) }) (v := undef) rfl (by kernel_rfl) (by kernel_rfl) (by kernel_rfl) (fun _ _ _ h => h) (Or.inr ⟨by rfl, rfl⟩) hS0 ?_
              try simp only [Act.put, List.setIfInBounds_toArray, List.set_cons_zero, List.set_cons_succ]
              refine wpAnyH_take (i := 4) (oi := { dst := some 35, op := Go.Op.move (Go.Operand.tmp 0), type := 22, pos := "ref.go:54", after := #[{ on := 2, ground := Go.Ground.guard }], guard := some (2, true) }) (v := undef) rfl (by kernel_rfl) (by kernel_rfl) (by kernel_rfl) (fun _ _ _ h => h) (Or.inr ⟨by rfl, rfl⟩) hS0 ?_
              try simp only [Act.put, List.setIfInBounds_toArray, List.set_cons_zero, List.set_cons_succ]
              refine wpAnyH_take (i := 5) (oi := { dst := some 36, op := Go.Op.move (Go.Operand.tmp 10), type := 3, pos := "ref.go:54", after := #[{ on := 2, ground := Go.Ground.guard }], guard := some (2, true) }) (v := undef) rfl (by kernel_rfl) (by kernel_rfl) (by kernel_rfl) (fun _ _ _ h => h) (Or.inr ⟨by rfl, rfl⟩) hS0 ?_
              try simp only [Act.put, List.setIfInBounds_toArray, List.set_cons_zero, List.set_cons_succ]
              refine wpAnyH_take (i := 6) (oi := { dst := some 37, op := Go.Op.indexAddr 22 (Go.Operand.tmp 35) (Go.Operand.tmp 36), type := 0, pos := "ref.go:54", after := #[{ on := 4, ground := Go.Ground.data }, { on := 5, ground := Go.Ground.data }, { on := 2, ground := Go.Ground.guard }], guard := some (2, true) }) (v := undef) rfl (by kernel_rfl) (by kernel_rfl) (by kernel_rfl) (fun _ _ _ h => h) (Or.inr ⟨by rfl, rfl⟩) hS0 ?_
              try simp only [Act.put, List.setIfInBounds_toArray, List.set_cons_zero, List.set_cons_succ]
              refine wpAnyH_take (i := 7) (oi := { dst := some 38, op := Go.Op.fieldAddr 44 (Go.Operand.tmp 37) 0, type := 0, pos := "ref.go:54", after := #[{ on := 6, ground := Go.Ground.data }, { on := 2, ground := Go.Ground.guard }], guard := some (2, true) }) (v := undef) rfl (by kernel_rfl) (by kernel_rfl) (by kernel_rfl) (fun _ _ _ h => h) (Or.inr ⟨by rfl, rfl⟩) hS0 ?_
              try simp only [Act.put, List.setIfInBounds_toArray, List.set_cons_zero, List.set_cons_succ]
              refine wpAnyH_take (i := 8) (oi := { dst := some 39, op := Go.Op.load 25 (Go.Operand.tmp 38), type := 25, pos := "ref.go:54", after := #[{ on := 7, ground := Go.Ground.data }, { on := 2, ground := Go.Ground.guard }], guard := some (2, true) }) (v := undef) rfl (by kernel_rfl) (by kernel_rfl) (by kernel_rfl) (fun _ _ _ h => h) (Or.inr ⟨by rfl, rfl⟩) hS0 ?_
              try simp only [Act.put, List.setIfInBounds_toArray, List.set_cons_zero, List.set_cons_succ]
              refine wpAnyH_ready (rs := [9]) (by kernel_rfl) (by simp) ?_
              refine AllReadyH.cons (o := { dst := some 40, op := Go.Op.call { callee := Go.Callee.value (Go.Operand.func 34), args := #[Go.Operand.tmp 34, Go.Operand.tmp 39], argTypes := #[25, 25] }, type := 3, pos := "ref.go:54", after := #[{ on := 3, ground := Go.Ground.data }, { on := 8, ground := Go.Ground.data }, { on := 2, ground := Go.Ground.chain }, { on := 2, ground := Go.Ground.guard }], guard := some (2, true) }) rfl (fun K hK => ?_) AllReadyH.nil
              rw [if_neg (by intro h; cases h)]
              refine hK.out _ _ hS0 (fun hS1 => ?_)
              clear hK K hS0
              try simp only [Act.put, List.setIfInBounds_toArray, List.set_cons_zero, List.set_cons_succ]
              refine wpAnyH_take (i := 10) (oi := { dst := some 41, op := Go.Op.binOp Go.BinOp.leq 3 (Go.Operand.tmp 40) (Go.Operand.const (Go.Value.int Go.IntKind.i64 0)) 3, type := 4, pos := "ref.go:54", after := #[{ on := 9, ground := Go.Ground.data }, { on := 2, ground := Go.Ground.guard }], guard := some (2, true) }) (v := undef) rfl (by kernel_rfl) (by kernel_rfl) (by kernel_rfl) (fun _ _ _ h => h) (Or.inr ⟨by rfl, rfl⟩) hS1 ?_
              try simp only [Act.put, List.setIfInBounds_toArray, List.set_cons_zero, List.set_cons_succ]
              refine wpAnyH_take (i := 11) (oi := { dst := some 42, op := Go.Op.pick (Go.Operand.tmp 33) (Go.Operand.tmp 41) (Go.Operand.const (Go.Value.bool false)), type := 4, pos := "ref.go:54", after := #[{ on := 2, ground := Go.Ground.data }, { on := 10, ground := Go.Ground.data }], guard := none }) (v := ?_) rfl (by kernel_rfl) (by kernel_rfl) (by kernel_rfl) (fun _ _ _ h => h) (Or.inl ⟨by rfl, ?_⟩) hS1 ?_; rotate_left; (· (intro wq hSw; obtain ⟨y0, y1, y2, y3, y4, y5⟩ := hSw; go_simp; try with_reducible rfl))
              try simp only [Act.put, List.setIfInBounds_toArray, List.set_cons_zero, List.set_cons_succ]
              refine wpAnyH_done (by kernel_rfl) ?_ _
              clear hS1
              have HBW := Lib.hid (HB.out.trans (HD.out.mono HB.out.size))
              have R1 := Lib.hid (HRW.out.more HD.out)
              obtain ⟨q0, q1, q2, q3⟩ := HPA.out.more HBW.out
              have c0 := cell_later HBW.out HC.out.1
              have c1 := cell_later HBW.out HC.out.2.1
              have c2 := cell_later HBW.out HC.out.2.2
              cases hs : x.a.same a with
              | true =>
                have HN := Lib.hid (show lk ++ setGo a lo true (l.drop (k + 1)) = y by have h := HQ.out; rw [HST.out, hs] at h; simpa using h)
                go_wp2
                go_region_held3 (fun w' => w'.cell? ⟨bb, off + k * 4, none⟩ = some (.int .i64 x.a.l) ∧ w'.cell? ⟨bb, off + k * 4 + 1, none⟩ = some (.int .u64 x.a.c) ∧ w'.cell? ⟨bb, off + k * 4 + 2, none⟩ = some (.int .i64 x.a.i) ∧ w'.cell? ⟨w.heap.size, 0, none⟩ = some (.int .i64 a.l) ∧ w'.cell? ⟨w.heap.size, 1, none⟩ = some (.int .u64 a.c) ∧ w'.cell? ⟨w.heap.size, 2, none⟩ = some (.int .i64 a.i))
                  (first | (simp only [World.cell?_drew, q0, q1, q2, c0, c1, c2, and_self]; done)) (fail)
                clear hs hnq
                clear q0 q1 q2 q3 c0 c1 c2
                have HBW := Lib.hid (show Below W1.heap.size W1 wr.drew.drew from HBW.out.drew)
                have R9 := Lib.hid (R1.out.more (Below.refl _ wr.drew).drew)
                generalize wr.drew.drew = W9 at HBW R9 ⊢
                go_wp2
                go_roundw
                case rel => exact ⟨k + 1, m, true, va, vc, vs, lk, by omega, by omega, by simp, rfl, rfl, R9.out, HN.out, HBW.out⟩
                case measure => simp [intOf]; omega
              | false =>
                have HN := Lib.hid (show (lk ++ [pt x]) ++ setGo a lo true (l.drop (k + 1)) = y by have h := HQ.out; rw [HST.out, hs] at h; rw [HZ.out.1]; simpa using h)
                go_wp2
                go_region_held3 (fun w' => w'.cell? ⟨bb, off + k * 4, none⟩ = some (.int .i64 x.a.l) ∧ w'.cell? ⟨bb, off + k * 4 + 1, none⟩ = some (.int .u64 x.a.c) ∧ w'.cell? ⟨bb, off + k * 4 + 2, none⟩ = some (.int .i64 x.a.i) ∧ w'.cell? ⟨w.heap.size, 0, none⟩ = some (.int .i64 a.l) ∧ w'.cell? ⟨w.heap.size, 1, none⟩ = some (.int .u64 a.c) ∧ w'.cell? ⟨w.heap.size, 2, none⟩ = some (.int .i64 a.i))
                  (first | (simp only [World.cell?_drew, q0, q1, q2, c0, c1, c2, and_self]; done)) (fail)
                clear hs hnq
                clear q0 q1 q2 q3 c0 c1 c2
                have HBW := Lib.hid (show Below W1.heap.size W1 wr.drew.drew from HBW.out.drew)
                have R9 := Lib.hid (R1.out.more (Below.refl _ wr.drew).drew)
                generalize wr.drew.drew = W9 at HBW R9 ⊢
                have hsz := HBW.out.size
                obtain ⟨q0, q1, q2, q3⟩ := HPA.out.more HBW.out
                go_wp2_with (at_builtin; go_loud (refine wpList_append_own _ rfl _ _ 22 rfl W1.heap.size 44 i0 (.agg #[.int .i64 0, .int .u64 0, .int .i64 0, .slice none 0 0]) 4 48 Tryz.underlying22 hin hz0 hz1 hz2 rfl (by decide) (.slice va m vc) m (pcl vs) rfl (R9.out.row.alloc (.cells #[.int .i64 x.a.l, .int .u64 x.a.c, .int .i64 x.a.i, .slice x.va x.os.length x.vc] 44)) ⟨W9.heap.size, 0, none⟩ 1 1 (cells4 x) rfl rfl (pt_new W9 x 44) (by simp [cells4, Value.oneCell']) (by unfold maxLen; omega) (by omega) (by simp; omega) ?_; intro v' w9 hown' hgrow _; obtain ⟨g1, cap1, rfl⟩ := ownsRow_succ hown'; have HF1 := Lib.hid (And.intro hown' (app_below (HBW.out.alloc hsz (.cells #[.int .i64 x.a.l, .int .u64 x.a.c, .int .i64 x.a.i, .slice x.va x.os.length x.vc] 44)) (R9.out.row.alloc (.cells #[.int .i64 x.a.l, .int .u64 x.a.c, .int .i64 x.a.i, .slice x.va x.os.length x.vc] 44)) ⟨hown', hgrow⟩)); clear hown' hgrow))
                go_roundw
                case rel => exact ⟨k + 1, m + 1, true, some ⟨g1, 0, none⟩, cap1, vs ++ [x], lk ++ [pt x], by omega, by omega, by simp, rfl, rfl, R9.out.snoc HZ.out.2.1 HF1.out.1, HN.out, HF1.out.2⟩
                case measure => simp [intOf]; omega
            | false =>
              cases hle : leL a x.a with
              | false =>
                have hle2 : decide (cv ≤ 0) = false := by rw [← HCV.out.2]; exact hle
                have hs : x.a.same a = false := by
                  cases q : x.a.same a
                  · rfl
                  · exact absurd ((Lab.same_iff _ _).1 q) (leL_not hle)
                have HN0 := Lib.hid hle
                clear hle
                go_wp2
                refine wp_region_held_drew (S := (fun w' => w'.cell? ⟨bb, off + k * 4, none⟩ = some (.int .i64 x.a.l) ∧ w'.cell? ⟨bb, off + k * 4 + 1, none⟩ = some (.int .u64 x.a.c) ∧ w'.cell? ⟨bb, off + k * 4 + 2, none⟩ = some (.int .i64 x.a.i) ∧ w'.cell? ⟨w.heap.size, 0, none⟩ = some (.int .i64 a.l) ∧ w'.cell? ⟨w.heap.size, 1, none⟩ = some (.int .u64 a.c) ∧ w'.cell? ⟨w.heap.size, 2, none⟩ = some (.int .i64 a.i))) (by kernel_rfl) (⟨dq0, dq1, dq2, dc0, dc1, dc2⟩) (fun hS0 => ?_)
                refine wpAnyH_take (i := 0) (oi := { dst := some 31, op := Go.Op.move (Go.Operand.tmp 9), type := 4, pos := "ref.go:54", after := #[], guard := none }) (v := ?_) rfl (by kernel_rfl) (by kernel_rfl) (by kernel_rfl) (fun _ _ _ h => h) (Or.inl ⟨by rfl, ?_⟩) hS0 ?_; rotate_left; (· (intro wq hSw; obtain ⟨y0, y1, y2, y3, y4, y5⟩ := hSw; go_simp; try with_reducible rfl))
                try simp only [Act.put, List.setIfInBounds_toArray, List.set_cons_zero, List.set_cons_succ]
                refine wpAnyH_take (i := 1) (oi := { dst := some 32, op := Go.Op.unOp Go.UnOp.not 4 (Go.Operand.tmp 31), type := 4, pos := "ref.go:54", after := #[{ on := 0, ground := Go.Ground.data }], guard := none }) (v := ?_) rfl (by kernel_rfl) (by kernel_rfl) (by kernel_rfl) (fun _ _ _ h => h) (Or.inl ⟨by rfl, ?_⟩) hS0 ?_; rotate_left; (· (intro wq hSw; obtain ⟨y0, y1, y2, y3, y4, y5⟩ := hSw; go_simp; try with_reducible rfl))
                try simp only [Act.put, List.setIfInBounds_toArray, List.set_cons_zero, List.set_cons_succ]
                refine wpAnyH_take (i := 2) (oi := { dst := some 33, op := Go.Op.move (Go.Operand.tmp 32), type := 4, pos := "ref.go:54", after := #[{ on := 1, ground := Go.Ground.data }], guard := none }) (v := ?_) rfl (by kernel_rfl) (by kernel_rfl) (by kernel_rfl) (fun _ _ _ h => h) (Or.inl ⟨by rfl, ?_⟩) hS0 ?_; rotate_left; (· (intro wq hSw; obtain ⟨y0, y1, y2, y3, y4, y5⟩ := hSw; go_simp; try with_reducible rfl))
                try simp only [Act.put, List.setIfInBounds_toArray, List.set_cons_zero, List.set_cons_succ]
                refine wpAnyH_take (i := 3) (oi := { dst := some 34, op := Go.Op.load 25 (Go.Operand.tmp 4), type := 25, pos := "ref.go:54", after := #[{ on := 2, ground := Go.Ground.guard }], guard := some (2, true) }) (v := ?_) rfl (by kernel_rfl) (by kernel_rfl) (by kernel_rfl) (fun _ _ _ h => h) (Or.inl ⟨by rfl, ?_⟩) hS0 ?_; rotate_left; (· (intro wq hSw; obtain ⟨y0, y1, y2, y3, y4, y5⟩ := hSw; go_simp; try with_reducible rfl))
                try simp only [Act.put, List.setIfInBounds_toArray, List.set_cons_zero, List.set_cons_succ]
                refine wpAnyH_take (i := 4) (oi := { dst := some 35, op := Go.Op.move (Go.Operand.tmp 0), type := 22, pos := "ref.go:54", after := #[{ on := 2, ground := Go.Ground.guard }], guard := some (2, true) }) (v := ?_) rfl (by kernel_rfl) (by kernel_rfl) (by kernel_rfl) (fun _ _ _ h => h) (Or.inl ⟨by rfl, ?_⟩) hS0 ?_; rotate_left; (· (intro wq hSw; obtain ⟨y0, y1, y2, y3, y4, y5⟩ := hSw; go_simp; try with_reducible rfl))
                try simp only [Act.put, List.setIfInBounds_toArray, List.set_cons_zero, List.set_cons_succ]
                refine wpAnyH_take (i := 5) (oi := { dst := some 36, op := Go.Op.move (Go.Operand.tmp 10), type := 3, pos := "ref.go:54", after := #[{ on := 2, ground := Go.Ground.guard }], guard := some (2, true) }) (v := ?_) rfl (by kernel_rfl) (by kernel_rfl) (by kernel_rfl) (fun _ _ _ h => h) (Or.inl ⟨by rfl, ?_⟩) hS0 ?_; rotate_left; (· (intro wq hSw; obtain ⟨y0, y1, y2, y3, y4, y5⟩ := hSw; go_simp; try with_reducible rfl))
                try simp only [Act.put, List.setIfInBounds_toArray, List.set_cons_zero, List.set_cons_succ]
                refine wpAnyH_take (i := 6) (oi := { dst := some 37, op := Go.Op.indexAddr 22 (Go.Operand.tmp 35) (Go.Operand.tmp 36), type := 0, pos := "ref.go:54", after := #[{ on := 4, ground := Go.Ground.data }, { on := 5, ground := Go.Ground.data }, { on := 2, ground := Go.Ground.guard }], guard := some (2, true) }) (v := ?_) rfl (by kernel_rfl) (by kernel_rfl) (by kernel_rfl) (fun _ _ _ h => h) (Or.inl ⟨by rfl, ?_⟩) hS0 ?_; rotate_left; (· (intro wq hSw; obtain ⟨y0, y1, y2, y3, y4, y5⟩ := hSw; go_simp; try with_reducible rfl))
                try simp only [Act.put, List.setIfInBounds_toArray, List.set_cons_zero, List.set_cons_succ]
                refine wpAnyH_take (i := 7) (oi := { dst := some 38, op := Go.Op.fieldAddr 44 (Go.Operand.tmp 37) 0, type := 0, pos := "ref.go:54", after := #[{ on := 6, ground := Go.Ground.data }, { on := 2, ground := Go.Ground.guard }], guard := some (2, true) }) (v := ?_) rfl (by kernel_rfl) (by kernel_rfl) (by kernel_rfl) (fun _ _ _ h => h) (Or.inl ⟨by rfl, ?_⟩) hS0 ?_; rotate_left; (· (intro wq hSw; obtain ⟨y0, y1, y2, y3, y4, y5⟩ := hSw; go_simp; try with_reducible rfl))
                try simp only [Act.put, List.setIfInBounds_toArray, List.set_cons_zero, List.set_cons_succ]
                refine wpAnyH_take (i := 8) (oi := { dst := some 39, op := Go.Op.load 25 (Go.Operand.tmp 38), type := 25, pos := "ref.go:54", after := #[{ on := 7, ground := Go.Ground.data }, { on := 2, ground := Go.Ground.guard }], guard := some (2, true) }) (v := ?_) rfl (by kernel_rfl) (by kernel_rfl) (by kernel_rfl) (fun _ _ _ h => h) (Or.inl ⟨by rfl, ?_⟩) hS0 ?_; rotate_left; (· (intro wq hSw; obtain ⟨y0, y1, y2, y3, y4, y5⟩ := hSw; go_simp; try with_reducible rfl))
                try simp only [Act.put, List.setIfInBounds_toArray, List.set_cons_zero, List.set_cons_succ]
                refine wpAnyH_ready (rs := [9]) (by kernel_rfl) (by simp) ?_
                refine AllReadyH.cons (o := { dst := some 40, op := Go.Op.call { callee := Go.Callee.value (Go.Operand.func 34), args := #[Go.Operand.tmp 34, Go.Operand.tmp 39], argTypes := #[25, 25] }, type := 3, pos := "ref.go:54", after := #[{ on := 3, ground := Go.Ground.data }, { on := 8, ground := Go.Ground.data }, { on := 2, ground := Go.Ground.chain }, { on := 2, ground := Go.Ground.guard }], guard := some (2, true) }) rfl (fun K hK => ?_) AllReadyH.nil
                go_simp
                refine (Lb.refCompare_any a x.a _).mono ?_
                rintro e we ⟨he, hb3⟩
                rw [HCV.out.1] at he
                subst he
                replace HD := Lib.hid (below_more HD.out hb3)
                refine hK.out _ _ (⟨cell_later hb3 hS0.1, cell_later hb3 hS0.2.1, cell_later hb3 hS0.2.2.1, cell_later hb3 hS0.2.2.2.1, cell_later hb3 hS0.2.2.2.2.1, cell_later hb3 hS0.2.2.2.2.2⟩) (fun hS1 => ?_)
                clear hK K hS0 hb3
                try simp only [Act.put, List.setIfInBounds_toArray, List.set_cons_zero, List.set_cons_succ]
                refine wpAnyH_take (i := 10) (oi := { dst := some 41, op := Go.Op.binOp Go.BinOp.leq 3 (Go.Operand.tmp 40) (Go.Operand.const (Go.Value.int Go.IntKind.i64 0)) 3, type := 4, pos := "ref.go:54", after := #[{ on := 9, ground := Go.Ground.data }, { on := 2, ground := Go.Ground.guard }], guard := some (2, true) }) (v := ?_) rfl (by kernel_rfl) (by kernel_rfl) (by kernel_rfl) (fun _ _ _ h => h) (Or.inl ⟨by rfl, ?_⟩) hS1 ?_; rotate_left; (· (intro wq hSw; obtain ⟨y0, y1, y2, y3, y4, y5⟩ := hSw; go_simp; try with_reducible rfl))
                try simp only [Act.put, List.setIfInBounds_toArray, List.set_cons_zero, List.set_cons_succ]
                refine wpAnyH_take (i := 11) (oi := { dst := some 42, op := Go.Op.pick (Go.Operand.tmp 33) (Go.Operand.tmp 41) (Go.Operand.const (Go.Value.bool false)), type := 4, pos := "ref.go:54", after := #[{ on := 2, ground := Go.Ground.data }, { on := 10, ground := Go.Ground.data }], guard := none }) (v := ?_) rfl (by kernel_rfl) (by kernel_rfl) (by kernel_rfl) (fun _ _ _ h => h) (Or.inl ⟨by rfl, ?_⟩) hS1 ?_; rotate_left; (· (intro wq hSw; obtain ⟨y0, y1, y2, y3, y4, y5⟩ := hSw; go_simp; try with_reducible rfl))
                try simp only [Act.put, List.setIfInBounds_toArray, List.set_cons_zero, List.set_cons_succ]
                refine wpAnyH_done (by kernel_rfl) ?_ _
                clear hS1
                clear hle2
                have HBW := Lib.hid (HB.out.trans (HD.out.mono HB.out.size))
                have R1 := Lib.hid (HRW.out.more HD.out)
                obtain ⟨q0, q1, q2, q3⟩ := HPA.out.more HBW.out
                have c0 := cell_later HBW.out HC.out.1
                have c1 := cell_later HBW.out HC.out.2.1
                have c2 := cell_later HBW.out HC.out.2.2
                have HN := Lib.hid (show (lk ++ [pt x]) ++ setGo a lo false (l.drop (k + 1)) = y by have h := HQ.out; rw [HST.out, hs, HN0.out] at h; rw [HZ.out.1]; simpa using h)
                go_wp2
                go_region_held3 (fun w' => w'.cell? ⟨bb, off + k * 4, none⟩ = some (.int .i64 x.a.l) ∧ w'.cell? ⟨bb, off + k * 4 + 1, none⟩ = some (.int .u64 x.a.c) ∧ w'.cell? ⟨bb, off + k * 4 + 2, none⟩ = some (.int .i64 x.a.i) ∧ w'.cell? ⟨w.heap.size, 0, none⟩ = some (.int .i64 a.l) ∧ w'.cell? ⟨w.heap.size, 1, none⟩ = some (.int .u64 a.c) ∧ w'.cell? ⟨w.heap.size, 2, none⟩ = some (.int .i64 a.i))
                  (first | (simp only [World.cell?_drew, q0, q1, q2, c0, c1, c2, and_self]; done)) (fail)
                clear hs hnq
                clear q0 q1 q2 q3 c0 c1 c2
                have HBW := Lib.hid (show Below W1.heap.size W1 we.drew from HBW.out.drew)
                have R9 := Lib.hid (R1.out.more (Below.refl _ we).drew)
                generalize we.drew = W9 at HBW R9 ⊢
                have hsz := HBW.out.size
                obtain ⟨q0, q1, q2, q3⟩ := HPA.out.more HBW.out
                go_wp2_with (at_builtin; go_loud (refine wpList_append_own _ rfl _ _ 22 rfl W1.heap.size 44 i0 (.agg #[.int .i64 0, .int .u64 0, .int .i64 0, .slice none 0 0]) 4 48 Tryz.underlying22 hin hz0 hz1 hz2 rfl (by decide) (.slice va m vc) m (pcl vs) rfl (R9.out.row.alloc (.cells #[.int .i64 x.a.l, .int .u64 x.a.c, .int .i64 x.a.i, .slice x.va x.os.length x.vc] 44)) ⟨W9.heap.size, 0, none⟩ 1 1 (cells4 x) rfl rfl (pt_new W9 x 44) (by simp [cells4, Value.oneCell']) (by unfold maxLen; omega) (by omega) (by simp; omega) ?_; intro v' w9 hown' hgrow _; obtain ⟨g2, cap2, rfl⟩ := ownsRow_succ hown'; have HF2 := Lib.hid (And.intro hown' (app_below (HBW.out.alloc hsz (.cells #[.int .i64 x.a.l, .int .u64 x.a.c, .int .i64 x.a.i, .slice x.va x.os.length x.vc] 44)) (R9.out.row.alloc (.cells #[.int .i64 x.a.l, .int .u64 x.a.c, .int .i64 x.a.i, .slice x.va x.os.length x.vc] 44)) ⟨hown', hgrow⟩)); clear hown' hgrow))
                go_roundw
                case rel => exact ⟨k + 1, m + 1, false, some ⟨g2, 0, none⟩, cap2, vs ++ [x], lk ++ [pt x], by omega, by omega, by simp, rfl, rfl, R9.out.snoc HZ.out.2.1 HF2.out.1, HN.out, HF2.out.2⟩
                case measure => simp [intOf]; omega
              | true =>
                have hle2 : decide (cv ≤ 0) = true := by rw [← HCV.out.2]; exact hle
                have HN0 := Lib.hid hle
                clear hle
                go_wp2
                refine wp_region_held_drew (S := (fun w' => w'.cell? ⟨bb, off + k * 4, none⟩ = some (.int .i64 x.a.l) ∧ w'.cell? ⟨bb, off + k * 4 + 1, none⟩ = some (.int .u64 x.a.c) ∧ w'.cell? ⟨bb, off + k * 4 + 2, none⟩ = some (.int .i64 x.a.i) ∧ w'.cell? ⟨w.heap.size, 0, none⟩ = some (.int .i64 a.l) ∧ w'.cell? ⟨w.heap.size, 1, none⟩ = some (.int .u64 a.c) ∧ w'.cell? ⟨w.heap.size, 2, none⟩ = some (.int .i64 a.i))) (by kernel_rfl) (⟨dq0, dq1, dq2, dc0, dc1, dc2⟩) (fun hS0 => ?_)
                refine wpAnyH_take (i := 0) (oi := { dst := some 31, op := Go.Op.move (Go.Operand.tmp 9), type := 4, pos := "ref.go:54", after := #[], guard := none }) (v := ?_) rfl (by kernel_rfl) (by kernel_rfl) (by kernel_rfl) (fun _ _ _ h => h) (Or.inl ⟨by rfl, ?_⟩) hS0 ?_; rotate_left; (· (intro wq hSw; obtain ⟨y0, y1, y2, y3, y4, y5⟩ := hSw; go_simp; try with_reducible rfl))
                try simp only [Act.put, List.setIfInBounds_toArray, List.set_cons_zero, List.set_cons_succ]
                refine wpAnyH_take (i := 1) (oi := { dst := some 32, op := Go.Op.unOp Go.UnOp.not 4 (Go.Operand.tmp 31), type := 4, pos := "ref.go:54", after := #[{ on := 0, ground := Go.Ground.data }], guard := none }) (v := ?_) rfl (by kernel_rfl) (by kernel_rfl) (by kernel_rfl) (fun _ _ _ h => h) (Or.inl ⟨by rfl, ?_⟩) hS0 ?_; rotate_left; (· (intro wq hSw; obtain ⟨y0, y1, y2, y3, y4, y5⟩ := hSw; go_simp; try with_reducible rfl))
                try simp only [Act.put, List.setIfInBounds_toArray, List.set_cons_zero, List.set_cons_succ]
                refine wpAnyH_take (i := 2) (oi := { dst := some 33, op := Go.Op.move (Go.Operand.tmp 32), type := 4, pos := "ref.go:54", after := #[{ on := 1, ground := Go.Ground.data }], guard := none }) (v := ?_) rfl (by kernel_rfl) (by kernel_rfl) (by kernel_rfl) (fun _ _ _ h => h) (Or.inl ⟨by rfl, ?_⟩) hS0 ?_; rotate_left; (· (intro wq hSw; obtain ⟨y0, y1, y2, y3, y4, y5⟩ := hSw; go_simp; try with_reducible rfl))
                try simp only [Act.put, List.setIfInBounds_toArray, List.set_cons_zero, List.set_cons_succ]
                refine wpAnyH_take (i := 3) (oi := { dst := some 34, op := Go.Op.load 25 (Go.Operand.tmp 4), type := 25, pos := "ref.go:54", after := #[{ on := 2, ground := Go.Ground.guard }], guard := some (2, true) }) (v := ?_) rfl (by kernel_rfl) (by kernel_rfl) (by kernel_rfl) (fun _ _ _ h => h) (Or.inl ⟨by rfl, ?_⟩) hS0 ?_; rotate_left; (· (intro wq hSw; obtain ⟨y0, y1, y2, y3, y4, y5⟩ := hSw; go_simp; try with_reducible rfl))
                try simp only [Act.put, List.setIfInBounds_toArray, List.set_cons_zero, List.set_cons_succ]
                refine wpAnyH_take (i := 4) (oi := { dst := some 35, op := Go.Op.move (Go.Operand.tmp 0), type := 22, pos := "ref.go:54", after := #[{ on := 2, ground := Go.Ground.guard }], guard := some (2, true) }) (v := ?_) rfl (by kernel_rfl) (by kernel_rfl) (by kernel_rfl) (fun _ _ _ h => h) (Or.inl ⟨by rfl, ?_⟩) hS0 ?_; rotate_left; (· (intro wq hSw; obtain ⟨y0, y1, y2, y3, y4, y5⟩ := hSw; go_simp; try with_reducible rfl))
                try simp only [Act.put, List.setIfInBounds_toArray, List.set_cons_zero, List.set_cons_succ]
                refine wpAnyH_take (i := 5) (oi := { dst := some 36, op := Go.Op.move (Go.Operand.tmp 10), type := 3, pos := "ref.go:54", after := #[{ on := 2, ground := Go.Ground.guard }], guard := some (2, true) }) (v := ?_) rfl (by kernel_rfl) (by kernel_rfl) (by kernel_rfl) (fun _ _ _ h => h) (Or.inl ⟨by rfl, ?_⟩) hS0 ?_; rotate_left; (· (intro wq hSw; obtain ⟨y0, y1, y2, y3, y4, y5⟩ := hSw; go_simp; try with_reducible rfl))
                try simp only [Act.put, List.setIfInBounds_toArray, List.set_cons_zero, List.set_cons_succ]
                refine wpAnyH_take (i := 6) (oi := { dst := some 37, op := Go.Op.indexAddr 22 (Go.Operand.tmp 35) (Go.Operand.tmp 36), type := 0, pos := "ref.go:54", after := #[{ on := 4, ground := Go.Ground.data }, { on := 5, ground := Go.Ground.data }, { on := 2, ground := Go.Ground.guard }], guard := some (2, true) }) (v := ?_) rfl (by kernel_rfl) (by kernel_rfl) (by kernel_rfl) (fun _ _ _ h => h) (Or.inl ⟨by rfl, ?_⟩) hS0 ?_; rotate_left; (· (intro wq hSw; obtain ⟨y0, y1, y2, y3, y4, y5⟩ := hSw; go_simp; try with_reducible rfl))
                try simp only [Act.put, List.setIfInBounds_toArray, List.set_cons_zero, List.set_cons_succ]
                refine wpAnyH_take (i := 7) (oi := { dst := some 38, op := Go.Op.fieldAddr 44 (Go.Operand.tmp 37) 0, type := 0, pos := "ref.go:54", after := #[{ on := 6, ground := Go.Ground.data }, { on := 2, ground := Go.Ground.guard }], guard := some (2, true) }) (v := ?_) rfl (by kernel_rfl) (by kernel_rfl) (by kernel_rfl) (fun _ _ _ h => h) (Or.inl ⟨by rfl, ?_⟩) hS0 ?_; rotate_left; (· (intro wq hSw; obtain ⟨y0, y1, y2, y3, y4, y5⟩ := hSw; go_simp; try with_reducible rfl))
                try simp only [Act.put, List.setIfInBounds_toArray, List.set_cons_zero, List.set_cons_succ]
                refine wpAnyH_take (i := 8) (oi := { dst := some 39, op := Go.Op.load 25 (Go.Operand.tmp 38), type := 25, pos := "ref.go:54", after := #[{ on := 7, ground := Go.Ground.data }, { on := 2, ground := Go.Ground.guard }], guard := some (2, true) }) (v := ?_) rfl (by kernel_rfl) (by kernel_rfl) (by kernel_rfl) (fun _ _ _ h => h) (Or.inl ⟨by rfl, ?_⟩) hS0 ?_; rotate_left; (· (intro wq hSw; obtain ⟨y0, y1, y2, y3, y4, y5⟩ := hSw; go_simp; try with_reducible rfl))
                try simp only [Act.put, List.setIfInBounds_toArray, List.set_cons_zero, List.set_cons_succ]
                refine wpAnyH_ready (rs := [9]) (by kernel_rfl) (by simp) ?_
                refine AllReadyH.cons (o := { dst := some 40, op := Go.Op.call { callee := Go.Callee.value (Go.Operand.func 34), args := #[Go.Operand.tmp 34, Go.Operand.tmp 39], argTypes := #[25, 25] }, type := 3, pos := "ref.go:54", after := #[{ on := 3, ground := Go.Ground.data }, { on := 8, ground := Go.Ground.data }, { on := 2, ground := Go.Ground.chain }, { on := 2, ground := Go.Ground.guard }], guard := some (2, true) }) rfl (fun K hK => ?_) AllReadyH.nil
                go_simp
                refine (Lb.refCompare_any a x.a _).mono ?_
                rintro e we ⟨he, hb3⟩
                rw [HCV.out.1] at he
                subst he
                replace HD := Lib.hid (below_more HD.out hb3)
                refine hK.out _ _ (⟨cell_later hb3 hS0.1, cell_later hb3 hS0.2.1, cell_later hb3 hS0.2.2.1, cell_later hb3 hS0.2.2.2.1, cell_later hb3 hS0.2.2.2.2.1, cell_later hb3 hS0.2.2.2.2.2⟩) (fun hS1 => ?_)
                clear hK K hS0 hb3
                try simp only [Act.put, List.setIfInBounds_toArray, List.set_cons_zero, List.set_cons_succ]
                refine wpAnyH_take (i := 10) (oi := { dst := some 41, op := Go.Op.binOp Go.BinOp.leq 3 (Go.Operand.tmp 40) (Go.Operand.const (Go.Value.int Go.IntKind.i64 0)) 3, type := 4, pos := "ref.go:54", after := #[{ on := 9, ground := Go.Ground.data }, { on := 2, ground := Go.Ground.guard }], guard := some (2, true) }) (v := ?_) rfl (by kernel_rfl) (by kernel_rfl) (by kernel_rfl) (fun _ _ _ h => h) (Or.inl ⟨by rfl, ?_⟩) hS1 ?_; rotate_left; (· (intro wq hSw; obtain ⟨y0, y1, y2, y3, y4, y5⟩ := hSw; go_simp; try with_reducible rfl))
                try simp only [Act.put, List.setIfInBounds_toArray, List.set_cons_zero, List.set_cons_succ]
                refine wpAnyH_take (i := 11) (oi := { dst := some 42, op := Go.Op.pick (Go.Operand.tmp 33) (Go.Operand.tmp 41) (Go.Operand.const (Go.Value.bool false)), type := 4, pos := "ref.go:54", after := #[{ on := 2, ground := Go.Ground.data }, { on := 10, ground := Go.Ground.data }], guard := none }) (v := ?_) rfl (by kernel_rfl) (by kernel_rfl) (by kernel_rfl) (fun _ _ _ h => h) (Or.inl ⟨by rfl, ?_⟩) hS1 ?_; rotate_left; (· (intro wq hSw; obtain ⟨y0, y1, y2, y3, y4, y5⟩ := hSw; go_simp; try with_reducible rfl))
                try simp only [Act.put, List.setIfInBounds_toArray, List.set_cons_zero, List.set_cons_succ]
                refine wpAnyH_done (by kernel_rfl) ?_ _
                clear hS1
                clear hle2
                have HBW := Lib.hid (HB.out.trans (HD.out.mono HB.out.size))
                have R1 := Lib.hid (HRW.out.more HD.out)
                obtain ⟨q0, q1, q2, q3⟩ := HPA.out.more HBW.out
                have c0 := cell_later HBW.out HC.out.1
                have c1 := cell_later HBW.out HC.out.2.1
                have c2 := cell_later HBW.out HC.out.2.2
                have hsz := HBW.out.size
                go_wp2_with (at_builtin; go_loud (refine wpList_append_own _ rfl _ _ 22 rfl W1.heap.size 44 i0 (.agg #[.int .i64 0, .int .u64 0, .int .i64 0, .slice none 0 0]) 4 48 Tryz.underlying22 hin hz0 hz1 hz2 rfl (by decide) (.slice va m vc) m (pcl vs) rfl (R1.out.row.alloc (.cells #[.int .i64 (⟨a, os, bo, cap1⟩ : Pv).a.l, .int .u64 (⟨a, os, bo, cap1⟩ : Pv).a.c, .int .i64 (⟨a, os, bo, cap1⟩ : Pv).a.i, .slice (⟨a, os, bo, cap1⟩ : Pv).va (⟨a, os, bo, cap1⟩ : Pv).os.length (⟨a, os, bo, cap1⟩ : Pv).vc] 44)) ⟨we.heap.size, 0, none⟩ 1 1 (cells4 (⟨a, os, bo, cap1⟩ : Pv)) rfl rfl (pt_new we (⟨a, os, bo, cap1⟩ : Pv) 44) (by simp [cells4, Value.oneCell']) (by unfold maxLen; omega) (by omega) (by simp; omega) ?_; intro v' w5 hown' hgrow _; obtain ⟨g3, cap3, rfl⟩ := ownsRow_succ hown'; have HF3 := Lib.hid (And.intro hown' (app_below (HBW.out.alloc hsz (.cells #[.int .i64 (⟨a, os, bo, cap1⟩ : Pv).a.l, .int .u64 (⟨a, os, bo, cap1⟩ : Pv).a.c, .int .i64 (⟨a, os, bo, cap1⟩ : Pv).a.i, .slice (⟨a, os, bo, cap1⟩ : Pv).va (⟨a, os, bo, cap1⟩ : Pv).os.length (⟨a, os, bo, cap1⟩ : Pv).vc] 44)) (R1.out.row.alloc (.cells #[.int .i64 (⟨a, os, bo, cap1⟩ : Pv).a.l, .int .u64 (⟨a, os, bo, cap1⟩ : Pv).a.c, .int .i64 (⟨a, os, bo, cap1⟩ : Pv).a.i, .slice (⟨a, os, bo, cap1⟩ : Pv).va (⟨a, os, bo, cap1⟩ : Pv).os.length (⟨a, os, bo, cap1⟩ : Pv).vc] 44)) ⟨hown', hgrow⟩)); clear hown' hgrow; obtain ⟨q0, q1, q2, q3⟩ := HPA.out.more HF3.out.2; have c0 := cell_later HF3.out.2 HC.out.1; have c1 := cell_later HF3.out.2 HC.out.2.1; have c2 := cell_later HF3.out.2 HC.out.2.2))
                have HB5 := Lib.hid HF3.out.2
                have R5 := Lib.hid (R1.out.snoc HYE.out HF3.out.1)
                cases hs : x.a.same a with
                | true =>
                  have HN := Lib.hid (show (lk ++ [pt (⟨a, os, bo, cap1⟩ : Pv)]) ++ setGo a lo true (l.drop (k + 1)) = y by have h := HQ.out; rw [HST.out, hs, HN0.out] at h; rw [HYP.out]; simpa using h)
                  go_wp2
                  go_region_held3 (fun w' => w'.cell? ⟨bb, off + k * 4, none⟩ = some (.int .i64 x.a.l) ∧ w'.cell? ⟨bb, off + k * 4 + 1, none⟩ = some (.int .u64 x.a.c) ∧ w'.cell? ⟨bb, off + k * 4 + 2, none⟩ = some (.int .i64 x.a.i) ∧ w'.cell? ⟨w.heap.size, 0, none⟩ = some (.int .i64 a.l) ∧ w'.cell? ⟨w.heap.size, 1, none⟩ = some (.int .u64 a.c) ∧ w'.cell? ⟨w.heap.size, 2, none⟩ = some (.int .i64 a.i))
                    (first | (simp only [World.cell?_drew, q0, q1, q2, c0, c1, c2, and_self]; done)) (fail)
                  clear hs hnq
                  clear q0 q1 q2 q3 c0 c1 c2
                  have HBW := Lib.hid (show Below W1.heap.size W1 w5.drew from HB5.out.drew)
                  have R9 := Lib.hid (R5.out.more (Below.refl _ w5).drew)
                  generalize w5.drew = W9 at HBW R9 ⊢
                  go_wp2
                  go_roundw
                  case rel => exact ⟨k + 1, (m + 1), true, (some ⟨g3, 0, none⟩), cap3, (vs ++ [(⟨a, os, bo, cap1⟩ : Pv)]), (lk ++ [pt (⟨a, os, bo, cap1⟩ : Pv)]), by omega, by omega, by simp, rfl, rfl, R9.out, HN.out, HBW.out⟩
                  case measure => simp [intOf]; omega
                | false =>
                  have HN := Lib.hid (show ((lk ++ [pt (⟨a, os, bo, cap1⟩ : Pv)]) ++ [pt x]) ++ setGo a lo true (l.drop (k + 1)) = y by have h := HQ.out; rw [HST.out, hs, HN0.out] at h; rw [HYP.out, HZ.out.1]; simpa using h)
                  go_wp2
                  go_region_held3 (fun w' => w'.cell? ⟨bb, off + k * 4, none⟩ = some (.int .i64 x.a.l) ∧ w'.cell? ⟨bb, off + k * 4 + 1, none⟩ = some (.int .u64 x.a.c) ∧ w'.cell? ⟨bb, off + k * 4 + 2, none⟩ = some (.int .i64 x.a.i) ∧ w'.cell? ⟨w.heap.size, 0, none⟩ = some (.int .i64 a.l) ∧ w'.cell? ⟨w.heap.size, 1, none⟩ = some (.int .u64 a.c) ∧ w'.cell? ⟨w.heap.size, 2, none⟩ = some (.int .i64 a.i))
                    (first | (simp only [World.cell?_drew, q0, q1, q2, c0, c1, c2, and_self]; done)) (fail)
                  clear hs hnq
                  clear q0 q1 q2 q3 c0 c1 c2
                  have HBW := Lib.hid (show Below W1.heap.size W1 w5.drew from HB5.out.drew)
                  have R9 := Lib.hid (R5.out.more (Below.refl _ w5).drew)
                  generalize w5.drew = W9 at HBW R9 ⊢
                  have hsz := HBW.out.size
                  obtain ⟨q0, q1, q2, q3⟩ := HPA.out.more HBW.out
                  go_wp2_with (at_builtin; go_loud (refine wpList_append_own _ rfl _ _ 22 rfl W1.heap.size 44 i0 (.agg #[.int .i64 0, .int .u64 0, .int .i64 0, .slice none 0 0]) 4 48 Tryz.underlying22 hin hz0 hz1 hz2 rfl (by decide) (.slice (some ⟨g3, 0, none⟩) (m + 1) cap3) (m + 1) (pcl (vs ++ [(⟨a, os, bo, cap1⟩ : Pv)])) rfl (R9.out.row.alloc (.cells #[.int .i64 x.a.l, .int .u64 x.a.c, .int .i64 x.a.i, .slice x.va x.os.length x.vc] 44)) ⟨W9.heap.size, 0, none⟩ 1 1 (cells4 x) rfl rfl (pt_new W9 x 44) (by simp [cells4, Value.oneCell']) (by unfold maxLen; omega) (by omega) (by simp; omega) ?_; intro v' w9 hown' hgrow _; obtain ⟨g4, cap4, rfl⟩ := ownsRow_succ hown'; have HF4 := Lib.hid (And.intro hown' (app_below (HBW.out.alloc hsz (.cells #[.int .i64 x.a.l, .int .u64 x.a.c, .int .i64 x.a.i, .slice x.va x.os.length x.vc] 44)) (R9.out.row.alloc (.cells #[.int .i64 x.a.l, .int .u64 x.a.c, .int .i64 x.a.i, .slice x.va x.os.length x.vc] 44)) ⟨hown', hgrow⟩)); clear hown' hgrow))
                  go_roundw
                  case rel => exact ⟨k + 1, (m + 1) + 1, true, some ⟨g4, 0, none⟩, cap4, (vs ++ [(⟨a, os, bo, cap1⟩ : Pv)]) ++ [x], (lk ++ [pt (⟨a, os, bo, cap1⟩ : Pv)]) ++ [pt x], by omega, by omega, by simp, rfl, rfl, R9.out.snoc HZ.out.2.1 HF4.out.1, HN.out, HF4.out.2⟩
                  case measure => simp [intOf]; omega
          · obtain rfl : k = k0 := by omega
            have hd1 : decide ((k : Int) < (k : Int)) = false := decide_eq_false (by omega)
            have HQE := Lib.hid (show lk ++ (if d then [] else [⟨a, lo⟩]) = y by
              have h := HQ.out
              rw [List.drop_eq_nil_of_le (Nat.le_of_eq HH.out.2.1)] at h
              exact h)
            have c0 := cell_later HB.out HC.out.1
            have c1 := cell_later HB.out HC.out.2.1
            have c2 := cell_later HB.out HC.out.2.2
            cases d with
            | true =>
              have HF := Lib.hid (show SP wr va m vc vs y from HRW.out.sp HB.out (by have h := HQE.out; simp at h; rw [h]; exact HSM.out) |> fun h => by have h2 := HQE.out; simp at h2; rw [← h2]; exact h)
              have HK := Lib.hid (show kr = m by rw [← HH.out.1, HF.out.len])
              have HBF := Lib.hid (below_more B.out HB.out)
              clear c0 c1 c2
              go_wp2
              refine bodyPost_ret (results_tmp2 rfl _ _ _) rfl ?_
              obtain rfl := HK.out
              exact ⟨vs, va, vc, rfl, HF.out, HBF.out⟩
            | false =>
              have hsz := HB.out.size
              have HBW := HB
              go_wp2_with (at_builtin; go_loud (refine wpList_append_own _ rfl _ _ 22 rfl W1.heap.size 44 i0 (.agg #[.int .i64 0, .int .u64 0, .int .i64 0, .slice none 0 0]) 4 48 Tryz.underlying22 hin hz0 hz1 hz2 rfl (by decide) (.slice va m vc) m (pcl vs) rfl (HRW.out.row.alloc (.cells #[.int .i64 (⟨a, os, bo, cap1⟩ : Pv).a.l, .int .u64 (⟨a, os, bo, cap1⟩ : Pv).a.c, .int .i64 (⟨a, os, bo, cap1⟩ : Pv).a.i, .slice (⟨a, os, bo, cap1⟩ : Pv).va (⟨a, os, bo, cap1⟩ : Pv).os.length (⟨a, os, bo, cap1⟩ : Pv).vc] 44)) ⟨wr.heap.size, 0, none⟩ 1 1 (cells4 (⟨a, os, bo, cap1⟩ : Pv)) rfl rfl (pt_new wr (⟨a, os, bo, cap1⟩ : Pv) 44) (by simp [cells4, Value.oneCell']) (by unfold maxLen; omega) (by omega) (by simp; omega) ?_; intro v' w5 hown' hgrow _; obtain ⟨g5, cap5, rfl⟩ := ownsRow_succ hown'; have HF5 := Lib.hid (And.intro hown' (app_below (HBW.out.alloc hsz (.cells #[.int .i64 (⟨a, os, bo, cap1⟩ : Pv).a.l, .int .u64 (⟨a, os, bo, cap1⟩ : Pv).a.c, .int .i64 (⟨a, os, bo, cap1⟩ : Pv).a.i, .slice (⟨a, os, bo, cap1⟩ : Pv).va (⟨a, os, bo, cap1⟩ : Pv).os.length (⟨a, os, bo, cap1⟩ : Pv).vc] 44)) (HRW.out.row.alloc (.cells #[.int .i64 (⟨a, os, bo, cap1⟩ : Pv).a.l, .int .u64 (⟨a, os, bo, cap1⟩ : Pv).a.c, .int .i64 (⟨a, os, bo, cap1⟩ : Pv).a.i, .slice (⟨a, os, bo, cap1⟩ : Pv).va (⟨a, os, bo, cap1⟩ : Pv).os.length (⟨a, os, bo, cap1⟩ : Pv).vc] 44)) ⟨hown', hgrow⟩)); clear hown' hgrow))
              have R5 := Lib.hid (HRW.out.snoc HYE.out HF5.out.1)
              have HY5 := Lib.hid (show lk ++ [pt (⟨a, os, bo, cap1⟩ : Pv)] = y by have h := HQE.out; rw [HYP.out]; simpa using h)
              have HF := Lib.hid (show SP w5 (some ⟨g5, 0, none⟩) (m + 1) cap5 (vs ++ [(⟨a, os, bo, cap1⟩ : Pv)]) y from HY5.out ▸ R5.out.sp HF5.out.2 (HY5.out ▸ HSM.out))
              have HK := Lib.hid (show kr = m + 1 by rw [← HH.out.1, HF.out.len])
              have HBF := Lib.hid (below_more B.out HF5.out.2)
              refine bodyPost_ret (results_tmp2 rfl _ _ _) rfl ?_
              obtain rfl := HK.out
              exact ⟨_, _, cap5, rfl, HF.out, HBF.out⟩
end

end Go.Proofs.YtlafcplcjpcikaaGreatDoor
