/- Merged texts: WdJgReg, WdIter, WdCheck, WdChk, WdWithin -/
import Derived.Test.YtlafcplcjpcikaaGreatDoorWdB
import Derived.Test.YtlafcplcjpcikaaGreatDoorSpD
import Derived.Test.YtlafcplcjpcikaaGreatDoorSpB
import Derived.Test.YtlafcplcjpcikaaGreatDoorFlA
/- The drawn region of judged's body: judge is asked, then yield. -/
namespace Go.Proofs.YtlafcplcjpcikaaGreatDoor
open Go.RowKit Go.Proofs.Fld Go.Proofs.Rng Go.Proofs.Spc Go.Proofs.Cats Go.Proofs.Wld Go.Shelf Go.Sort

attribute [local go_sem] Oper.semAt_some

theorem wdJudge_b {s : Sn} {x : Pv} {p : Option Lab} {b : Lab} (hb : aheadL p = b) (hm : Small (obs x.os)) (w : World) (hs : Ev s w) (hx : Pl w x) :
    Calls Tryz.prog 59 #[.agg #[.int .i64 x.a.l, .int .u64 x.a.c, .int .i64 x.a.i, .slice x.va x.os.length x.vc], .agg #[.int .i64 b.l, .int .u64 b.c, .int .i64 b.i]] w (JuwP (nextW p (pt x)) w) := hb ▸ wdJudge_v x p hm w hs hx
set_option maxRecDepth 100000 in
set_option maxHeartbeats 4000000 in
theorem jw_region {l l2 n m : Nat} (hn : 1 ≤ n) {s : Sn} {Q : Exit → Act → World → Prop} {V : World} {Y Z Bx : Nat} {x : Pv} {p : Option Lab} {b : Lab} (hb : aheadL p = b) {u0 u1 u5 u6 u7 u8 : Value} {R : World → Value → Ending → World → Prop}
    (c2 : V.cell? ⟨Y, 0, none⟩ = some (.func (.yield l) #[] #[])) (c3 : LabAt V Z b) (hx : PtAt V Bx 0 x) (hm : Small (obs x.os)) (hl : Pl V x) (hs : Ev s V)
    (hY : ∀ w1 v, Below V.heap.size V w1 → JuwV (nextW p (pt x)) v → YieldAt Fence.wide m Tryz.prog l #[pv x, v] w1 (R w1 v))
    (hR : ∀ w1 v e w3, Below V.heap.size V w1 → JuwV (nextW p (pt x)) v → R w1 v e w3 → ∃ g, e = .returned (.bool g) ∧ Q .normal { tmps := #[u0, u1, .pointer (some ⟨Y, 0, none⟩), .pointer (some ⟨Z, 0, none⟩), .pointer (some ⟨Bx, 0, none⟩), u5, u6, u7, u8, .func (.yield l) #[] #[], .agg #[.int .i64 x.a.l, .int .u64 x.a.c, .int .i64 x.a.i, .slice x.va x.os.length x.vc], .agg #[.int .i64 x.a.l, .int .u64 x.a.c, .int .i64 x.a.i, .slice x.va x.os.length x.vc], .agg #[.int .i64 b.l, .int .u64 b.c, .int .i64 b.i], v, .bool g, .bool (!g), undef, undef], defers := [] } w3) :
    wpAnyIn (Fence.wide.inRound l2) n Tryz.prog .any #[{ dst := some 9, op := Go.Op.load 90 (Go.Operand.tmp 2), type := 90, pos := "world.go:79", after := #[], guard := none }, { dst := some 10, op := Go.Op.load 44 (Go.Operand.tmp 4), type := 44, pos := "world.go:79", after := #[], guard := none }, { dst := some 11, op := Go.Op.load 44 (Go.Operand.tmp 4), type := 44, pos := "world.go:79", after := #[], guard := none }, { dst := some 12, op := Go.Op.load 25 (Go.Operand.tmp 3), type := 25, pos := "world.go:79", after := #[], guard := none }, { dst := some 13, op := Go.Op.call { callee := Go.Callee.value (Go.Operand.func 59), args := #[Go.Operand.tmp 11, Go.Operand.tmp 12], argTypes := #[44, 25] }, type := 57, pos := "world.go:79", after := #[{ on := 2, ground := Go.Ground.data }, { on := 3, ground := Go.Ground.data }], guard := none }, { dst := some 14, op := Go.Op.call { callee := Go.Callee.value (Go.Operand.tmp 9), args := #[Go.Operand.tmp 10, Go.Operand.tmp 13], argTypes := #[44, 57] }, type := 4, pos := "world.go:79", after := #[{ on := 0, ground := Go.Ground.data }, { on := 1, ground := Go.Ground.data }, { on := 4, ground := Go.Ground.data }, { on := 4, ground := Go.Ground.chain }], guard := none }, { dst := some 15, op := Go.Op.unOp Go.UnOp.not 4 (Go.Operand.tmp 14), type := 4, pos := "world.go:79", after := #[{ on := 5, ground := Go.Ground.data }], guard := none }] Q 7 (Array.replicate 7 false) { tmps := #[u0, u1, .pointer (some ⟨Y, 0, none⟩), .pointer (some ⟨Z, 0, none⟩), .pointer (some ⟨Bx, 0, none⟩), u5, u6, u7, u8, undef, undef, undef, undef, undef, undef, undef, undef, undef], defers := [] } V := by
  have HX := Lib.hid (And.intro c2 (And.intro c3 hx))
  have HC := Lib.hid (wdJudge_b hb hm V hs hl)
  have FIN : ∀ (w1 : World) (v : Value) (L : Array Bool), Below V.heap.size V w1 → JuwV (nextW p (pt x)) v → Region.ready .any #[{ dst := some 9, op := Go.Op.load 90 (Go.Operand.tmp 2), type := 90, pos := "world.go:79", after := #[], guard := none }, { dst := some 10, op := Go.Op.load 44 (Go.Operand.tmp 4), type := 44, pos := "world.go:79", after := #[], guard := none }, { dst := some 11, op := Go.Op.load 44 (Go.Operand.tmp 4), type := 44, pos := "world.go:79", after := #[], guard := none }, { dst := some 12, op := Go.Op.load 25 (Go.Operand.tmp 3), type := 25, pos := "world.go:79", after := #[], guard := none }, { dst := some 13, op := Go.Op.call { callee := Go.Callee.value (Go.Operand.func 59), args := #[Go.Operand.tmp 11, Go.Operand.tmp 12], argTypes := #[44, 25] }, type := 57, pos := "world.go:79", after := #[{ on := 2, ground := Go.Ground.data }, { on := 3, ground := Go.Ground.data }], guard := none }, { dst := some 14, op := Go.Op.call { callee := Go.Callee.value (Go.Operand.tmp 9), args := #[Go.Operand.tmp 10, Go.Operand.tmp 13], argTypes := #[44, 57] }, type := 4, pos := "world.go:79", after := #[{ on := 0, ground := Go.Ground.data }, { on := 1, ground := Go.Ground.data }, { on := 4, ground := Go.Ground.data }, { on := 4, ground := Go.Ground.chain }], guard := none }, { dst := some 15, op := Go.Op.unOp Go.UnOp.not 4 (Go.Operand.tmp 14), type := 4, pos := "world.go:79", after := #[{ on := 5, ground := Go.Ground.data }], guard := none }] L = [5] → Region.ready .any #[{ dst := some 9, op := Go.Op.load 90 (Go.Operand.tmp 2), type := 90, pos := "world.go:79", after := #[], guard := none }, { dst := some 10, op := Go.Op.load 44 (Go.Operand.tmp 4), type := 44, pos := "world.go:79", after := #[], guard := none }, { dst := some 11, op := Go.Op.load 44 (Go.Operand.tmp 4), type := 44, pos := "world.go:79", after := #[], guard := none }, { dst := some 12, op := Go.Op.load 25 (Go.Operand.tmp 3), type := 25, pos := "world.go:79", after := #[], guard := none }, { dst := some 13, op := Go.Op.call { callee := Go.Callee.value (Go.Operand.func 59), args := #[Go.Operand.tmp 11, Go.Operand.tmp 12], argTypes := #[44, 25] }, type := 57, pos := "world.go:79", after := #[{ on := 2, ground := Go.Ground.data }, { on := 3, ground := Go.Ground.data }], guard := none }, { dst := some 14, op := Go.Op.call { callee := Go.Callee.value (Go.Operand.tmp 9), args := #[Go.Operand.tmp 10, Go.Operand.tmp 13], argTypes := #[44, 57] }, type := 4, pos := "world.go:79", after := #[{ on := 0, ground := Go.Ground.data }, { on := 1, ground := Go.Ground.data }, { on := 4, ground := Go.Ground.data }, { on := 4, ground := Go.Ground.chain }], guard := none }, { dst := some 15, op := Go.Op.unOp Go.UnOp.not 4 (Go.Operand.tmp 14), type := 4, pos := "world.go:79", after := #[{ on := 5, ground := Go.Ground.data }], guard := none }] (L.setIfInBounds 5 true) = [6] → Region.ready .any #[{ dst := some 9, op := Go.Op.load 90 (Go.Operand.tmp 2), type := 90, pos := "world.go:79", after := #[], guard := none }, { dst := some 10, op := Go.Op.load 44 (Go.Operand.tmp 4), type := 44, pos := "world.go:79", after := #[], guard := none }, { dst := some 11, op := Go.Op.load 44 (Go.Operand.tmp 4), type := 44, pos := "world.go:79", after := #[], guard := none }, { dst := some 12, op := Go.Op.load 25 (Go.Operand.tmp 3), type := 25, pos := "world.go:79", after := #[], guard := none }, { dst := some 13, op := Go.Op.call { callee := Go.Callee.value (Go.Operand.func 59), args := #[Go.Operand.tmp 11, Go.Operand.tmp 12], argTypes := #[44, 25] }, type := 57, pos := "world.go:79", after := #[{ on := 2, ground := Go.Ground.data }, { on := 3, ground := Go.Ground.data }], guard := none }, { dst := some 14, op := Go.Op.call { callee := Go.Callee.value (Go.Operand.tmp 9), args := #[Go.Operand.tmp 10, Go.Operand.tmp 13], argTypes := #[44, 57] }, type := 4, pos := "world.go:79", after := #[{ on := 0, ground := Go.Ground.data }, { on := 1, ground := Go.Ground.data }, { on := 4, ground := Go.Ground.data }, { on := 4, ground := Go.Ground.chain }], guard := none }, { dst := some 15, op := Go.Op.unOp Go.UnOp.not 4 (Go.Operand.tmp 14), type := 4, pos := "world.go:79", after := #[{ on := 5, ground := Go.Ground.data }], guard := none }] ((L.setIfInBounds 5 true).setIfInBounds 6 true) = [] →
      wpAnyIn (Fence.wide.inRound l2) n Tryz.prog .any #[{ dst := some 9, op := Go.Op.load 90 (Go.Operand.tmp 2), type := 90, pos := "world.go:79", after := #[], guard := none }, { dst := some 10, op := Go.Op.load 44 (Go.Operand.tmp 4), type := 44, pos := "world.go:79", after := #[], guard := none }, { dst := some 11, op := Go.Op.load 44 (Go.Operand.tmp 4), type := 44, pos := "world.go:79", after := #[], guard := none }, { dst := some 12, op := Go.Op.load 25 (Go.Operand.tmp 3), type := 25, pos := "world.go:79", after := #[], guard := none }, { dst := some 13, op := Go.Op.call { callee := Go.Callee.value (Go.Operand.func 59), args := #[Go.Operand.tmp 11, Go.Operand.tmp 12], argTypes := #[44, 25] }, type := 57, pos := "world.go:79", after := #[{ on := 2, ground := Go.Ground.data }, { on := 3, ground := Go.Ground.data }], guard := none }, { dst := some 14, op := Go.Op.call { callee := Go.Callee.value (Go.Operand.tmp 9), args := #[Go.Operand.tmp 10, Go.Operand.tmp 13], argTypes := #[44, 57] }, type := 4, pos := "world.go:79", after := #[{ on := 0, ground := Go.Ground.data }, { on := 1, ground := Go.Ground.data }, { on := 4, ground := Go.Ground.data }, { on := 4, ground := Go.Ground.chain }], guard := none }, { dst := some 15, op := Go.Op.unOp Go.UnOp.not 4 (Go.Operand.tmp 14), type := 4, pos := "world.go:79", after := #[{ on := 5, ground := Go.Ground.data }], guard := none }] Q 2 L { tmps := #[u0, u1, .pointer (some ⟨Y, 0, none⟩), .pointer (some ⟨Z, 0, none⟩), .pointer (some ⟨Bx, 0, none⟩), u5, u6, u7, u8, .func (.yield l) #[] #[], .agg #[.int .i64 x.a.l, .int .u64 x.a.c, .int .i64 x.a.i, .slice x.va x.os.length x.vc], .agg #[.int .i64 x.a.l, .int .u64 x.a.c, .int .i64 x.a.i, .slice x.va x.os.length x.vc], .agg #[.int .i64 b.l, .int .u64 b.c, .int .i64 b.i], v, undef, undef, undef, undef], defers := [] } w1 := by
    intro w1 v L hb1 hv r1 r2 r3
    obtain ⟨fn, tmps, assign, body, hy, hRn⟩ := hY w1 v hb1 hv
    have HR := Lib.hid (hR w1 v)
    have HV := Lib.hid (And.intro hb1 (And.intro hv (And.intro r2 r3)))
    simp only [pv] at hy
    clear hR hY HC HX hb1 hv r2 r3 c2 c3 hx hm hl hs hb
    refine wpAnyIn_ready (rs := [5]) r1 (by simp) ?_
    refine AllReadyIn.cons (o := { dst := some 14, op := Go.Op.call { callee := Go.Callee.value (Go.Operand.tmp 9), args := #[Go.Operand.tmp 10, Go.Operand.tmp 13], argTypes := #[44, 57] }, type := 4, pos := "world.go:79", after := #[{ on := 0, ground := Go.Ground.data }, { on := 1, ground := Go.Ground.data }, { on := 4, ground := Go.Ground.data }, { on := 4, ground := Go.Ground.chain }], guard := none }) rfl (fun K hK => ?_) AllReadyIn.nil
    have HK := Lib.hid hK
    clear hK r1
    go_simp
    refine RoundIn.mono (show RoundIn (Fence.wide.inRound l2) (n - 1) Tryz.prog l fn tmps assign body w1 (R w1 v) from ⟨hRn.1, fun c cs _ => hRn.2 c cs (room_wide _)⟩) ?_
    intro e w3 hr
    obtain ⟨g, rfl, hq⟩ := HR.out e w3 HV.out.1 HV.out.2.1 hr
    refine HK.out _ _ ?_
    try simp only [Act.put, List.setIfInBounds_toArray, List.set_cons_zero, List.set_cons_succ]
    refine wpAnyIn_ready (rs := [6]) HV.out.2.2.1 (by simp) ?_
    refine AllReadyIn.cons (o := { dst := some 15, op := Go.Op.unOp Go.UnOp.not 4 (Go.Operand.tmp 14), type := 4, pos := "world.go:79", after := #[{ on := 5, ground := Go.Ground.data }], guard := none }) rfl (fun K2 hK2 => ?_) AllReadyIn.nil
    have HK2 := Lib.hid hK2
    clear hK2 HK hy hRn hr
    go_simp
    refine HK2.out _ _ ?_
    try simp only [Act.put, List.setIfInBounds_toArray, List.set_cons_zero, List.set_cons_succ]
    refine wpAnyIn_done HV.out.2.2.2 ?_ _
    exact hq
  have HF := Lib.hid FIN
  clear FIN hY hR c2 c3 hx hm hl hs hb
  have G0 := HX.out.1
  obtain ⟨G1, G1b, G1c⟩ := HX.out.2.1
  obtain ⟨G2, G3, G4, G5⟩ := HX.out.2.2.var
  refine wpAnyIn_ready (rs := [0, 1, 2, 3]) (by kernel_rfl) (by simp) ?_
  refine AllReadyIn.cons (o := { dst := some 9, op := Go.Op.load 90 (Go.Operand.tmp 2), type := 90, pos := "world.go:79", after := #[], guard := none }) rfl (fun K hK => ?_) ?_
  · skip
    have HK := Lib.hid hK
    clear hK
    go_simp
    refine HK.out _ _ ?_
    clear HK
    try simp only [Act.put, List.setIfInBounds_toArray, List.set_cons_zero, List.set_cons_succ]
    refine wpAnyIn_ready (rs := [1, 2, 3]) (by kernel_rfl) (by simp) ?_
    refine AllReadyIn.cons (o := { dst := some 10, op := Go.Op.load 44 (Go.Operand.tmp 4), type := 44, pos := "world.go:79", after := #[], guard := none }) rfl (fun K hK => ?_) ?_
    · skip
      have HK := Lib.hid hK
      clear hK
      go_simp
      refine HK.out _ _ ?_
      clear HK
      try simp only [Act.put, List.setIfInBounds_toArray, List.set_cons_zero, List.set_cons_succ]
      refine wpAnyIn_ready (rs := [2, 3]) (by kernel_rfl) (by simp) ?_
      refine AllReadyIn.cons (o := { dst := some 11, op := Go.Op.load 44 (Go.Operand.tmp 4), type := 44, pos := "world.go:79", after := #[], guard := none }) rfl (fun K hK => ?_) ?_
      · skip
        have HK := Lib.hid hK
        clear hK
        go_simp
        refine HK.out _ _ ?_
        clear HK
        try simp only [Act.put, List.setIfInBounds_toArray, List.set_cons_zero, List.set_cons_succ]
        refine wpAnyIn_ready (rs := [3]) (by kernel_rfl) (by simp) ?_
        refine AllReadyIn.cons (o := { dst := some 12, op := Go.Op.load 25 (Go.Operand.tmp 3), type := 25, pos := "world.go:79", after := #[], guard := none }) rfl (fun K hK => ?_) AllReadyIn.nil
        have HK := Lib.hid hK
        clear hK
        go_simp
        refine HK.out _ _ ?_
        clear HK
        try simp only [Act.put, List.setIfInBounds_toArray, List.set_cons_zero, List.set_cons_succ]
        refine wpAnyIn_ready (rs := [4]) (by kernel_rfl) (by simp) ?_
        refine AllReadyIn.cons (o := { dst := some 13, op := Go.Op.call { callee := Go.Callee.value (Go.Operand.func 59), args := #[Go.Operand.tmp 11, Go.Operand.tmp 12], argTypes := #[44, 25] }, type := 57, pos := "world.go:79", after := #[{ on := 2, ground := Go.Ground.data }, { on := 3, ground := Go.Ground.data }], guard := none }) rfl (fun K hK => ?_) AllReadyIn.nil
        have HK := Lib.hid hK
        clear hK
        go_simp
        refine ⟨trivial, ?_⟩
        refine (CallsIn.inRound l2 (callsIn_wide.2 HC.out)).mono ?_
        rintro e w1 ⟨v, rfl, hv, hb1⟩
        refine HK.out _ _ ?_
        have HJ := Lib.hid (And.intro hv hb1)
        obtain ⟨G2, G3, G4, G5⟩ := (HX.out.2.2.more hb1).var
        have G0 := cell_later hb1 HX.out.1
        clear HK hv hb1 G1 G1b G1c
        try simp only [Act.put, List.setIfInBounds_toArray, List.set_cons_zero, List.set_cons_succ]
        exact HF.out _ _ _ HJ.out.2 HJ.out.1 (by kernel_rfl) (by kernel_rfl) (by kernel_rfl)
      refine AllReadyIn.cons (o := { dst := some 12, op := Go.Op.load 25 (Go.Operand.tmp 3), type := 25, pos := "world.go:79", after := #[], guard := none }) rfl (fun K hK => ?_) AllReadyIn.nil
      have HK := Lib.hid hK
      clear hK
      go_simp
      refine HK.out _ _ ?_
      clear HK
      try simp only [Act.put, List.setIfInBounds_toArray, List.set_cons_zero, List.set_cons_succ]
      refine wpAnyIn_ready (rs := [2]) (by kernel_rfl) (by simp) ?_
      refine AllReadyIn.cons (o := { dst := some 11, op := Go.Op.load 44 (Go.Operand.tmp 4), type := 44, pos := "world.go:79", after := #[], guard := none }) rfl (fun K hK => ?_) AllReadyIn.nil
      have HK := Lib.hid hK
      clear hK
      go_simp
      refine HK.out _ _ ?_
      clear HK
      try simp only [Act.put, List.setIfInBounds_toArray, List.set_cons_zero, List.set_cons_succ]
      refine wpAnyIn_ready (rs := [4]) (by kernel_rfl) (by simp) ?_
      refine AllReadyIn.cons (o := { dst := some 13, op := Go.Op.call { callee := Go.Callee.value (Go.Operand.func 59), args := #[Go.Operand.tmp 11, Go.Operand.tmp 12], argTypes := #[44, 25] }, type := 57, pos := "world.go:79", after := #[{ on := 2, ground := Go.Ground.data }, { on := 3, ground := Go.Ground.data }], guard := none }) rfl (fun K hK => ?_) AllReadyIn.nil
      have HK := Lib.hid hK
      clear hK
      go_simp
      refine ⟨trivial, ?_⟩
      refine (CallsIn.inRound l2 (callsIn_wide.2 HC.out)).mono ?_
      rintro e w1 ⟨v, rfl, hv, hb1⟩
      refine HK.out _ _ ?_
      have HJ := Lib.hid (And.intro hv hb1)
      obtain ⟨G2, G3, G4, G5⟩ := (HX.out.2.2.more hb1).var
      have G0 := cell_later hb1 HX.out.1
      clear HK hv hb1 G1 G1b G1c
      try simp only [Act.put, List.setIfInBounds_toArray, List.set_cons_zero, List.set_cons_succ]
      exact HF.out _ _ _ HJ.out.2 HJ.out.1 (by kernel_rfl) (by kernel_rfl) (by kernel_rfl)
    refine AllReadyIn.cons (o := { dst := some 11, op := Go.Op.load 44 (Go.Operand.tmp 4), type := 44, pos := "world.go:79", after := #[], guard := none }) rfl (fun K hK => ?_) ?_
    · skip
      have HK := Lib.hid hK
      clear hK
      go_simp
      refine HK.out _ _ ?_
      clear HK
      try simp only [Act.put, List.setIfInBounds_toArray, List.set_cons_zero, List.set_cons_succ]
      refine wpAnyIn_ready (rs := [1, 3]) (by kernel_rfl) (by simp) ?_
      refine AllReadyIn.cons (o := { dst := some 10, op := Go.Op.load 44 (Go.Operand.tmp 4), type := 44, pos := "world.go:79", after := #[], guard := none }) rfl (fun K hK => ?_) ?_
      · skip
        have HK := Lib.hid hK
        clear hK
        go_simp
        refine HK.out _ _ ?_
        clear HK
        try simp only [Act.put, List.setIfInBounds_toArray, List.set_cons_zero, List.set_cons_succ]
        refine wpAnyIn_ready (rs := [3]) (by kernel_rfl) (by simp) ?_
        refine AllReadyIn.cons (o := { dst := some 12, op := Go.Op.load 25 (Go.Operand.tmp 3), type := 25, pos := "world.go:79", after := #[], guard := none }) rfl (fun K hK => ?_) AllReadyIn.nil
        have HK := Lib.hid hK
        clear hK
        go_simp
        refine HK.out _ _ ?_
        clear HK
        try simp only [Act.put, List.setIfInBounds_toArray, List.set_cons_zero, List.set_cons_succ]
        refine wpAnyIn_ready (rs := [4]) (by kernel_rfl) (by simp) ?_
        refine AllReadyIn.cons (o := { dst := some 13, op := Go.Op.call { callee := Go.Callee.value (Go.Operand.func 59), args := #[Go.Operand.tmp 11, Go.Operand.tmp 12], argTypes := #[44, 25] }, type := 57, pos := "world.go:79", after := #[{ on := 2, ground := Go.Ground.data }, { on := 3, ground := Go.Ground.data }], guard := none }) rfl (fun K hK => ?_) AllReadyIn.nil
        have HK := Lib.hid hK
        clear hK
        go_simp
        refine ⟨trivial, ?_⟩
        refine (CallsIn.inRound l2 (callsIn_wide.2 HC.out)).mono ?_
        rintro e w1 ⟨v, rfl, hv, hb1⟩
        refine HK.out _ _ ?_
        have HJ := Lib.hid (And.intro hv hb1)
        obtain ⟨G2, G3, G4, G5⟩ := (HX.out.2.2.more hb1).var
        have G0 := cell_later hb1 HX.out.1
        clear HK hv hb1 G1 G1b G1c
        try simp only [Act.put, List.setIfInBounds_toArray, List.set_cons_zero, List.set_cons_succ]
        exact HF.out _ _ _ HJ.out.2 HJ.out.1 (by kernel_rfl) (by kernel_rfl) (by kernel_rfl)
      refine AllReadyIn.cons (o := { dst := some 12, op := Go.Op.load 25 (Go.Operand.tmp 3), type := 25, pos := "world.go:79", after := #[], guard := none }) rfl (fun K hK => ?_) AllReadyIn.nil
      have HK := Lib.hid hK
      clear hK
      go_simp
      refine HK.out _ _ ?_
      clear HK
      try simp only [Act.put, List.setIfInBounds_toArray, List.set_cons_zero, List.set_cons_succ]
      refine wpAnyIn_ready (rs := [1, 4]) (by kernel_rfl) (by simp) ?_
      refine AllReadyIn.cons (o := { dst := some 10, op := Go.Op.load 44 (Go.Operand.tmp 4), type := 44, pos := "world.go:79", after := #[], guard := none }) rfl (fun K hK => ?_) ?_
      · skip
        have HK := Lib.hid hK
        clear hK
        go_simp
        refine HK.out _ _ ?_
        clear HK
        try simp only [Act.put, List.setIfInBounds_toArray, List.set_cons_zero, List.set_cons_succ]
        refine wpAnyIn_ready (rs := [4]) (by kernel_rfl) (by simp) ?_
        refine AllReadyIn.cons (o := { dst := some 13, op := Go.Op.call { callee := Go.Callee.value (Go.Operand.func 59), args := #[Go.Operand.tmp 11, Go.Operand.tmp 12], argTypes := #[44, 25] }, type := 57, pos := "world.go:79", after := #[{ on := 2, ground := Go.Ground.data }, { on := 3, ground := Go.Ground.data }], guard := none }) rfl (fun K hK => ?_) AllReadyIn.nil
        have HK := Lib.hid hK
        clear hK
        go_simp
        refine ⟨trivial, ?_⟩
        refine (CallsIn.inRound l2 (callsIn_wide.2 HC.out)).mono ?_
        rintro e w1 ⟨v, rfl, hv, hb1⟩
        refine HK.out _ _ ?_
        have HJ := Lib.hid (And.intro hv hb1)
        obtain ⟨G2, G3, G4, G5⟩ := (HX.out.2.2.more hb1).var
        have G0 := cell_later hb1 HX.out.1
        clear HK hv hb1 G1 G1b G1c
        try simp only [Act.put, List.setIfInBounds_toArray, List.set_cons_zero, List.set_cons_succ]
        exact HF.out _ _ _ HJ.out.2 HJ.out.1 (by kernel_rfl) (by kernel_rfl) (by kernel_rfl)
      refine AllReadyIn.cons (o := { dst := some 13, op := Go.Op.call { callee := Go.Callee.value (Go.Operand.func 59), args := #[Go.Operand.tmp 11, Go.Operand.tmp 12], argTypes := #[44, 25] }, type := 57, pos := "world.go:79", after := #[{ on := 2, ground := Go.Ground.data }, { on := 3, ground := Go.Ground.data }], guard := none }) rfl (fun K hK => ?_) AllReadyIn.nil
      have HK := Lib.hid hK
      clear hK
      go_simp
      refine ⟨trivial, ?_⟩
      refine (CallsIn.inRound l2 (callsIn_wide.2 HC.out)).mono ?_
      rintro e w1 ⟨v, rfl, hv, hb1⟩
      refine HK.out _ _ ?_
      have HJ := Lib.hid (And.intro hv hb1)
      obtain ⟨G2, G3, G4, G5⟩ := (HX.out.2.2.more hb1).var
      have G0 := cell_later hb1 HX.out.1
      clear HK hv hb1 G1 G1b G1c
      try simp only [Act.put, List.setIfInBounds_toArray, List.set_cons_zero, List.set_cons_succ]
      refine wpAnyIn_ready (rs := [1]) (by kernel_rfl) (by simp) ?_
      refine AllReadyIn.cons (o := { dst := some 10, op := Go.Op.load 44 (Go.Operand.tmp 4), type := 44, pos := "world.go:79", after := #[], guard := none }) rfl (fun K hK => ?_) AllReadyIn.nil
      have HK := Lib.hid hK
      clear hK
      go_simp
      refine HK.out _ _ ?_
      clear HK
      try simp only [Act.put, List.setIfInBounds_toArray, List.set_cons_zero, List.set_cons_succ]
      exact HF.out _ _ _ HJ.out.2 HJ.out.1 (by kernel_rfl) (by kernel_rfl) (by kernel_rfl)
    refine AllReadyIn.cons (o := { dst := some 12, op := Go.Op.load 25 (Go.Operand.tmp 3), type := 25, pos := "world.go:79", after := #[], guard := none }) rfl (fun K hK => ?_) AllReadyIn.nil
    have HK := Lib.hid hK
    clear hK
    go_simp
    refine HK.out _ _ ?_
    clear HK
    try simp only [Act.put, List.setIfInBounds_toArray, List.set_cons_zero, List.set_cons_succ]
    refine wpAnyIn_ready (rs := [1, 2]) (by kernel_rfl) (by simp) ?_
    refine AllReadyIn.cons (o := { dst := some 10, op := Go.Op.load 44 (Go.Operand.tmp 4), type := 44, pos := "world.go:79", after := #[], guard := none }) rfl (fun K hK => ?_) ?_
    · skip
      have HK := Lib.hid hK
      clear hK
      go_simp
      refine HK.out _ _ ?_
      clear HK
      try simp only [Act.put, List.setIfInBounds_toArray, List.set_cons_zero, List.set_cons_succ]
      refine wpAnyIn_ready (rs := [2]) (by kernel_rfl) (by simp) ?_
      refine AllReadyIn.cons (o := { dst := some 11, op := Go.Op.load 44 (Go.Operand.tmp 4), type := 44, pos := "world.go:79", after := #[], guard := none }) rfl (fun K hK => ?_) AllReadyIn.nil
      have HK := Lib.hid hK
      clear hK
      go_simp
      refine HK.out _ _ ?_
      clear HK
      try simp only [Act.put, List.setIfInBounds_toArray, List.set_cons_zero, List.set_cons_succ]
      refine wpAnyIn_ready (rs := [4]) (by kernel_rfl) (by simp) ?_
      refine AllReadyIn.cons (o := { dst := some 13, op := Go.Op.call { callee := Go.Callee.value (Go.Operand.func 59), args := #[Go.Operand.tmp 11, Go.Operand.tmp 12], argTypes := #[44, 25] }, type := 57, pos := "world.go:79", after := #[{ on := 2, ground := Go.Ground.data }, { on := 3, ground := Go.Ground.data }], guard := none }) rfl (fun K hK => ?_) AllReadyIn.nil
      have HK := Lib.hid hK
      clear hK
      go_simp
      refine ⟨trivial, ?_⟩
      refine (CallsIn.inRound l2 (callsIn_wide.2 HC.out)).mono ?_
      rintro e w1 ⟨v, rfl, hv, hb1⟩
      refine HK.out _ _ ?_
      have HJ := Lib.hid (And.intro hv hb1)
      obtain ⟨G2, G3, G4, G5⟩ := (HX.out.2.2.more hb1).var
      have G0 := cell_later hb1 HX.out.1
      clear HK hv hb1 G1 G1b G1c
      try simp only [Act.put, List.setIfInBounds_toArray, List.set_cons_zero, List.set_cons_succ]
      exact HF.out _ _ _ HJ.out.2 HJ.out.1 (by kernel_rfl) (by kernel_rfl) (by kernel_rfl)
    refine AllReadyIn.cons (o := { dst := some 11, op := Go.Op.load 44 (Go.Operand.tmp 4), type := 44, pos := "world.go:79", after := #[], guard := none }) rfl (fun K hK => ?_) AllReadyIn.nil
    have HK := Lib.hid hK
    clear hK
    go_simp
    refine HK.out _ _ ?_
    clear HK
    try simp only [Act.put, List.setIfInBounds_toArray, List.set_cons_zero, List.set_cons_succ]
    refine wpAnyIn_ready (rs := [1, 4]) (by kernel_rfl) (by simp) ?_
    refine AllReadyIn.cons (o := { dst := some 10, op := Go.Op.load 44 (Go.Operand.tmp 4), type := 44, pos := "world.go:79", after := #[], guard := none }) rfl (fun K hK => ?_) ?_
    · skip
      have HK := Lib.hid hK
      clear hK
      go_simp
      refine HK.out _ _ ?_
      clear HK
      try simp only [Act.put, List.setIfInBounds_toArray, List.set_cons_zero, List.set_cons_succ]
      refine wpAnyIn_ready (rs := [4]) (by kernel_rfl) (by simp) ?_
      refine AllReadyIn.cons (o := { dst := some 13, op := Go.Op.call { callee := Go.Callee.value (Go.Operand.func 59), args := #[Go.Operand.tmp 11, Go.Operand.tmp 12], argTypes := #[44, 25] }, type := 57, pos := "world.go:79", after := #[{ on := 2, ground := Go.Ground.data }, { on := 3, ground := Go.Ground.data }], guard := none }) rfl (fun K hK => ?_) AllReadyIn.nil
      have HK := Lib.hid hK
      clear hK
      go_simp
      refine ⟨trivial, ?_⟩
      refine (CallsIn.inRound l2 (callsIn_wide.2 HC.out)).mono ?_
      rintro e w1 ⟨v, rfl, hv, hb1⟩
      refine HK.out _ _ ?_
      have HJ := Lib.hid (And.intro hv hb1)
      obtain ⟨G2, G3, G4, G5⟩ := (HX.out.2.2.more hb1).var
      have G0 := cell_later hb1 HX.out.1
      clear HK hv hb1 G1 G1b G1c
      try simp only [Act.put, List.setIfInBounds_toArray, List.set_cons_zero, List.set_cons_succ]
      exact HF.out _ _ _ HJ.out.2 HJ.out.1 (by kernel_rfl) (by kernel_rfl) (by kernel_rfl)
    refine AllReadyIn.cons (o := { dst := some 13, op := Go.Op.call { callee := Go.Callee.value (Go.Operand.func 59), args := #[Go.Operand.tmp 11, Go.Operand.tmp 12], argTypes := #[44, 25] }, type := 57, pos := "world.go:79", after := #[{ on := 2, ground := Go.Ground.data }, { on := 3, ground := Go.Ground.data }], guard := none }) rfl (fun K hK => ?_) AllReadyIn.nil
    have HK := Lib.hid hK
    clear hK
    go_simp
    refine ⟨trivial, ?_⟩
    refine (CallsIn.inRound l2 (callsIn_wide.2 HC.out)).mono ?_
    rintro e w1 ⟨v, rfl, hv, hb1⟩
    refine HK.out _ _ ?_
    have HJ := Lib.hid (And.intro hv hb1)
    obtain ⟨G2, G3, G4, G5⟩ := (HX.out.2.2.more hb1).var
    have G0 := cell_later hb1 HX.out.1
    clear HK hv hb1 G1 G1b G1c
    try simp only [Act.put, List.setIfInBounds_toArray, List.set_cons_zero, List.set_cons_succ]
    refine wpAnyIn_ready (rs := [1]) (by kernel_rfl) (by simp) ?_
    refine AllReadyIn.cons (o := { dst := some 10, op := Go.Op.load 44 (Go.Operand.tmp 4), type := 44, pos := "world.go:79", after := #[], guard := none }) rfl (fun K hK => ?_) AllReadyIn.nil
    have HK := Lib.hid hK
    clear hK
    go_simp
    refine HK.out _ _ ?_
    clear HK
    try simp only [Act.put, List.setIfInBounds_toArray, List.set_cons_zero, List.set_cons_succ]
    exact HF.out _ _ _ HJ.out.2 HJ.out.1 (by kernel_rfl) (by kernel_rfl) (by kernel_rfl)
  refine AllReadyIn.cons (o := { dst := some 10, op := Go.Op.load 44 (Go.Operand.tmp 4), type := 44, pos := "world.go:79", after := #[], guard := none }) rfl (fun K hK => ?_) ?_
  · skip
    have HK := Lib.hid hK
    clear hK
    go_simp
    refine HK.out _ _ ?_
    clear HK
    try simp only [Act.put, List.setIfInBounds_toArray, List.set_cons_zero, List.set_cons_succ]
    refine wpAnyIn_ready (rs := [0, 2, 3]) (by kernel_rfl) (by simp) ?_
    refine AllReadyIn.cons (o := { dst := some 9, op := Go.Op.load 90 (Go.Operand.tmp 2), type := 90, pos := "world.go:79", after := #[], guard := none }) rfl (fun K hK => ?_) ?_
    · skip
      have HK := Lib.hid hK
      clear hK
      go_simp
      refine HK.out _ _ ?_
      clear HK
      try simp only [Act.put, List.setIfInBounds_toArray, List.set_cons_zero, List.set_cons_succ]
      refine wpAnyIn_ready (rs := [2, 3]) (by kernel_rfl) (by simp) ?_
      refine AllReadyIn.cons (o := { dst := some 11, op := Go.Op.load 44 (Go.Operand.tmp 4), type := 44, pos := "world.go:79", after := #[], guard := none }) rfl (fun K hK => ?_) ?_
      · skip
        have HK := Lib.hid hK
        clear hK
        go_simp
        refine HK.out _ _ ?_
        clear HK
        try simp only [Act.put, List.setIfInBounds_toArray, List.set_cons_zero, List.set_cons_succ]
        refine wpAnyIn_ready (rs := [3]) (by kernel_rfl) (by simp) ?_
        refine AllReadyIn.cons (o := { dst := some 12, op := Go.Op.load 25 (Go.Operand.tmp 3), type := 25, pos := "world.go:79", after := #[], guard := none }) rfl (fun K hK => ?_) AllReadyIn.nil
        have HK := Lib.hid hK
        clear hK
        go_simp
        refine HK.out _ _ ?_
        clear HK
        try simp only [Act.put, List.setIfInBounds_toArray, List.set_cons_zero, List.set_cons_succ]
        refine wpAnyIn_ready (rs := [4]) (by kernel_rfl) (by simp) ?_
        refine AllReadyIn.cons (o := { dst := some 13, op := Go.Op.call { callee := Go.Callee.value (Go.Operand.func 59), args := #[Go.Operand.tmp 11, Go.Operand.tmp 12], argTypes := #[44, 25] }, type := 57, pos := "world.go:79", after := #[{ on := 2, ground := Go.Ground.data }, { on := 3, ground := Go.Ground.data }], guard := none }) rfl (fun K hK => ?_) AllReadyIn.nil
        have HK := Lib.hid hK
        clear hK
        go_simp
        refine ⟨trivial, ?_⟩
        refine (CallsIn.inRound l2 (callsIn_wide.2 HC.out)).mono ?_
        rintro e w1 ⟨v, rfl, hv, hb1⟩
        refine HK.out _ _ ?_
        have HJ := Lib.hid (And.intro hv hb1)
        obtain ⟨G2, G3, G4, G5⟩ := (HX.out.2.2.more hb1).var
        have G0 := cell_later hb1 HX.out.1
        clear HK hv hb1 G1 G1b G1c
        try simp only [Act.put, List.setIfInBounds_toArray, List.set_cons_zero, List.set_cons_succ]
        exact HF.out _ _ _ HJ.out.2 HJ.out.1 (by kernel_rfl) (by kernel_rfl) (by kernel_rfl)
      refine AllReadyIn.cons (o := { dst := some 12, op := Go.Op.load 25 (Go.Operand.tmp 3), type := 25, pos := "world.go:79", after := #[], guard := none }) rfl (fun K hK => ?_) AllReadyIn.nil
      have HK := Lib.hid hK
      clear hK
      go_simp
      refine HK.out _ _ ?_
      clear HK
      try simp only [Act.put, List.setIfInBounds_toArray, List.set_cons_zero, List.set_cons_succ]
      refine wpAnyIn_ready (rs := [2]) (by kernel_rfl) (by simp) ?_
      refine AllReadyIn.cons (o := { dst := some 11, op := Go.Op.load 44 (Go.Operand.tmp 4), type := 44, pos := "world.go:79", after := #[], guard := none }) rfl (fun K hK => ?_) AllReadyIn.nil
      have HK := Lib.hid hK
      clear hK
      go_simp
      refine HK.out _ _ ?_
      clear HK
      try simp only [Act.put, List.setIfInBounds_toArray, List.set_cons_zero, List.set_cons_succ]
      refine wpAnyIn_ready (rs := [4]) (by kernel_rfl) (by simp) ?_
      refine AllReadyIn.cons (o := { dst := some 13, op := Go.Op.call { callee := Go.Callee.value (Go.Operand.func 59), args := #[Go.Operand.tmp 11, Go.Operand.tmp 12], argTypes := #[44, 25] }, type := 57, pos := "world.go:79", after := #[{ on := 2, ground := Go.Ground.data }, { on := 3, ground := Go.Ground.data }], guard := none }) rfl (fun K hK => ?_) AllReadyIn.nil
      have HK := Lib.hid hK
      clear hK
      go_simp
      refine ⟨trivial, ?_⟩
      refine (CallsIn.inRound l2 (callsIn_wide.2 HC.out)).mono ?_
      rintro e w1 ⟨v, rfl, hv, hb1⟩
      refine HK.out _ _ ?_
      have HJ := Lib.hid (And.intro hv hb1)
      obtain ⟨G2, G3, G4, G5⟩ := (HX.out.2.2.more hb1).var
      have G0 := cell_later hb1 HX.out.1
      clear HK hv hb1 G1 G1b G1c
      try simp only [Act.put, List.setIfInBounds_toArray, List.set_cons_zero, List.set_cons_succ]
      exact HF.out _ _ _ HJ.out.2 HJ.out.1 (by kernel_rfl) (by kernel_rfl) (by kernel_rfl)
    refine AllReadyIn.cons (o := { dst := some 11, op := Go.Op.load 44 (Go.Operand.tmp 4), type := 44, pos := "world.go:79", after := #[], guard := none }) rfl (fun K hK => ?_) ?_
    · skip
      have HK := Lib.hid hK
      clear hK
      go_simp
      refine HK.out _ _ ?_
      clear HK
      try simp only [Act.put, List.setIfInBounds_toArray, List.set_cons_zero, List.set_cons_succ]
      refine wpAnyIn_ready (rs := [0, 3]) (by kernel_rfl) (by simp) ?_
      refine AllReadyIn.cons (o := { dst := some 9, op := Go.Op.load 90 (Go.Operand.tmp 2), type := 90, pos := "world.go:79", after := #[], guard := none }) rfl (fun K hK => ?_) ?_
      · skip
        have HK := Lib.hid hK
        clear hK
        go_simp
        refine HK.out _ _ ?_
        clear HK
        try simp only [Act.put, List.setIfInBounds_toArray, List.set_cons_zero, List.set_cons_succ]
        refine wpAnyIn_ready (rs := [3]) (by kernel_rfl) (by simp) ?_
        refine AllReadyIn.cons (o := { dst := some 12, op := Go.Op.load 25 (Go.Operand.tmp 3), type := 25, pos := "world.go:79", after := #[], guard := none }) rfl (fun K hK => ?_) AllReadyIn.nil
        have HK := Lib.hid hK
        clear hK
        go_simp
        refine HK.out _ _ ?_
        clear HK
        try simp only [Act.put, List.setIfInBounds_toArray, List.set_cons_zero, List.set_cons_succ]
        refine wpAnyIn_ready (rs := [4]) (by kernel_rfl) (by simp) ?_
        refine AllReadyIn.cons (o := { dst := some 13, op := Go.Op.call { callee := Go.Callee.value (Go.Operand.func 59), args := #[Go.Operand.tmp 11, Go.Operand.tmp 12], argTypes := #[44, 25] }, type := 57, pos := "world.go:79", after := #[{ on := 2, ground := Go.Ground.data }, { on := 3, ground := Go.Ground.data }], guard := none }) rfl (fun K hK => ?_) AllReadyIn.nil
        have HK := Lib.hid hK
        clear hK
        go_simp
        refine ⟨trivial, ?_⟩
        refine (CallsIn.inRound l2 (callsIn_wide.2 HC.out)).mono ?_
        rintro e w1 ⟨v, rfl, hv, hb1⟩
        refine HK.out _ _ ?_
        have HJ := Lib.hid (And.intro hv hb1)
        obtain ⟨G2, G3, G4, G5⟩ := (HX.out.2.2.more hb1).var
        have G0 := cell_later hb1 HX.out.1
        clear HK hv hb1 G1 G1b G1c
        try simp only [Act.put, List.setIfInBounds_toArray, List.set_cons_zero, List.set_cons_succ]
        exact HF.out _ _ _ HJ.out.2 HJ.out.1 (by kernel_rfl) (by kernel_rfl) (by kernel_rfl)
      refine AllReadyIn.cons (o := { dst := some 12, op := Go.Op.load 25 (Go.Operand.tmp 3), type := 25, pos := "world.go:79", after := #[], guard := none }) rfl (fun K hK => ?_) AllReadyIn.nil
      have HK := Lib.hid hK
      clear hK
      go_simp
      refine HK.out _ _ ?_
      clear HK
      try simp only [Act.put, List.setIfInBounds_toArray, List.set_cons_zero, List.set_cons_succ]
      refine wpAnyIn_ready (rs := [0, 4]) (by kernel_rfl) (by simp) ?_
      refine AllReadyIn.cons (o := { dst := some 9, op := Go.Op.load 90 (Go.Operand.tmp 2), type := 90, pos := "world.go:79", after := #[], guard := none }) rfl (fun K hK => ?_) ?_
      · skip
        have HK := Lib.hid hK
        clear hK
        go_simp
        refine HK.out _ _ ?_
        clear HK
        try simp only [Act.put, List.setIfInBounds_toArray, List.set_cons_zero, List.set_cons_succ]
        refine wpAnyIn_ready (rs := [4]) (by kernel_rfl) (by simp) ?_
        refine AllReadyIn.cons (o := { dst := some 13, op := Go.Op.call { callee := Go.Callee.value (Go.Operand.func 59), args := #[Go.Operand.tmp 11, Go.Operand.tmp 12], argTypes := #[44, 25] }, type := 57, pos := "world.go:79", after := #[{ on := 2, ground := Go.Ground.data }, { on := 3, ground := Go.Ground.data }], guard := none }) rfl (fun K hK => ?_) AllReadyIn.nil
        have HK := Lib.hid hK
        clear hK
        go_simp
        refine ⟨trivial, ?_⟩
        refine (CallsIn.inRound l2 (callsIn_wide.2 HC.out)).mono ?_
        rintro e w1 ⟨v, rfl, hv, hb1⟩
        refine HK.out _ _ ?_
        have HJ := Lib.hid (And.intro hv hb1)
        obtain ⟨G2, G3, G4, G5⟩ := (HX.out.2.2.more hb1).var
        have G0 := cell_later hb1 HX.out.1
        clear HK hv hb1 G1 G1b G1c
        try simp only [Act.put, List.setIfInBounds_toArray, List.set_cons_zero, List.set_cons_succ]
        exact HF.out _ _ _ HJ.out.2 HJ.out.1 (by kernel_rfl) (by kernel_rfl) (by kernel_rfl)
      refine AllReadyIn.cons (o := { dst := some 13, op := Go.Op.call { callee := Go.Callee.value (Go.Operand.func 59), args := #[Go.Operand.tmp 11, Go.Operand.tmp 12], argTypes := #[44, 25] }, type := 57, pos := "world.go:79", after := #[{ on := 2, ground := Go.Ground.data }, { on := 3, ground := Go.Ground.data }], guard := none }) rfl (fun K hK => ?_) AllReadyIn.nil
      have HK := Lib.hid hK
      clear hK
      go_simp
      refine ⟨trivial, ?_⟩
      refine (CallsIn.inRound l2 (callsIn_wide.2 HC.out)).mono ?_
      rintro e w1 ⟨v, rfl, hv, hb1⟩
      refine HK.out _ _ ?_
      have HJ := Lib.hid (And.intro hv hb1)
      obtain ⟨G2, G3, G4, G5⟩ := (HX.out.2.2.more hb1).var
      have G0 := cell_later hb1 HX.out.1
      clear HK hv hb1 G1 G1b G1c
      try simp only [Act.put, List.setIfInBounds_toArray, List.set_cons_zero, List.set_cons_succ]
      refine wpAnyIn_ready (rs := [0]) (by kernel_rfl) (by simp) ?_
      refine AllReadyIn.cons (o := { dst := some 9, op := Go.Op.load 90 (Go.Operand.tmp 2), type := 90, pos := "world.go:79", after := #[], guard := none }) rfl (fun K hK => ?_) AllReadyIn.nil
      have HK := Lib.hid hK
      clear hK
      go_simp
      refine HK.out _ _ ?_
      clear HK
      try simp only [Act.put, List.setIfInBounds_toArray, List.set_cons_zero, List.set_cons_succ]
      exact HF.out _ _ _ HJ.out.2 HJ.out.1 (by kernel_rfl) (by kernel_rfl) (by kernel_rfl)
    refine AllReadyIn.cons (o := { dst := some 12, op := Go.Op.load 25 (Go.Operand.tmp 3), type := 25, pos := "world.go:79", after := #[], guard := none }) rfl (fun K hK => ?_) AllReadyIn.nil
    have HK := Lib.hid hK
    clear hK
    go_simp
    refine HK.out _ _ ?_
    clear HK
    try simp only [Act.put, List.setIfInBounds_toArray, List.set_cons_zero, List.set_cons_succ]
    refine wpAnyIn_ready (rs := [0, 2]) (by kernel_rfl) (by simp) ?_
    refine AllReadyIn.cons (o := { dst := some 9, op := Go.Op.load 90 (Go.Operand.tmp 2), type := 90, pos := "world.go:79", after := #[], guard := none }) rfl (fun K hK => ?_) ?_
    · skip
      have HK := Lib.hid hK
      clear hK
      go_simp
      refine HK.out _ _ ?_
      clear HK
      try simp only [Act.put, List.setIfInBounds_toArray, List.set_cons_zero, List.set_cons_succ]
      refine wpAnyIn_ready (rs := [2]) (by kernel_rfl) (by simp) ?_
      refine AllReadyIn.cons (o := { dst := some 11, op := Go.Op.load 44 (Go.Operand.tmp 4), type := 44, pos := "world.go:79", after := #[], guard := none }) rfl (fun K hK => ?_) AllReadyIn.nil
      have HK := Lib.hid hK
      clear hK
      go_simp
      refine HK.out _ _ ?_
      clear HK
      try simp only [Act.put, List.setIfInBounds_toArray, List.set_cons_zero, List.set_cons_succ]
      refine wpAnyIn_ready (rs := [4]) (by kernel_rfl) (by simp) ?_
      refine AllReadyIn.cons (o := { dst := some 13, op := Go.Op.call { callee := Go.Callee.value (Go.Operand.func 59), args := #[Go.Operand.tmp 11, Go.Operand.tmp 12], argTypes := #[44, 25] }, type := 57, pos := "world.go:79", after := #[{ on := 2, ground := Go.Ground.data }, { on := 3, ground := Go.Ground.data }], guard := none }) rfl (fun K hK => ?_) AllReadyIn.nil
      have HK := Lib.hid hK
      clear hK
      go_simp
      refine ⟨trivial, ?_⟩
      refine (CallsIn.inRound l2 (callsIn_wide.2 HC.out)).mono ?_
      rintro e w1 ⟨v, rfl, hv, hb1⟩
      refine HK.out _ _ ?_
      have HJ := Lib.hid (And.intro hv hb1)
      obtain ⟨G2, G3, G4, G5⟩ := (HX.out.2.2.more hb1).var
      have G0 := cell_later hb1 HX.out.1
      clear HK hv hb1 G1 G1b G1c
      try simp only [Act.put, List.setIfInBounds_toArray, List.set_cons_zero, List.set_cons_succ]
      exact HF.out _ _ _ HJ.out.2 HJ.out.1 (by kernel_rfl) (by kernel_rfl) (by kernel_rfl)
    refine AllReadyIn.cons (o := { dst := some 11, op := Go.Op.load 44 (Go.Operand.tmp 4), type := 44, pos := "world.go:79", after := #[], guard := none }) rfl (fun K hK => ?_) AllReadyIn.nil
    have HK := Lib.hid hK
    clear hK
    go_simp
    refine HK.out _ _ ?_
    clear HK
    try simp only [Act.put, List.setIfInBounds_toArray, List.set_cons_zero, List.set_cons_succ]
    refine wpAnyIn_ready (rs := [0, 4]) (by kernel_rfl) (by simp) ?_
    refine AllReadyIn.cons (o := { dst := some 9, op := Go.Op.load 90 (Go.Operand.tmp 2), type := 90, pos := "world.go:79", after := #[], guard := none }) rfl (fun K hK => ?_) ?_
    · skip
      have HK := Lib.hid hK
      clear hK
      go_simp
      refine HK.out _ _ ?_
      clear HK
      try simp only [Act.put, List.setIfInBounds_toArray, List.set_cons_zero, List.set_cons_succ]
      refine wpAnyIn_ready (rs := [4]) (by kernel_rfl) (by simp) ?_
      refine AllReadyIn.cons (o := { dst := some 13, op := Go.Op.call { callee := Go.Callee.value (Go.Operand.func 59), args := #[Go.Operand.tmp 11, Go.Operand.tmp 12], argTypes := #[44, 25] }, type := 57, pos := "world.go:79", after := #[{ on := 2, ground := Go.Ground.data }, { on := 3, ground := Go.Ground.data }], guard := none }) rfl (fun K hK => ?_) AllReadyIn.nil
      have HK := Lib.hid hK
      clear hK
      go_simp
      refine ⟨trivial, ?_⟩
      refine (CallsIn.inRound l2 (callsIn_wide.2 HC.out)).mono ?_
      rintro e w1 ⟨v, rfl, hv, hb1⟩
      refine HK.out _ _ ?_
      have HJ := Lib.hid (And.intro hv hb1)
      obtain ⟨G2, G3, G4, G5⟩ := (HX.out.2.2.more hb1).var
      have G0 := cell_later hb1 HX.out.1
      clear HK hv hb1 G1 G1b G1c
      try simp only [Act.put, List.setIfInBounds_toArray, List.set_cons_zero, List.set_cons_succ]
      exact HF.out _ _ _ HJ.out.2 HJ.out.1 (by kernel_rfl) (by kernel_rfl) (by kernel_rfl)
    refine AllReadyIn.cons (o := { dst := some 13, op := Go.Op.call { callee := Go.Callee.value (Go.Operand.func 59), args := #[Go.Operand.tmp 11, Go.Operand.tmp 12], argTypes := #[44, 25] }, type := 57, pos := "world.go:79", after := #[{ on := 2, ground := Go.Ground.data }, { on := 3, ground := Go.Ground.data }], guard := none }) rfl (fun K hK => ?_) AllReadyIn.nil
    have HK := Lib.hid hK
    clear hK
    go_simp
    refine ⟨trivial, ?_⟩
    refine (CallsIn.inRound l2 (callsIn_wide.2 HC.out)).mono ?_
    rintro e w1 ⟨v, rfl, hv, hb1⟩
    refine HK.out _ _ ?_
    have HJ := Lib.hid (And.intro hv hb1)
    obtain ⟨G2, G3, G4, G5⟩ := (HX.out.2.2.more hb1).var
    have G0 := cell_later hb1 HX.out.1
    clear HK hv hb1 G1 G1b G1c
    try simp only [Act.put, List.setIfInBounds_toArray, List.set_cons_zero, List.set_cons_succ]
    refine wpAnyIn_ready (rs := [0]) (by kernel_rfl) (by simp) ?_
    refine AllReadyIn.cons (o := { dst := some 9, op := Go.Op.load 90 (Go.Operand.tmp 2), type := 90, pos := "world.go:79", after := #[], guard := none }) rfl (fun K hK => ?_) AllReadyIn.nil
    have HK := Lib.hid hK
    clear hK
    go_simp
    refine HK.out _ _ ?_
    clear HK
    try simp only [Act.put, List.setIfInBounds_toArray, List.set_cons_zero, List.set_cons_succ]
    exact HF.out _ _ _ HJ.out.2 HJ.out.1 (by kernel_rfl) (by kernel_rfl) (by kernel_rfl)
  refine AllReadyIn.cons (o := { dst := some 11, op := Go.Op.load 44 (Go.Operand.tmp 4), type := 44, pos := "world.go:79", after := #[], guard := none }) rfl (fun K hK => ?_) ?_
  · skip
    have HK := Lib.hid hK
    clear hK
    go_simp
    refine HK.out _ _ ?_
    clear HK
    try simp only [Act.put, List.setIfInBounds_toArray, List.set_cons_zero, List.set_cons_succ]
    refine wpAnyIn_ready (rs := [0, 1, 3]) (by kernel_rfl) (by simp) ?_
    refine AllReadyIn.cons (o := { dst := some 9, op := Go.Op.load 90 (Go.Operand.tmp 2), type := 90, pos := "world.go:79", after := #[], guard := none }) rfl (fun K hK => ?_) ?_
    · skip
      have HK := Lib.hid hK
      clear hK
      go_simp
      refine HK.out _ _ ?_
      clear HK
      try simp only [Act.put, List.setIfInBounds_toArray, List.set_cons_zero, List.set_cons_succ]
      refine wpAnyIn_ready (rs := [1, 3]) (by kernel_rfl) (by simp) ?_
      refine AllReadyIn.cons (o := { dst := some 10, op := Go.Op.load 44 (Go.Operand.tmp 4), type := 44, pos := "world.go:79", after := #[], guard := none }) rfl (fun K hK => ?_) ?_
      · skip
        have HK := Lib.hid hK
        clear hK
        go_simp
        refine HK.out _ _ ?_
        clear HK
        try simp only [Act.put, List.setIfInBounds_toArray, List.set_cons_zero, List.set_cons_succ]
        refine wpAnyIn_ready (rs := [3]) (by kernel_rfl) (by simp) ?_
        refine AllReadyIn.cons (o := { dst := some 12, op := Go.Op.load 25 (Go.Operand.tmp 3), type := 25, pos := "world.go:79", after := #[], guard := none }) rfl (fun K hK => ?_) AllReadyIn.nil
        have HK := Lib.hid hK
        clear hK
        go_simp
        refine HK.out _ _ ?_
        clear HK
        try simp only [Act.put, List.setIfInBounds_toArray, List.set_cons_zero, List.set_cons_succ]
        refine wpAnyIn_ready (rs := [4]) (by kernel_rfl) (by simp) ?_
        refine AllReadyIn.cons (o := { dst := some 13, op := Go.Op.call { callee := Go.Callee.value (Go.Operand.func 59), args := #[Go.Operand.tmp 11, Go.Operand.tmp 12], argTypes := #[44, 25] }, type := 57, pos := "world.go:79", after := #[{ on := 2, ground := Go.Ground.data }, { on := 3, ground := Go.Ground.data }], guard := none }) rfl (fun K hK => ?_) AllReadyIn.nil
        have HK := Lib.hid hK
        clear hK
        go_simp
        refine ⟨trivial, ?_⟩
        refine (CallsIn.inRound l2 (callsIn_wide.2 HC.out)).mono ?_
        rintro e w1 ⟨v, rfl, hv, hb1⟩
        refine HK.out _ _ ?_
        have HJ := Lib.hid (And.intro hv hb1)
        obtain ⟨G2, G3, G4, G5⟩ := (HX.out.2.2.more hb1).var
        have G0 := cell_later hb1 HX.out.1
        clear HK hv hb1 G1 G1b G1c
        try simp only [Act.put, List.setIfInBounds_toArray, List.set_cons_zero, List.set_cons_succ]
        exact HF.out _ _ _ HJ.out.2 HJ.out.1 (by kernel_rfl) (by kernel_rfl) (by kernel_rfl)
      refine AllReadyIn.cons (o := { dst := some 12, op := Go.Op.load 25 (Go.Operand.tmp 3), type := 25, pos := "world.go:79", after := #[], guard := none }) rfl (fun K hK => ?_) AllReadyIn.nil
      have HK := Lib.hid hK
      clear hK
      go_simp
      refine HK.out _ _ ?_
      clear HK
      try simp only [Act.put, List.setIfInBounds_toArray, List.set_cons_zero, List.set_cons_succ]
      refine wpAnyIn_ready (rs := [1, 4]) (by kernel_rfl) (by simp) ?_
      refine AllReadyIn.cons (o := { dst := some 10, op := Go.Op.load 44 (Go.Operand.tmp 4), type := 44, pos := "world.go:79", after := #[], guard := none }) rfl (fun K hK => ?_) ?_
      · skip
        have HK := Lib.hid hK
        clear hK
        go_simp
        refine HK.out _ _ ?_
        clear HK
        try simp only [Act.put, List.setIfInBounds_toArray, List.set_cons_zero, List.set_cons_succ]
        refine wpAnyIn_ready (rs := [4]) (by kernel_rfl) (by simp) ?_
        refine AllReadyIn.cons (o := { dst := some 13, op := Go.Op.call { callee := Go.Callee.value (Go.Operand.func 59), args := #[Go.Operand.tmp 11, Go.Operand.tmp 12], argTypes := #[44, 25] }, type := 57, pos := "world.go:79", after := #[{ on := 2, ground := Go.Ground.data }, { on := 3, ground := Go.Ground.data }], guard := none }) rfl (fun K hK => ?_) AllReadyIn.nil
        have HK := Lib.hid hK
        clear hK
        go_simp
        refine ⟨trivial, ?_⟩
        refine (CallsIn.inRound l2 (callsIn_wide.2 HC.out)).mono ?_
        rintro e w1 ⟨v, rfl, hv, hb1⟩
        refine HK.out _ _ ?_
        have HJ := Lib.hid (And.intro hv hb1)
        obtain ⟨G2, G3, G4, G5⟩ := (HX.out.2.2.more hb1).var
        have G0 := cell_later hb1 HX.out.1
        clear HK hv hb1 G1 G1b G1c
        try simp only [Act.put, List.setIfInBounds_toArray, List.set_cons_zero, List.set_cons_succ]
        exact HF.out _ _ _ HJ.out.2 HJ.out.1 (by kernel_rfl) (by kernel_rfl) (by kernel_rfl)
      refine AllReadyIn.cons (o := { dst := some 13, op := Go.Op.call { callee := Go.Callee.value (Go.Operand.func 59), args := #[Go.Operand.tmp 11, Go.Operand.tmp 12], argTypes := #[44, 25] }, type := 57, pos := "world.go:79", after := #[{ on := 2, ground := Go.Ground.data }, { on := 3, ground := Go.Ground.data }], guard := none }) rfl (fun K hK => ?_) AllReadyIn.nil
      have HK := Lib.hid hK
      clear hK
      go_simp
      refine ⟨trivial, ?_⟩
      refine (CallsIn.inRound l2 (callsIn_wide.2 HC.out)).mono ?_
      rintro e w1 ⟨v, rfl, hv, hb1⟩
      refine HK.out _ _ ?_
      have HJ := Lib.hid (And.intro hv hb1)
      obtain ⟨G2, G3, G4, G5⟩ := (HX.out.2.2.more hb1).var
      have G0 := cell_later hb1 HX.out.1
      clear HK hv hb1 G1 G1b G1c
      try simp only [Act.put, List.setIfInBounds_toArray, List.set_cons_zero, List.set_cons_succ]
      refine wpAnyIn_ready (rs := [1]) (by kernel_rfl) (by simp) ?_
      refine AllReadyIn.cons (o := { dst := some 10, op := Go.Op.load 44 (Go.Operand.tmp 4), type := 44, pos := "world.go:79", after := #[], guard := none }) rfl (fun K hK => ?_) AllReadyIn.nil
      have HK := Lib.hid hK
      clear hK
      go_simp
      refine HK.out _ _ ?_
      clear HK
      try simp only [Act.put, List.setIfInBounds_toArray, List.set_cons_zero, List.set_cons_succ]
      exact HF.out _ _ _ HJ.out.2 HJ.out.1 (by kernel_rfl) (by kernel_rfl) (by kernel_rfl)
    refine AllReadyIn.cons (o := { dst := some 10, op := Go.Op.load 44 (Go.Operand.tmp 4), type := 44, pos := "world.go:79", after := #[], guard := none }) rfl (fun K hK => ?_) ?_
    · skip
      have HK := Lib.hid hK
      clear hK
      go_simp
      refine HK.out _ _ ?_
      clear HK
      try simp only [Act.put, List.setIfInBounds_toArray, List.set_cons_zero, List.set_cons_succ]
      refine wpAnyIn_ready (rs := [0, 3]) (by kernel_rfl) (by simp) ?_
      refine AllReadyIn.cons (o := { dst := some 9, op := Go.Op.load 90 (Go.Operand.tmp 2), type := 90, pos := "world.go:79", after := #[], guard := none }) rfl (fun K hK => ?_) ?_
      · skip
        have HK := Lib.hid hK
        clear hK
        go_simp
        refine HK.out _ _ ?_
        clear HK
        try simp only [Act.put, List.setIfInBounds_toArray, List.set_cons_zero, List.set_cons_succ]
        refine wpAnyIn_ready (rs := [3]) (by kernel_rfl) (by simp) ?_
        refine AllReadyIn.cons (o := { dst := some 12, op := Go.Op.load 25 (Go.Operand.tmp 3), type := 25, pos := "world.go:79", after := #[], guard := none }) rfl (fun K hK => ?_) AllReadyIn.nil
        have HK := Lib.hid hK
        clear hK
        go_simp
        refine HK.out _ _ ?_
        clear HK
        try simp only [Act.put, List.setIfInBounds_toArray, List.set_cons_zero, List.set_cons_succ]
        refine wpAnyIn_ready (rs := [4]) (by kernel_rfl) (by simp) ?_
        refine AllReadyIn.cons (o := { dst := some 13, op := Go.Op.call { callee := Go.Callee.value (Go.Operand.func 59), args := #[Go.Operand.tmp 11, Go.Operand.tmp 12], argTypes := #[44, 25] }, type := 57, pos := "world.go:79", after := #[{ on := 2, ground := Go.Ground.data }, { on := 3, ground := Go.Ground.data }], guard := none }) rfl (fun K hK => ?_) AllReadyIn.nil
        have HK := Lib.hid hK
        clear hK
        go_simp
        refine ⟨trivial, ?_⟩
        refine (CallsIn.inRound l2 (callsIn_wide.2 HC.out)).mono ?_
        rintro e w1 ⟨v, rfl, hv, hb1⟩
        refine HK.out _ _ ?_
        have HJ := Lib.hid (And.intro hv hb1)
        obtain ⟨G2, G3, G4, G5⟩ := (HX.out.2.2.more hb1).var
        have G0 := cell_later hb1 HX.out.1
        clear HK hv hb1 G1 G1b G1c
        try simp only [Act.put, List.setIfInBounds_toArray, List.set_cons_zero, List.set_cons_succ]
        exact HF.out _ _ _ HJ.out.2 HJ.out.1 (by kernel_rfl) (by kernel_rfl) (by kernel_rfl)
      refine AllReadyIn.cons (o := { dst := some 12, op := Go.Op.load 25 (Go.Operand.tmp 3), type := 25, pos := "world.go:79", after := #[], guard := none }) rfl (fun K hK => ?_) AllReadyIn.nil
      have HK := Lib.hid hK
      clear hK
      go_simp
      refine HK.out _ _ ?_
      clear HK
      try simp only [Act.put, List.setIfInBounds_toArray, List.set_cons_zero, List.set_cons_succ]
      refine wpAnyIn_ready (rs := [0, 4]) (by kernel_rfl) (by simp) ?_
      refine AllReadyIn.cons (o := { dst := some 9, op := Go.Op.load 90 (Go.Operand.tmp 2), type := 90, pos := "world.go:79", after := #[], guard := none }) rfl (fun K hK => ?_) ?_
      · skip
        have HK := Lib.hid hK
        clear hK
        go_simp
        refine HK.out _ _ ?_
        clear HK
        try simp only [Act.put, List.setIfInBounds_toArray, List.set_cons_zero, List.set_cons_succ]
        refine wpAnyIn_ready (rs := [4]) (by kernel_rfl) (by simp) ?_
        refine AllReadyIn.cons (o := { dst := some 13, op := Go.Op.call { callee := Go.Callee.value (Go.Operand.func 59), args := #[Go.Operand.tmp 11, Go.Operand.tmp 12], argTypes := #[44, 25] }, type := 57, pos := "world.go:79", after := #[{ on := 2, ground := Go.Ground.data }, { on := 3, ground := Go.Ground.data }], guard := none }) rfl (fun K hK => ?_) AllReadyIn.nil
        have HK := Lib.hid hK
        clear hK
        go_simp
        refine ⟨trivial, ?_⟩
        refine (CallsIn.inRound l2 (callsIn_wide.2 HC.out)).mono ?_
        rintro e w1 ⟨v, rfl, hv, hb1⟩
        refine HK.out _ _ ?_
        have HJ := Lib.hid (And.intro hv hb1)
        obtain ⟨G2, G3, G4, G5⟩ := (HX.out.2.2.more hb1).var
        have G0 := cell_later hb1 HX.out.1
        clear HK hv hb1 G1 G1b G1c
        try simp only [Act.put, List.setIfInBounds_toArray, List.set_cons_zero, List.set_cons_succ]
        exact HF.out _ _ _ HJ.out.2 HJ.out.1 (by kernel_rfl) (by kernel_rfl) (by kernel_rfl)
      refine AllReadyIn.cons (o := { dst := some 13, op := Go.Op.call { callee := Go.Callee.value (Go.Operand.func 59), args := #[Go.Operand.tmp 11, Go.Operand.tmp 12], argTypes := #[44, 25] }, type := 57, pos := "world.go:79", after := #[{ on := 2, ground := Go.Ground.data }, { on := 3, ground := Go.Ground.data }], guard := none }) rfl (fun K hK => ?_) AllReadyIn.nil
      have HK := Lib.hid hK
      clear hK
      go_simp
      refine ⟨trivial, ?_⟩
      refine (CallsIn.inRound l2 (callsIn_wide.2 HC.out)).mono ?_
      rintro e w1 ⟨v, rfl, hv, hb1⟩
      refine HK.out _ _ ?_
      have HJ := Lib.hid (And.intro hv hb1)
      obtain ⟨G2, G3, G4, G5⟩ := (HX.out.2.2.more hb1).var
      have G0 := cell_later hb1 HX.out.1
      clear HK hv hb1 G1 G1b G1c
      try simp only [Act.put, List.setIfInBounds_toArray, List.set_cons_zero, List.set_cons_succ]
      refine wpAnyIn_ready (rs := [0]) (by kernel_rfl) (by simp) ?_
      refine AllReadyIn.cons (o := { dst := some 9, op := Go.Op.load 90 (Go.Operand.tmp 2), type := 90, pos := "world.go:79", after := #[], guard := none }) rfl (fun K hK => ?_) AllReadyIn.nil
      have HK := Lib.hid hK
      clear hK
      go_simp
      refine HK.out _ _ ?_
      clear HK
      try simp only [Act.put, List.setIfInBounds_toArray, List.set_cons_zero, List.set_cons_succ]
      exact HF.out _ _ _ HJ.out.2 HJ.out.1 (by kernel_rfl) (by kernel_rfl) (by kernel_rfl)
    refine AllReadyIn.cons (o := { dst := some 12, op := Go.Op.load 25 (Go.Operand.tmp 3), type := 25, pos := "world.go:79", after := #[], guard := none }) rfl (fun K hK => ?_) AllReadyIn.nil
    have HK := Lib.hid hK
    clear hK
    go_simp
    refine HK.out _ _ ?_
    clear HK
    try simp only [Act.put, List.setIfInBounds_toArray, List.set_cons_zero, List.set_cons_succ]
    refine wpAnyIn_ready (rs := [0, 1, 4]) (by kernel_rfl) (by simp) ?_
    refine AllReadyIn.cons (o := { dst := some 9, op := Go.Op.load 90 (Go.Operand.tmp 2), type := 90, pos := "world.go:79", after := #[], guard := none }) rfl (fun K hK => ?_) ?_
    · skip
      have HK := Lib.hid hK
      clear hK
      go_simp
      refine HK.out _ _ ?_
      clear HK
      try simp only [Act.put, List.setIfInBounds_toArray, List.set_cons_zero, List.set_cons_succ]
      refine wpAnyIn_ready (rs := [1, 4]) (by kernel_rfl) (by simp) ?_
      refine AllReadyIn.cons (o := { dst := some 10, op := Go.Op.load 44 (Go.Operand.tmp 4), type := 44, pos := "world.go:79", after := #[], guard := none }) rfl (fun K hK => ?_) ?_
      · skip
        have HK := Lib.hid hK
        clear hK
        go_simp
        refine HK.out _ _ ?_
        clear HK
        try simp only [Act.put, List.setIfInBounds_toArray, List.set_cons_zero, List.set_cons_succ]
        refine wpAnyIn_ready (rs := [4]) (by kernel_rfl) (by simp) ?_
        refine AllReadyIn.cons (o := { dst := some 13, op := Go.Op.call { callee := Go.Callee.value (Go.Operand.func 59), args := #[Go.Operand.tmp 11, Go.Operand.tmp 12], argTypes := #[44, 25] }, type := 57, pos := "world.go:79", after := #[{ on := 2, ground := Go.Ground.data }, { on := 3, ground := Go.Ground.data }], guard := none }) rfl (fun K hK => ?_) AllReadyIn.nil
        have HK := Lib.hid hK
        clear hK
        go_simp
        refine ⟨trivial, ?_⟩
        refine (CallsIn.inRound l2 (callsIn_wide.2 HC.out)).mono ?_
        rintro e w1 ⟨v, rfl, hv, hb1⟩
        refine HK.out _ _ ?_
        have HJ := Lib.hid (And.intro hv hb1)
        obtain ⟨G2, G3, G4, G5⟩ := (HX.out.2.2.more hb1).var
        have G0 := cell_later hb1 HX.out.1
        clear HK hv hb1 G1 G1b G1c
        try simp only [Act.put, List.setIfInBounds_toArray, List.set_cons_zero, List.set_cons_succ]
        exact HF.out _ _ _ HJ.out.2 HJ.out.1 (by kernel_rfl) (by kernel_rfl) (by kernel_rfl)
      refine AllReadyIn.cons (o := { dst := some 13, op := Go.Op.call { callee := Go.Callee.value (Go.Operand.func 59), args := #[Go.Operand.tmp 11, Go.Operand.tmp 12], argTypes := #[44, 25] }, type := 57, pos := "world.go:79", after := #[{ on := 2, ground := Go.Ground.data }, { on := 3, ground := Go.Ground.data }], guard := none }) rfl (fun K hK => ?_) AllReadyIn.nil
      have HK := Lib.hid hK
      clear hK
      go_simp
      refine ⟨trivial, ?_⟩
      refine (CallsIn.inRound l2 (callsIn_wide.2 HC.out)).mono ?_
      rintro e w1 ⟨v, rfl, hv, hb1⟩
      refine HK.out _ _ ?_
      have HJ := Lib.hid (And.intro hv hb1)
      obtain ⟨G2, G3, G4, G5⟩ := (HX.out.2.2.more hb1).var
      have G0 := cell_later hb1 HX.out.1
      clear HK hv hb1 G1 G1b G1c
      try simp only [Act.put, List.setIfInBounds_toArray, List.set_cons_zero, List.set_cons_succ]
      refine wpAnyIn_ready (rs := [1]) (by kernel_rfl) (by simp) ?_
      refine AllReadyIn.cons (o := { dst := some 10, op := Go.Op.load 44 (Go.Operand.tmp 4), type := 44, pos := "world.go:79", after := #[], guard := none }) rfl (fun K hK => ?_) AllReadyIn.nil
      have HK := Lib.hid hK
      clear hK
      go_simp
      refine HK.out _ _ ?_
      clear HK
      try simp only [Act.put, List.setIfInBounds_toArray, List.set_cons_zero, List.set_cons_succ]
      exact HF.out _ _ _ HJ.out.2 HJ.out.1 (by kernel_rfl) (by kernel_rfl) (by kernel_rfl)
    refine AllReadyIn.cons (o := { dst := some 10, op := Go.Op.load 44 (Go.Operand.tmp 4), type := 44, pos := "world.go:79", after := #[], guard := none }) rfl (fun K hK => ?_) ?_
    · skip
      have HK := Lib.hid hK
      clear hK
      go_simp
      refine HK.out _ _ ?_
      clear HK
      try simp only [Act.put, List.setIfInBounds_toArray, List.set_cons_zero, List.set_cons_succ]
      refine wpAnyIn_ready (rs := [0, 4]) (by kernel_rfl) (by simp) ?_
      refine AllReadyIn.cons (o := { dst := some 9, op := Go.Op.load 90 (Go.Operand.tmp 2), type := 90, pos := "world.go:79", after := #[], guard := none }) rfl (fun K hK => ?_) ?_
      · skip
        have HK := Lib.hid hK
        clear hK
        go_simp
        refine HK.out _ _ ?_
        clear HK
        try simp only [Act.put, List.setIfInBounds_toArray, List.set_cons_zero, List.set_cons_succ]
        refine wpAnyIn_ready (rs := [4]) (by kernel_rfl) (by simp) ?_
        refine AllReadyIn.cons (o := { dst := some 13, op := Go.Op.call { callee := Go.Callee.value (Go.Operand.func 59), args := #[Go.Operand.tmp 11, Go.Operand.tmp 12], argTypes := #[44, 25] }, type := 57, pos := "world.go:79", after := #[{ on := 2, ground := Go.Ground.data }, { on := 3, ground := Go.Ground.data }], guard := none }) rfl (fun K hK => ?_) AllReadyIn.nil
        have HK := Lib.hid hK
        clear hK
        go_simp
        refine ⟨trivial, ?_⟩
        refine (CallsIn.inRound l2 (callsIn_wide.2 HC.out)).mono ?_
        rintro e w1 ⟨v, rfl, hv, hb1⟩
        refine HK.out _ _ ?_
        have HJ := Lib.hid (And.intro hv hb1)
        obtain ⟨G2, G3, G4, G5⟩ := (HX.out.2.2.more hb1).var
        have G0 := cell_later hb1 HX.out.1
        clear HK hv hb1 G1 G1b G1c
        try simp only [Act.put, List.setIfInBounds_toArray, List.set_cons_zero, List.set_cons_succ]
        exact HF.out _ _ _ HJ.out.2 HJ.out.1 (by kernel_rfl) (by kernel_rfl) (by kernel_rfl)
      refine AllReadyIn.cons (o := { dst := some 13, op := Go.Op.call { callee := Go.Callee.value (Go.Operand.func 59), args := #[Go.Operand.tmp 11, Go.Operand.tmp 12], argTypes := #[44, 25] }, type := 57, pos := "world.go:79", after := #[{ on := 2, ground := Go.Ground.data }, { on := 3, ground := Go.Ground.data }], guard := none }) rfl (fun K hK => ?_) AllReadyIn.nil
      have HK := Lib.hid hK
      clear hK
      go_simp
      refine ⟨trivial, ?_⟩
      refine (CallsIn.inRound l2 (callsIn_wide.2 HC.out)).mono ?_
      rintro e w1 ⟨v, rfl, hv, hb1⟩
      refine HK.out _ _ ?_
      have HJ := Lib.hid (And.intro hv hb1)
      obtain ⟨G2, G3, G4, G5⟩ := (HX.out.2.2.more hb1).var
      have G0 := cell_later hb1 HX.out.1
      clear HK hv hb1 G1 G1b G1c
      try simp only [Act.put, List.setIfInBounds_toArray, List.set_cons_zero, List.set_cons_succ]
      refine wpAnyIn_ready (rs := [0]) (by kernel_rfl) (by simp) ?_
      refine AllReadyIn.cons (o := { dst := some 9, op := Go.Op.load 90 (Go.Operand.tmp 2), type := 90, pos := "world.go:79", after := #[], guard := none }) rfl (fun K hK => ?_) AllReadyIn.nil
      have HK := Lib.hid hK
      clear hK
      go_simp
      refine HK.out _ _ ?_
      clear HK
      try simp only [Act.put, List.setIfInBounds_toArray, List.set_cons_zero, List.set_cons_succ]
      exact HF.out _ _ _ HJ.out.2 HJ.out.1 (by kernel_rfl) (by kernel_rfl) (by kernel_rfl)
    refine AllReadyIn.cons (o := { dst := some 13, op := Go.Op.call { callee := Go.Callee.value (Go.Operand.func 59), args := #[Go.Operand.tmp 11, Go.Operand.tmp 12], argTypes := #[44, 25] }, type := 57, pos := "world.go:79", after := #[{ on := 2, ground := Go.Ground.data }, { on := 3, ground := Go.Ground.data }], guard := none }) rfl (fun K hK => ?_) AllReadyIn.nil
    have HK := Lib.hid hK
    clear hK
    go_simp
    refine ⟨trivial, ?_⟩
    refine (CallsIn.inRound l2 (callsIn_wide.2 HC.out)).mono ?_
    rintro e w1 ⟨v, rfl, hv, hb1⟩
    refine HK.out _ _ ?_
    have HJ := Lib.hid (And.intro hv hb1)
    obtain ⟨G2, G3, G4, G5⟩ := (HX.out.2.2.more hb1).var
    have G0 := cell_later hb1 HX.out.1
    clear HK hv hb1 G1 G1b G1c
    try simp only [Act.put, List.setIfInBounds_toArray, List.set_cons_zero, List.set_cons_succ]
    refine wpAnyIn_ready (rs := [0, 1]) (by kernel_rfl) (by simp) ?_
    refine AllReadyIn.cons (o := { dst := some 9, op := Go.Op.load 90 (Go.Operand.tmp 2), type := 90, pos := "world.go:79", after := #[], guard := none }) rfl (fun K hK => ?_) ?_
    · skip
      have HK := Lib.hid hK
      clear hK
      go_simp
      refine HK.out _ _ ?_
      clear HK
      try simp only [Act.put, List.setIfInBounds_toArray, List.set_cons_zero, List.set_cons_succ]
      refine wpAnyIn_ready (rs := [1]) (by kernel_rfl) (by simp) ?_
      refine AllReadyIn.cons (o := { dst := some 10, op := Go.Op.load 44 (Go.Operand.tmp 4), type := 44, pos := "world.go:79", after := #[], guard := none }) rfl (fun K hK => ?_) AllReadyIn.nil
      have HK := Lib.hid hK
      clear hK
      go_simp
      refine HK.out _ _ ?_
      clear HK
      try simp only [Act.put, List.setIfInBounds_toArray, List.set_cons_zero, List.set_cons_succ]
      exact HF.out _ _ _ HJ.out.2 HJ.out.1 (by kernel_rfl) (by kernel_rfl) (by kernel_rfl)
    refine AllReadyIn.cons (o := { dst := some 10, op := Go.Op.load 44 (Go.Operand.tmp 4), type := 44, pos := "world.go:79", after := #[], guard := none }) rfl (fun K hK => ?_) AllReadyIn.nil
    have HK := Lib.hid hK
    clear hK
    go_simp
    refine HK.out _ _ ?_
    clear HK
    try simp only [Act.put, List.setIfInBounds_toArray, List.set_cons_zero, List.set_cons_succ]
    refine wpAnyIn_ready (rs := [0]) (by kernel_rfl) (by simp) ?_
    refine AllReadyIn.cons (o := { dst := some 9, op := Go.Op.load 90 (Go.Operand.tmp 2), type := 90, pos := "world.go:79", after := #[], guard := none }) rfl (fun K hK => ?_) AllReadyIn.nil
    have HK := Lib.hid hK
    clear hK
    go_simp
    refine HK.out _ _ ?_
    clear HK
    try simp only [Act.put, List.setIfInBounds_toArray, List.set_cons_zero, List.set_cons_succ]
    exact HF.out _ _ _ HJ.out.2 HJ.out.1 (by kernel_rfl) (by kernel_rfl) (by kernel_rfl)
  refine AllReadyIn.cons (o := { dst := some 12, op := Go.Op.load 25 (Go.Operand.tmp 3), type := 25, pos := "world.go:79", after := #[], guard := none }) rfl (fun K hK => ?_) AllReadyIn.nil
  have HK := Lib.hid hK
  clear hK
  go_simp
  refine HK.out _ _ ?_
  clear HK
  try simp only [Act.put, List.setIfInBounds_toArray, List.set_cons_zero, List.set_cons_succ]
  refine wpAnyIn_ready (rs := [0, 1, 2]) (by kernel_rfl) (by simp) ?_
  refine AllReadyIn.cons (o := { dst := some 9, op := Go.Op.load 90 (Go.Operand.tmp 2), type := 90, pos := "world.go:79", after := #[], guard := none }) rfl (fun K hK => ?_) ?_
  · skip
    have HK := Lib.hid hK
    clear hK
    go_simp
    refine HK.out _ _ ?_
    clear HK
    try simp only [Act.put, List.setIfInBounds_toArray, List.set_cons_zero, List.set_cons_succ]
    refine wpAnyIn_ready (rs := [1, 2]) (by kernel_rfl) (by simp) ?_
    refine AllReadyIn.cons (o := { dst := some 10, op := Go.Op.load 44 (Go.Operand.tmp 4), type := 44, pos := "world.go:79", after := #[], guard := none }) rfl (fun K hK => ?_) ?_
    · skip
      have HK := Lib.hid hK
      clear hK
      go_simp
      refine HK.out _ _ ?_
      clear HK
      try simp only [Act.put, List.setIfInBounds_toArray, List.set_cons_zero, List.set_cons_succ]
      refine wpAnyIn_ready (rs := [2]) (by kernel_rfl) (by simp) ?_
      refine AllReadyIn.cons (o := { dst := some 11, op := Go.Op.load 44 (Go.Operand.tmp 4), type := 44, pos := "world.go:79", after := #[], guard := none }) rfl (fun K hK => ?_) AllReadyIn.nil
      have HK := Lib.hid hK
      clear hK
      go_simp
      refine HK.out _ _ ?_
      clear HK
      try simp only [Act.put, List.setIfInBounds_toArray, List.set_cons_zero, List.set_cons_succ]
      refine wpAnyIn_ready (rs := [4]) (by kernel_rfl) (by simp) ?_
      refine AllReadyIn.cons (o := { dst := some 13, op := Go.Op.call { callee := Go.Callee.value (Go.Operand.func 59), args := #[Go.Operand.tmp 11, Go.Operand.tmp 12], argTypes := #[44, 25] }, type := 57, pos := "world.go:79", after := #[{ on := 2, ground := Go.Ground.data }, { on := 3, ground := Go.Ground.data }], guard := none }) rfl (fun K hK => ?_) AllReadyIn.nil
      have HK := Lib.hid hK
      clear hK
      go_simp
      refine ⟨trivial, ?_⟩
      refine (CallsIn.inRound l2 (callsIn_wide.2 HC.out)).mono ?_
      rintro e w1 ⟨v, rfl, hv, hb1⟩
      refine HK.out _ _ ?_
      have HJ := Lib.hid (And.intro hv hb1)
      obtain ⟨G2, G3, G4, G5⟩ := (HX.out.2.2.more hb1).var
      have G0 := cell_later hb1 HX.out.1
      clear HK hv hb1 G1 G1b G1c
      try simp only [Act.put, List.setIfInBounds_toArray, List.set_cons_zero, List.set_cons_succ]
      exact HF.out _ _ _ HJ.out.2 HJ.out.1 (by kernel_rfl) (by kernel_rfl) (by kernel_rfl)
    refine AllReadyIn.cons (o := { dst := some 11, op := Go.Op.load 44 (Go.Operand.tmp 4), type := 44, pos := "world.go:79", after := #[], guard := none }) rfl (fun K hK => ?_) AllReadyIn.nil
    have HK := Lib.hid hK
    clear hK
    go_simp
    refine HK.out _ _ ?_
    clear HK
    try simp only [Act.put, List.setIfInBounds_toArray, List.set_cons_zero, List.set_cons_succ]
    refine wpAnyIn_ready (rs := [1, 4]) (by kernel_rfl) (by simp) ?_
    refine AllReadyIn.cons (o := { dst := some 10, op := Go.Op.load 44 (Go.Operand.tmp 4), type := 44, pos := "world.go:79", after := #[], guard := none }) rfl (fun K hK => ?_) ?_
    · skip
      have HK := Lib.hid hK
      clear hK
      go_simp
      refine HK.out _ _ ?_
      clear HK
      try simp only [Act.put, List.setIfInBounds_toArray, List.set_cons_zero, List.set_cons_succ]
      refine wpAnyIn_ready (rs := [4]) (by kernel_rfl) (by simp) ?_
      refine AllReadyIn.cons (o := { dst := some 13, op := Go.Op.call { callee := Go.Callee.value (Go.Operand.func 59), args := #[Go.Operand.tmp 11, Go.Operand.tmp 12], argTypes := #[44, 25] }, type := 57, pos := "world.go:79", after := #[{ on := 2, ground := Go.Ground.data }, { on := 3, ground := Go.Ground.data }], guard := none }) rfl (fun K hK => ?_) AllReadyIn.nil
      have HK := Lib.hid hK
      clear hK
      go_simp
      refine ⟨trivial, ?_⟩
      refine (CallsIn.inRound l2 (callsIn_wide.2 HC.out)).mono ?_
      rintro e w1 ⟨v, rfl, hv, hb1⟩
      refine HK.out _ _ ?_
      have HJ := Lib.hid (And.intro hv hb1)
      obtain ⟨G2, G3, G4, G5⟩ := (HX.out.2.2.more hb1).var
      have G0 := cell_later hb1 HX.out.1
      clear HK hv hb1 G1 G1b G1c
      try simp only [Act.put, List.setIfInBounds_toArray, List.set_cons_zero, List.set_cons_succ]
      exact HF.out _ _ _ HJ.out.2 HJ.out.1 (by kernel_rfl) (by kernel_rfl) (by kernel_rfl)
    refine AllReadyIn.cons (o := { dst := some 13, op := Go.Op.call { callee := Go.Callee.value (Go.Operand.func 59), args := #[Go.Operand.tmp 11, Go.Operand.tmp 12], argTypes := #[44, 25] }, type := 57, pos := "world.go:79", after := #[{ on := 2, ground := Go.Ground.data }, { on := 3, ground := Go.Ground.data }], guard := none }) rfl (fun K hK => ?_) AllReadyIn.nil
    have HK := Lib.hid hK
    clear hK
    go_simp
    refine ⟨trivial, ?_⟩
    refine (CallsIn.inRound l2 (callsIn_wide.2 HC.out)).mono ?_
    rintro e w1 ⟨v, rfl, hv, hb1⟩
    refine HK.out _ _ ?_
    have HJ := Lib.hid (And.intro hv hb1)
    obtain ⟨G2, G3, G4, G5⟩ := (HX.out.2.2.more hb1).var
    have G0 := cell_later hb1 HX.out.1
    clear HK hv hb1 G1 G1b G1c
    try simp only [Act.put, List.setIfInBounds_toArray, List.set_cons_zero, List.set_cons_succ]
    refine wpAnyIn_ready (rs := [1]) (by kernel_rfl) (by simp) ?_
    refine AllReadyIn.cons (o := { dst := some 10, op := Go.Op.load 44 (Go.Operand.tmp 4), type := 44, pos := "world.go:79", after := #[], guard := none }) rfl (fun K hK => ?_) AllReadyIn.nil
    have HK := Lib.hid hK
    clear hK
    go_simp
    refine HK.out _ _ ?_
    clear HK
    try simp only [Act.put, List.setIfInBounds_toArray, List.set_cons_zero, List.set_cons_succ]
    exact HF.out _ _ _ HJ.out.2 HJ.out.1 (by kernel_rfl) (by kernel_rfl) (by kernel_rfl)
  refine AllReadyIn.cons (o := { dst := some 10, op := Go.Op.load 44 (Go.Operand.tmp 4), type := 44, pos := "world.go:79", after := #[], guard := none }) rfl (fun K hK => ?_) ?_
  · skip
    have HK := Lib.hid hK
    clear hK
    go_simp
    refine HK.out _ _ ?_
    clear HK
    try simp only [Act.put, List.setIfInBounds_toArray, List.set_cons_zero, List.set_cons_succ]
    refine wpAnyIn_ready (rs := [0, 2]) (by kernel_rfl) (by simp) ?_
    refine AllReadyIn.cons (o := { dst := some 9, op := Go.Op.load 90 (Go.Operand.tmp 2), type := 90, pos := "world.go:79", after := #[], guard := none }) rfl (fun K hK => ?_) ?_
    · skip
      have HK := Lib.hid hK
      clear hK
      go_simp
      refine HK.out _ _ ?_
      clear HK
      try simp only [Act.put, List.setIfInBounds_toArray, List.set_cons_zero, List.set_cons_succ]
      refine wpAnyIn_ready (rs := [2]) (by kernel_rfl) (by simp) ?_
      refine AllReadyIn.cons (o := { dst := some 11, op := Go.Op.load 44 (Go.Operand.tmp 4), type := 44, pos := "world.go:79", after := #[], guard := none }) rfl (fun K hK => ?_) AllReadyIn.nil
      have HK := Lib.hid hK
      clear hK
      go_simp
      refine HK.out _ _ ?_
      clear HK
      try simp only [Act.put, List.setIfInBounds_toArray, List.set_cons_zero, List.set_cons_succ]
      refine wpAnyIn_ready (rs := [4]) (by kernel_rfl) (by simp) ?_
      refine AllReadyIn.cons (o := { dst := some 13, op := Go.Op.call { callee := Go.Callee.value (Go.Operand.func 59), args := #[Go.Operand.tmp 11, Go.Operand.tmp 12], argTypes := #[44, 25] }, type := 57, pos := "world.go:79", after := #[{ on := 2, ground := Go.Ground.data }, { on := 3, ground := Go.Ground.data }], guard := none }) rfl (fun K hK => ?_) AllReadyIn.nil
      have HK := Lib.hid hK
      clear hK
      go_simp
      refine ⟨trivial, ?_⟩
      refine (CallsIn.inRound l2 (callsIn_wide.2 HC.out)).mono ?_
      rintro e w1 ⟨v, rfl, hv, hb1⟩
      refine HK.out _ _ ?_
      have HJ := Lib.hid (And.intro hv hb1)
      obtain ⟨G2, G3, G4, G5⟩ := (HX.out.2.2.more hb1).var
      have G0 := cell_later hb1 HX.out.1
      clear HK hv hb1 G1 G1b G1c
      try simp only [Act.put, List.setIfInBounds_toArray, List.set_cons_zero, List.set_cons_succ]
      exact HF.out _ _ _ HJ.out.2 HJ.out.1 (by kernel_rfl) (by kernel_rfl) (by kernel_rfl)
    refine AllReadyIn.cons (o := { dst := some 11, op := Go.Op.load 44 (Go.Operand.tmp 4), type := 44, pos := "world.go:79", after := #[], guard := none }) rfl (fun K hK => ?_) AllReadyIn.nil
    have HK := Lib.hid hK
    clear hK
    go_simp
    refine HK.out _ _ ?_
    clear HK
    try simp only [Act.put, List.setIfInBounds_toArray, List.set_cons_zero, List.set_cons_succ]
    refine wpAnyIn_ready (rs := [0, 4]) (by kernel_rfl) (by simp) ?_
    refine AllReadyIn.cons (o := { dst := some 9, op := Go.Op.load 90 (Go.Operand.tmp 2), type := 90, pos := "world.go:79", after := #[], guard := none }) rfl (fun K hK => ?_) ?_
    · skip
      have HK := Lib.hid hK
      clear hK
      go_simp
      refine HK.out _ _ ?_
      clear HK
      try simp only [Act.put, List.setIfInBounds_toArray, List.set_cons_zero, List.set_cons_succ]
      refine wpAnyIn_ready (rs := [4]) (by kernel_rfl) (by simp) ?_
      refine AllReadyIn.cons (o := { dst := some 13, op := Go.Op.call { callee := Go.Callee.value (Go.Operand.func 59), args := #[Go.Operand.tmp 11, Go.Operand.tmp 12], argTypes := #[44, 25] }, type := 57, pos := "world.go:79", after := #[{ on := 2, ground := Go.Ground.data }, { on := 3, ground := Go.Ground.data }], guard := none }) rfl (fun K hK => ?_) AllReadyIn.nil
      have HK := Lib.hid hK
      clear hK
      go_simp
      refine ⟨trivial, ?_⟩
      refine (CallsIn.inRound l2 (callsIn_wide.2 HC.out)).mono ?_
      rintro e w1 ⟨v, rfl, hv, hb1⟩
      refine HK.out _ _ ?_
      have HJ := Lib.hid (And.intro hv hb1)
      obtain ⟨G2, G3, G4, G5⟩ := (HX.out.2.2.more hb1).var
      have G0 := cell_later hb1 HX.out.1
      clear HK hv hb1 G1 G1b G1c
      try simp only [Act.put, List.setIfInBounds_toArray, List.set_cons_zero, List.set_cons_succ]
      exact HF.out _ _ _ HJ.out.2 HJ.out.1 (by kernel_rfl) (by kernel_rfl) (by kernel_rfl)
    refine AllReadyIn.cons (o := { dst := some 13, op := Go.Op.call { callee := Go.Callee.value (Go.Operand.func 59), args := #[Go.Operand.tmp 11, Go.Operand.tmp 12], argTypes := #[44, 25] }, type := 57, pos := "world.go:79", after := #[{ on := 2, ground := Go.Ground.data }, { on := 3, ground := Go.Ground.data }], guard := none }) rfl (fun K hK => ?_) AllReadyIn.nil
    have HK := Lib.hid hK
    clear hK
    go_simp
    refine ⟨trivial, ?_⟩
    refine (CallsIn.inRound l2 (callsIn_wide.2 HC.out)).mono ?_
    rintro e w1 ⟨v, rfl, hv, hb1⟩
    refine HK.out _ _ ?_
    have HJ := Lib.hid (And.intro hv hb1)
    obtain ⟨G2, G3, G4, G5⟩ := (HX.out.2.2.more hb1).var
    have G0 := cell_later hb1 HX.out.1
    clear HK hv hb1 G1 G1b G1c
    try simp only [Act.put, List.setIfInBounds_toArray, List.set_cons_zero, List.set_cons_succ]
    refine wpAnyIn_ready (rs := [0]) (by kernel_rfl) (by simp) ?_
    refine AllReadyIn.cons (o := { dst := some 9, op := Go.Op.load 90 (Go.Operand.tmp 2), type := 90, pos := "world.go:79", after := #[], guard := none }) rfl (fun K hK => ?_) AllReadyIn.nil
    have HK := Lib.hid hK
    clear hK
    go_simp
    refine HK.out _ _ ?_
    clear HK
    try simp only [Act.put, List.setIfInBounds_toArray, List.set_cons_zero, List.set_cons_succ]
    exact HF.out _ _ _ HJ.out.2 HJ.out.1 (by kernel_rfl) (by kernel_rfl) (by kernel_rfl)
  refine AllReadyIn.cons (o := { dst := some 11, op := Go.Op.load 44 (Go.Operand.tmp 4), type := 44, pos := "world.go:79", after := #[], guard := none }) rfl (fun K hK => ?_) AllReadyIn.nil
  have HK := Lib.hid hK
  clear hK
  go_simp
  refine HK.out _ _ ?_
  clear HK
  try simp only [Act.put, List.setIfInBounds_toArray, List.set_cons_zero, List.set_cons_succ]
  refine wpAnyIn_ready (rs := [0, 1, 4]) (by kernel_rfl) (by simp) ?_
  refine AllReadyIn.cons (o := { dst := some 9, op := Go.Op.load 90 (Go.Operand.tmp 2), type := 90, pos := "world.go:79", after := #[], guard := none }) rfl (fun K hK => ?_) ?_
  · skip
    have HK := Lib.hid hK
    clear hK
    go_simp
    refine HK.out _ _ ?_
    clear HK
    try simp only [Act.put, List.setIfInBounds_toArray, List.set_cons_zero, List.set_cons_succ]
    refine wpAnyIn_ready (rs := [1, 4]) (by kernel_rfl) (by simp) ?_
    refine AllReadyIn.cons (o := { dst := some 10, op := Go.Op.load 44 (Go.Operand.tmp 4), type := 44, pos := "world.go:79", after := #[], guard := none }) rfl (fun K hK => ?_) ?_
    · skip
      have HK := Lib.hid hK
      clear hK
      go_simp
      refine HK.out _ _ ?_
      clear HK
      try simp only [Act.put, List.setIfInBounds_toArray, List.set_cons_zero, List.set_cons_succ]
      refine wpAnyIn_ready (rs := [4]) (by kernel_rfl) (by simp) ?_
      refine AllReadyIn.cons (o := { dst := some 13, op := Go.Op.call { callee := Go.Callee.value (Go.Operand.func 59), args := #[Go.Operand.tmp 11, Go.Operand.tmp 12], argTypes := #[44, 25] }, type := 57, pos := "world.go:79", after := #[{ on := 2, ground := Go.Ground.data }, { on := 3, ground := Go.Ground.data }], guard := none }) rfl (fun K hK => ?_) AllReadyIn.nil
      have HK := Lib.hid hK
      clear hK
      go_simp
      refine ⟨trivial, ?_⟩
      refine (CallsIn.inRound l2 (callsIn_wide.2 HC.out)).mono ?_
      rintro e w1 ⟨v, rfl, hv, hb1⟩
      refine HK.out _ _ ?_
      have HJ := Lib.hid (And.intro hv hb1)
      obtain ⟨G2, G3, G4, G5⟩ := (HX.out.2.2.more hb1).var
      have G0 := cell_later hb1 HX.out.1
      clear HK hv hb1 G1 G1b G1c
      try simp only [Act.put, List.setIfInBounds_toArray, List.set_cons_zero, List.set_cons_succ]
      exact HF.out _ _ _ HJ.out.2 HJ.out.1 (by kernel_rfl) (by kernel_rfl) (by kernel_rfl)
    refine AllReadyIn.cons (o := { dst := some 13, op := Go.Op.call { callee := Go.Callee.value (Go.Operand.func 59), args := #[Go.Operand.tmp 11, Go.Operand.tmp 12], argTypes := #[44, 25] }, type := 57, pos := "world.go:79", after := #[{ on := 2, ground := Go.Ground.data }, { on := 3, ground := Go.Ground.data }], guard := none }) rfl (fun K hK => ?_) AllReadyIn.nil
    have HK := Lib.hid hK
    clear hK
    go_simp
    refine ⟨trivial, ?_⟩
    refine (CallsIn.inRound l2 (callsIn_wide.2 HC.out)).mono ?_
    rintro e w1 ⟨v, rfl, hv, hb1⟩
    refine HK.out _ _ ?_
    have HJ := Lib.hid (And.intro hv hb1)
    obtain ⟨G2, G3, G4, G5⟩ := (HX.out.2.2.more hb1).var
    have G0 := cell_later hb1 HX.out.1
    clear HK hv hb1 G1 G1b G1c
    try simp only [Act.put, List.setIfInBounds_toArray, List.set_cons_zero, List.set_cons_succ]
    refine wpAnyIn_ready (rs := [1]) (by kernel_rfl) (by simp) ?_
    refine AllReadyIn.cons (o := { dst := some 10, op := Go.Op.load 44 (Go.Operand.tmp 4), type := 44, pos := "world.go:79", after := #[], guard := none }) rfl (fun K hK => ?_) AllReadyIn.nil
    have HK := Lib.hid hK
    clear hK
    go_simp
    refine HK.out _ _ ?_
    clear HK
    try simp only [Act.put, List.setIfInBounds_toArray, List.set_cons_zero, List.set_cons_succ]
    exact HF.out _ _ _ HJ.out.2 HJ.out.1 (by kernel_rfl) (by kernel_rfl) (by kernel_rfl)
  refine AllReadyIn.cons (o := { dst := some 10, op := Go.Op.load 44 (Go.Operand.tmp 4), type := 44, pos := "world.go:79", after := #[], guard := none }) rfl (fun K hK => ?_) ?_
  · skip
    have HK := Lib.hid hK
    clear hK
    go_simp
    refine HK.out _ _ ?_
    clear HK
    try simp only [Act.put, List.setIfInBounds_toArray, List.set_cons_zero, List.set_cons_succ]
    refine wpAnyIn_ready (rs := [0, 4]) (by kernel_rfl) (by simp) ?_
    refine AllReadyIn.cons (o := { dst := some 9, op := Go.Op.load 90 (Go.Operand.tmp 2), type := 90, pos := "world.go:79", after := #[], guard := none }) rfl (fun K hK => ?_) ?_
    · skip
      have HK := Lib.hid hK
      clear hK
      go_simp
      refine HK.out _ _ ?_
      clear HK
      try simp only [Act.put, List.setIfInBounds_toArray, List.set_cons_zero, List.set_cons_succ]
      refine wpAnyIn_ready (rs := [4]) (by kernel_rfl) (by simp) ?_
      refine AllReadyIn.cons (o := { dst := some 13, op := Go.Op.call { callee := Go.Callee.value (Go.Operand.func 59), args := #[Go.Operand.tmp 11, Go.Operand.tmp 12], argTypes := #[44, 25] }, type := 57, pos := "world.go:79", after := #[{ on := 2, ground := Go.Ground.data }, { on := 3, ground := Go.Ground.data }], guard := none }) rfl (fun K hK => ?_) AllReadyIn.nil
      have HK := Lib.hid hK
      clear hK
      go_simp
      refine ⟨trivial, ?_⟩
      refine (CallsIn.inRound l2 (callsIn_wide.2 HC.out)).mono ?_
      rintro e w1 ⟨v, rfl, hv, hb1⟩
      refine HK.out _ _ ?_
      have HJ := Lib.hid (And.intro hv hb1)
      obtain ⟨G2, G3, G4, G5⟩ := (HX.out.2.2.more hb1).var
      have G0 := cell_later hb1 HX.out.1
      clear HK hv hb1 G1 G1b G1c
      try simp only [Act.put, List.setIfInBounds_toArray, List.set_cons_zero, List.set_cons_succ]
      exact HF.out _ _ _ HJ.out.2 HJ.out.1 (by kernel_rfl) (by kernel_rfl) (by kernel_rfl)
    refine AllReadyIn.cons (o := { dst := some 13, op := Go.Op.call { callee := Go.Callee.value (Go.Operand.func 59), args := #[Go.Operand.tmp 11, Go.Operand.tmp 12], argTypes := #[44, 25] }, type := 57, pos := "world.go:79", after := #[{ on := 2, ground := Go.Ground.data }, { on := 3, ground := Go.Ground.data }], guard := none }) rfl (fun K hK => ?_) AllReadyIn.nil
    have HK := Lib.hid hK
    clear hK
    go_simp
    refine ⟨trivial, ?_⟩
    refine (CallsIn.inRound l2 (callsIn_wide.2 HC.out)).mono ?_
    rintro e w1 ⟨v, rfl, hv, hb1⟩
    refine HK.out _ _ ?_
    have HJ := Lib.hid (And.intro hv hb1)
    obtain ⟨G2, G3, G4, G5⟩ := (HX.out.2.2.more hb1).var
    have G0 := cell_later hb1 HX.out.1
    clear HK hv hb1 G1 G1b G1c
    try simp only [Act.put, List.setIfInBounds_toArray, List.set_cons_zero, List.set_cons_succ]
    refine wpAnyIn_ready (rs := [0]) (by kernel_rfl) (by simp) ?_
    refine AllReadyIn.cons (o := { dst := some 9, op := Go.Op.load 90 (Go.Operand.tmp 2), type := 90, pos := "world.go:79", after := #[], guard := none }) rfl (fun K hK => ?_) AllReadyIn.nil
    have HK := Lib.hid hK
    clear hK
    go_simp
    refine HK.out _ _ ?_
    clear HK
    try simp only [Act.put, List.setIfInBounds_toArray, List.set_cons_zero, List.set_cons_succ]
    exact HF.out _ _ _ HJ.out.2 HJ.out.1 (by kernel_rfl) (by kernel_rfl) (by kernel_rfl)
  refine AllReadyIn.cons (o := { dst := some 13, op := Go.Op.call { callee := Go.Callee.value (Go.Operand.func 59), args := #[Go.Operand.tmp 11, Go.Operand.tmp 12], argTypes := #[44, 25] }, type := 57, pos := "world.go:79", after := #[{ on := 2, ground := Go.Ground.data }, { on := 3, ground := Go.Ground.data }], guard := none }) rfl (fun K hK => ?_) AllReadyIn.nil
  have HK := Lib.hid hK
  clear hK
  go_simp
  refine ⟨trivial, ?_⟩
  refine (CallsIn.inRound l2 (callsIn_wide.2 HC.out)).mono ?_
  rintro e w1 ⟨v, rfl, hv, hb1⟩
  refine HK.out _ _ ?_
  have HJ := Lib.hid (And.intro hv hb1)
  obtain ⟨G2, G3, G4, G5⟩ := (HX.out.2.2.more hb1).var
  have G0 := cell_later hb1 HX.out.1
  clear HK hv hb1 G1 G1b G1c
  try simp only [Act.put, List.setIfInBounds_toArray, List.set_cons_zero, List.set_cons_succ]
  refine wpAnyIn_ready (rs := [0, 1]) (by kernel_rfl) (by simp) ?_
  refine AllReadyIn.cons (o := { dst := some 9, op := Go.Op.load 90 (Go.Operand.tmp 2), type := 90, pos := "world.go:79", after := #[], guard := none }) rfl (fun K hK => ?_) ?_
  · skip
    have HK := Lib.hid hK
    clear hK
    go_simp
    refine HK.out _ _ ?_
    clear HK
    try simp only [Act.put, List.setIfInBounds_toArray, List.set_cons_zero, List.set_cons_succ]
    refine wpAnyIn_ready (rs := [1]) (by kernel_rfl) (by simp) ?_
    refine AllReadyIn.cons (o := { dst := some 10, op := Go.Op.load 44 (Go.Operand.tmp 4), type := 44, pos := "world.go:79", after := #[], guard := none }) rfl (fun K hK => ?_) AllReadyIn.nil
    have HK := Lib.hid hK
    clear hK
    go_simp
    refine HK.out _ _ ?_
    clear HK
    try simp only [Act.put, List.setIfInBounds_toArray, List.set_cons_zero, List.set_cons_succ]
    exact HF.out _ _ _ HJ.out.2 HJ.out.1 (by kernel_rfl) (by kernel_rfl) (by kernel_rfl)
  refine AllReadyIn.cons (o := { dst := some 10, op := Go.Op.load 44 (Go.Operand.tmp 4), type := 44, pos := "world.go:79", after := #[], guard := none }) rfl (fun K hK => ?_) AllReadyIn.nil
  have HK := Lib.hid hK
  clear hK
  go_simp
  refine HK.out _ _ ?_
  clear HK
  try simp only [Act.put, List.setIfInBounds_toArray, List.set_cons_zero, List.set_cons_succ]
  refine wpAnyIn_ready (rs := [0]) (by kernel_rfl) (by simp) ?_
  refine AllReadyIn.cons (o := { dst := some 9, op := Go.Op.load 90 (Go.Operand.tmp 2), type := 90, pos := "world.go:79", after := #[], guard := none }) rfl (fun K hK => ?_) AllReadyIn.nil
  have HK := Lib.hid hK
  clear hK
  go_simp
  refine HK.out _ _ ?_
  clear HK
  try simp only [Act.put, List.setIfInBounds_toArray, List.set_cons_zero, List.set_cons_succ]
  exact HF.out _ _ _ HJ.out.2 HJ.out.1 (by kernel_rfl) (by kernel_rfl) (by kernel_rfl)

end Go.Proofs.YtlafcplcjpcikaaGreatDoor

/- The parts of a slice, one by one: slices.Values, all. -/
namespace Go.Proofs.YtlafcplcjpcikaaGreatDoor
open Go.RowKit Go.Proofs.Fld Go.Proofs.Rng Go.Proofs.Spc Go.Proofs.Cats Go.Proofs.Wld Go.Shelf Go.Sort

attribute [local go_sem] Oper.semAt_some

theorem KS.ptat {p : Nat → Prop} {A B : World} (h : KS p A B) {b o : Nat} {x : Pv} (hc : PtAt A b o x) (hp : p b) : PtAt B b o x := hc.of_block (h.2 _ hp)

set_option maxRecDepth 100000 in
set_option maxHeartbeats 4000000 in
theorem valsP1 (n : Nat) (hn : 1 ≤ n) (p : Nat → Prop) (B1 len cap : Nat) (ao : Option Addr) (zs : List Pv) (hreach : len ≤ 1000000) (w : World) (hp : ∀ k, p k → k < w.heap.size)
    (hB1 : w.cell? ⟨B1, 0, none⟩ = some (.slice ao len cap)) (hL : Parts w ao len cap zs) (hb : 0 < len → ∀ a, ao = some a → p a.block) :
    SeqY (fun pre x => pre ++ [x] <+: zs) n Tryz.prog 89 #[.pointer (some ⟨B1, 0, none⟩)] (fun x : Pv => #[pv x]) (KS p) (fun ys => ys = zs) (fun pre => pre <+: zs) w := fun l J Jx W hW hWs hJ hJx hY h0 => by
  refine callsIn_of_wp Tryz.func89 rfl trivial ?_ rfl
  simp only [Tryz.ntmps89, List.size_toArray, List.length_cons, List.length_nil, Nat.reduceAdd, Nat.reduceSub, Array.replicate_succ, Array.replicate_zero, List.push_toArray, List.append_toArray, List.nil_append, List.cons_append]
  have hlen := hL.hlen
  have c1 := cell_later hW hB1
  have HLN := Lib.hid hlen
  have HL := Lib.hid hL
  have HB := Lib.hid hb
  have HP := Lib.hid (And.intro hp hW)
  clear hL hb hlen hB1 hp hW hWs
  have HJ0 := Lib.hid hJ
  have HY := Lib.hid hY
  clear hJ hY hJx
  gi_wp2
  gi_loopw [7] (fun i wr => ∃ k : Nat, k ≤ len ∧ i = .int .i64 k ∧ Hid (J (zs.take k) wr) ∧ Hid (KS p W wr))
    (fun i _ => len - (intOf i).toNat)
  case atStart => exact ⟨0, Nat.zero_le _, rfl, by rw [List.take_zero]; exact h0, KS.refl _ _⟩
  case round =>
    obtain ⟨k, hk, rfl, HJ, HNX⟩ := hrel
    by_cases hlt : k < len
    · obtain ⟨x, hx⟩ : ∃ x, zs[k]? = some x := ⟨_, List.getElem?_eq_getElem (by rw [HLN.out]; exact hlt)⟩
      obtain ⟨b, off, rfl, hbW, hcs⟩ := HL.out.at (by omega)
      have hbm := HB.out (by omega) _ rfl
      obtain ⟨q0, q1, q2, q3⟩ := (HNX.out).ptat ((hcs k x hx).of_block (HP.out.2.block b hbW)) hbm
      have HX := Lib.hid (take_next zs k x hx)
      have HH := Lib.hid (take_prefix hx)
      have hbr : Below wr.heap.size wr (wr.alloc (.cells #[.int .i64 x.a.l, .int .u64 x.a.c, .int .i64 x.a.i, .slice x.va x.os.length x.vc] 44)) := Below.new _ _
      have hsz := HNX.out.1
      have HK1 := Lib.hid (HNX.out.trans (KS.of_below (p := p) hbr (fun i hi => by have := HP.out.1 i hi; have := HP.out.2.size; omega)))
      have HJ1 := Lib.hid (own_alloc HJ0.out (.cells #[.int .i64 x.a.l, .int .u64 x.a.c, .int .i64 x.a.i, .slice x.va x.os.length x.vc] 44) HJ.out)
      obtain ⟨fn, tmps, assign, body, hy, hR⟩ := HY.out _ x _ HJ1.out HH.out
      simp only [pv] at hy
      have HR := Lib.hid hR
      clear hcs hbr hx hR
      gi_wp2
      refine HR.out.mono ?_
      rintro e W3 (⟨rfl, hJ3, hk3, _⟩ | ⟨rfl, hJ3, _⟩)
      · have HJ3 := Lib.hid hJ3
        have HK3 := Lib.hid (HK1.out.trans hk3)
        clear hJ3 hk3 hy
        gi_wp2
        go_roundw
        case rel => exact ⟨k + 1, by omega, by simp, by rw [HX.out]; exact HJ3.out, HK3.out⟩
        case measure => simp [intOf]; omega
      · have HJ3 := Lib.hid hJ3
        clear hJ3 hy
        gi_wp2
        refine bodyPost_ret (results_none rfl _ _ _) rfl ?_
        exact ⟨⟨_, rfl⟩, .inr ⟨_, HH.out, HJ3.out⟩⟩
    · obtain rfl : k = len := by omega
      gi_wp2
      go_end0
      exact ⟨⟨_, rfl⟩, .inl ⟨_, rfl, by have h := HJ.out; rw [List.take_of_length_le (Nat.le_of_eq HLN.out)] at h; exact h⟩⟩

/-- all: the iterator, and its box. -/
def AllQ (ao : Option Addr) (len cap : Nat) (w : World) (e : Ending) (w' : World) : Prop :=
  e = .returned (.func (.func 89) #[] #[.pointer (some ⟨w.heap.size, 0, none⟩)]) ∧ w.alloc (.cells #[.slice ao len cap] 58) = w'
set_option maxHeartbeats 1000000 in
theorem valsP_any (ao : Option Addr) (len cap : Nat) (w : World) :
    Calls Tryz.prog 74 #[.slice ao len cap] w (AllQ ao len cap w) := by
  go_enter Tryz.func74, Tryz.ntmps74
  go_wp2
  go_ret
  exact ⟨rfl, rfl⟩
set_option maxHeartbeats 1000000 in
theorem allP_any (ao : Option Addr) (len cap : Nat) (w : World) :
    Calls Tryz.prog 54 #[.slice ao len cap] w (AllQ ao len cap w) := by
  go_enter Tryz.func54, Tryz.ntmps54
  go_wp2_with (go_at_call 74; refine (valsP_any ao len cap _).mono ?_)
  rintro e w1 ⟨rfl, rfl⟩
  go_wp2
  go_ret
  exact ⟨rfl, rfl⟩

end Go.Proofs.YtlafcplcjpcikaaGreatDoor

/- judged: the parts, each beside what is wrong with it, by an iterator over another one. -/
namespace Go.Proofs.YtlafcplcjpcikaaGreatDoor
open Go.RowKit Go.Proofs.Fld Go.Proofs.Rng Go.Proofs.Spc Go.Proofs.Cats Go.Proofs.Wld Go.Shelf Go.Sort

attribute [local go_sem] Oper.semAt_some

/-- Block B is a variable's own, of a label's three cells. -/
def BoxL (W : World) (B : Nat) (a : Lab) : Prop := W.heap[B]? = some (.cells #[.int .i64 a.l, .int .u64 a.c, .int .i64 a.i] 25 (0, 0))
theorem BoxL.lt {W : World} {B : Nat} {a : Lab} (h : BoxL W B a) : B < W.heap.size := (Array.getElem?_eq_some_iff.1 h).1
theorem BoxL.lab {W : World} {B : Nat} {a : Lab} (h : BoxL W B a) : LabAt W B a := ⟨by simp [World.cell?, show W.heap[B]? = _ from h], by simp [World.cell?, show W.heap[B]? = _ from h], by simp [World.cell?, show W.heap[B]? = _ from h]⟩
theorem BoxL.frozen {W : World} {B : Nat} {a : Lab} (h : BoxL W B a) : W.frozen? ⟨B, 0, none⟩ = false ∧ W.frozen? ⟨B, 1, none⟩ = false ∧ W.frozen? ⟨B, 2, none⟩ = false := ⟨by simp [World.frozen?, show W.heap[B]? = _ from h], by simp [World.frozen?, show W.heap[B]? = _ from h], by simp [World.frozen?, show W.heap[B]? = _ from h]⟩
theorem BoxL.new (W : World) (a : Lab) : BoxL (W.alloc (.cells #[.int .i64 a.l, .int .u64 a.c, .int .i64 a.i] 25)) W.heap.size a := World.alloc_heap_new W _
theorem BoxL.eq {A B : World} {b : Nat} {a : Lab} (h : BoxL A b a) (e : B.heap[b]? = A.heap[b]?) : BoxL B b a := e.trans h
theorem BoxL.keep {A B : World} {row : Option Nat} {b : Nat} {a : Lab} (h : BoxL A b a) (hg : A.grownBy B row) (hr : ∀ r, row = some r → ∃ o : Obj, A.heap[r]? = some o ∧ o.isCells = false) : BoxL B b a :=
  h.eq (hg.block b h.lt fun e => by
    obtain ⟨o, ho, hc⟩ := hr b e.symm
    rw [show A.heap[b]? = _ from h] at ho
    cases ho
    cases hc)
theorem BoxL.more {A B : World} {b : Nat} {a : Lab} (h : BoxL A b a) (k : Below A.heap.size A B) : BoxL B b a := h.eq (k.block b h.lt)
theorem BoxL.other {W : World} {b b' o : Nat} {a : Lab} {x : Value} (h : BoxL W b a) (hne : b ≠ b') : BoxL (W.setCell ⟨b', o, none⟩ x) b a := h.eq (Below.heap_setCell _ _ _ _ (fun e => hne e))
theorem KA.boxL {X b : Nat} {A B : World} {a : Lab} (h : KA X A B) (hx : BoxL A b a) (hne : b ≠ X) : BoxL B b a := hx.eq (h.block b hx.lt (fun e => hne (by cases e; rfl)))
theorem boxed_off {W : World} {B B' i : Nat} {t : TypeId} {v : Value} (h : Boxed W B t v) (hne : B ≠ B') (u : Value) : Boxed (W.setCell ⟨B', i, none⟩ u) B t v := (Below.heap_setCell _ _ _ _ (fun e => hne e)).trans h
theorem heap_set {W : World} {B i : Nat} {cs : Array Value} {t : TypeId} {f : Nat × Nat} (v : Value) (h : W.heap[B]? = some (.cells cs t f)) : (W.setCell ⟨B, i, none⟩ v).heap[B]? = some (.cells (cs.setIfInBounds i v) t f) := by
  obtain ⟨hlt, hk⟩ := Array.getElem?_eq_some_iff.1 h
  show (W.heap.modify B _)[B]? = _
  rw [Array.getElem?_eq_getElem (by rw [Array.size_modify]; exact hlt), Array.getElem_modify_self, hk]
  rfl
theorem BoxL.set {W : World} {B : Nat} {a : Lab} (x : Lab) (h : BoxL W B a) : BoxL (((W.setCell ⟨B, 0, none⟩ (.int .i64 x.l)).setCell ⟨B, 1, none⟩ (.int .u64 x.c)).setCell ⟨B, 2, none⟩ (.int .i64 x.i)) B x := by
  have h1 := heap_set (i := 2) (.int .i64 x.i) (heap_set (i := 1) (.int .u64 x.c) (heap_set (i := 0) (.int .i64 x.l) h))
  simpa [BoxL] using h1
theorem ptat_keep {A B : World} {row : Option Nat} {b o : Nat} {x : Pv} (h : PtAt A b o x) (hg : A.grownBy B row) (hr : ∀ r, row = some r → ∃ o : Obj, A.heap[r]? = some o ∧ o.isCells = false) : PtAt B b o x :=
  ⟨cell_kept h.1 hg hr, cell_kept h.2.1 hg hr, cell_kept h.2.2.1 hg hr, cell_kept h.2.2.2 hg hr⟩

/-- A part, and what is wrong with it, as two values. -/
def encP (y : Pv × Value) : Array Value := #[pv y.1, y.2]
def fstP (l : List (Pv × Value)) : List Pv := l.map Prod.fst
theorem fstP_snoc (p : List (Pv × Value)) (y : Pv × Value) : fstP (p ++ [y]) = fstP p ++ [y.1] := by simp [fstP]
theorem pts_snoc (p : List Pv) (y : Pv) : pts (p ++ [y]) = pts p ++ [pt y] := by simp [pts]
/-- What is sure of one that comes. -/
def HJw (zs : List Pv) (pre : List (Pv × Value)) (y : Pv × Value) : Prop := fstP pre ++ [y.1] <+: zs ∧ JuwV (nextW (lastW none (pts (fstP pre))) (pt y.1)) y.2
/-- judged's iterator between two rounds. -/
def JwI (l : Nat) (w W : World) (J : List (Pv × Value) → World → Prop) (pre : List Pv) (V : World) : Prop :=
  (∃ p, fstP p = pre ∧ J p V) ∧ (Boxed V W.heap.size 90 (.func (.yield l) #[] #[]) ∧ BoxL V (W.heap.size + 1) (aheadL (lastW none (pts pre))) ∧ W.heap.size + 3 ≤ V.heap.size) ∧ KA (w.heap.size + 1) W V
/-- .. when a round has left. -/
def JwX (W : World) (Jx : List (Pv × Value) → World → Prop) (c : Code) (pre : List Pv) (V : World) : Prop := c = .ret ∧ (∃ p, fstP p = pre ∧ Jx p V) ∧ W.heap.size ≤ V.heap.size
theorem JwI.own {l : Nat} {w W : World} {J : List (Pv × Value) → World → Prop} {n0 : Nat} (hJ : AbB W.heap.size J) (hn : W.heap.size ≤ n0) : OwnFrom n0 (JwI l w W J) := by
  rintro pre A V row ⟨⟨p, hp, hj⟩, ⟨b0, b1, hz⟩, hk⟩ hg hr
  refine ⟨⟨p, hp, hJ p A V hj (grown_low hg hr hn (by omega))⟩, ⟨boxed_keep b0 hg (fun r e => (hr r e).2), b1.keep hg (fun r e => (hr r e).2), Nat.le_trans hz hg.size⟩, ?_⟩
  exact ⟨hg.os.trans hk.os, hg.tape.trans hk.tape, hg.output.trans hk.output, Nat.le_trans hk.size hg.size, fun k hkk hx => (hg.block k (Nat.lt_of_lt_of_le hkk hk.size) (fun e => by have := (hr k e.symm).1; omega)).trans (hk.block k hkk hx)⟩
theorem JwX.own {W : World} {Jx : List (Pv × Value) → World → Prop} {n0 : Nat} (hJ : AbB W.heap.size Jx) (hn : W.heap.size ≤ n0) (c : Code) : OwnFrom n0 (JwX W Jx c) := by
  rintro pre A V row ⟨hc, ⟨p, hp, hj⟩, hz⟩ hg hr
  exact ⟨hc, ⟨p, hp, hJ p A V hj (grown_low hg hr hn hz)⟩, Nat.le_trans hz hg.size⟩
theorem ka_set3 {X b : Nat} {A B : World} (h : KA X A B) (hb : A.heap.size ≤ b) (u v x : Value) : KA X A (((B.setCell ⟨b, 0, none⟩ u).setCell ⟨b, 1, none⟩ v).setCell ⟨b, 2, none⟩ x) := ((h.set hb).set hb).set hb
theorem below_set3 {n b : Nat} (A : World) (hb : n ≤ b) (u v x : Value) : Below n A (((A.setCell ⟨b, 0, none⟩ u).setCell ⟨b, 1, none⟩ v).setCell ⟨b, 2, none⟩ x) := (((Below.refl n A).setCell (p := ⟨b, 0, none⟩) hb u).setCell (p := ⟨b, 1, none⟩) hb v).setCell (p := ⟨b, 2, none⟩) hb x
theorem size_set3 (A : World) (b : Nat) (u v x : Value) : (((A.setCell ⟨b, 0, none⟩ u).setCell ⟨b, 1, none⟩ v).setCell ⟨b, 2, none⟩ x).heap.size = A.heap.size := by simp [World.setCell]
theorem keeps_set3 (A : World) (b n : Nat) (u v x : Value) : KeepsFrom n A (((A.setCell ⟨b, 0, none⟩ u).setCell ⟨b, 1, none⟩ v).setCell ⟨b, 2, none⟩ x) := (((KeepsOthers.setCell A ⟨b, 0, none⟩ u).trans (KeepsOthers.setCell _ ⟨b, 1, none⟩ v)).trans (KeepsOthers.setCell _ ⟨b, 2, none⟩ x)).from _
/-- judged: the iterator, and its box. -/
def JdwP (ao : Option Addr) (len cap : Nat) (w : World) (e : Ending) (w' : World) : Prop :=
  e = .returned (.func (.func 58) #[] #[.pointer (some ⟨w.heap.size, 0, none⟩)]) ∧ w.alloc (.cells #[.slice ao len cap] 58) = w'
set_option maxHeartbeats 1000000 in
theorem judgedW_any (ao : Option Addr) (len cap : Nat) (w : World) :
    Calls Tryz.prog 39 #[.slice ao len cap] w (JdwP ao len cap w) := by
  go_enter Tryz.func39, Tryz.ntmps39
  go_wp2
  go_ret
  exact ⟨rfl, rfl⟩

set_option maxRecDepth 100000 in
set_option maxHeartbeats 4000000 in
theorem judgedW1 (n : Nat) (hn : 3 ≤ n) {s : Sn} (B1 len cap : Nat) (ao : Option Addr) (zs : List Pv) (hreach : len ≤ 1000000) (w : World) (hs : Ev s w) (hbd : ∀ x ∈ zs, Small (obs x.os))
    (hB1 : w.cell? ⟨B1, 0, none⟩ = some (.slice ao len cap)) (hL : Parts w ao len cap zs) :
    SeqB (HJw zs) n Tryz.prog 58 #[.pointer (some ⟨B1, 0, none⟩)] encP (KA (w.heap.size + 1)) (fun ys => fstP ys = zs) (fun pre => fstP pre <+: zs) w := fun l J Jx W hW hWs hJ hJx hY h0 => by
  have hn1 : 1 ≤ n := by omega
  refine callsIn_of_wp_marks Tryz.func58 rfl trivial ?_ rfl
  simp only [Tryz.ntmps58, List.size_toArray, List.length_cons, List.length_nil, Nat.reduceAdd, Nat.reduceSub, Array.replicate_succ, Array.replicate_zero, List.push_toArray, List.append_toArray, List.nil_append, List.cons_append]
  have c1 := cell_later hW hB1
  have HL := Lib.hid (And.intro hL (And.intro hs (And.intro hbd hW)))
  have HJ := Lib.hid (And.intro hJ (And.intro hJx h0))
  have HY := Lib.hid hY
  clear hL hs hbd hB1 hJ hJx h0 hY hW
  have hBi : Below W.heap.size W ((W.alloc (.cells #[.func (.yield l) #[] #[]] 90)).alloc (.cells #[.int .i64 (-1), .int .u64 0, .int .i64 0] 25)) := (Below.new W _).alloc (by simp) _
  have hr0 : BoxL ((W.alloc (.cells #[.func (.yield l) #[] #[]] 90)).alloc (.cells #[.int .i64 (-1), .int .u64 0, .int .i64 0] 25)) (W.heap.size + 1) ⟨-1, 0, 0⟩ := by
    have := BoxL.new (W.alloc (.cells #[.func (.yield l) #[] #[]] 90)) ⟨-1, 0, 0⟩
    rw [World.size_alloc] at this
    exact this
  have hl0 : Boxed ((W.alloc (.cells #[.func (.yield l) #[] #[]] 90)).alloc (.cells #[.int .i64 (-1), .int .u64 0, .int .i64 0] 25)) W.heap.size 90 (.func (.yield l) #[] #[]) := (Boxed.new W _ _).alloc _
  have hzi : ((W.alloc (.cells #[.func (.yield l) #[] #[]] 90)).alloc (.cells #[.int .i64 (-1), .int .u64 0, .int .i64 0] 25)).heap.size = W.heap.size + 2 := by simp
  have c2 : ((W.alloc (.cells #[.func (.yield l) #[] #[]] 90)).alloc (.cells #[.int .i64 (-1), .int .u64 0, .int .i64 0] 25)).cell? ⟨B1, 0, none⟩ = some (.slice ao len cap) := cell_later hBi c1
  clear c1
  gi_wp2
  gi_wp2_with (refine ⟨trivial, ?_⟩; gi_at_call 54; refine (callsIn_wide.2 (allP_any ao len cap _)).mono ?_)
  rintro e W0 ⟨rfl, rfl⟩
  obtain ⟨Wi, hWi⟩ : ∃ Wi, ((W.alloc (.cells #[.func (.yield l) #[] #[]] 90)).alloc (.cells #[.int .i64 (-1), .int .u64 0, .int .i64 0] 25)) = Wi := ⟨_, rfl⟩
  rw [hWi] at hBi hr0 hl0 hzi c2 ⊢
  have HI := Lib.hid (And.intro hBi (And.intro hr0 hl0))
  clear hBi hr0 hl0
  rw [hzi]
  have hb0 := Below.new Wi (.cells #[.slice ao len cap] 58)
  have hc1 : (Wi.alloc (.cells #[.slice ao len cap] 58)).cell? ⟨W.heap.size + 2, 0, none⟩ = some (.slice ao len cap) := by rw [← hzi]; simp
  have hz0 : (Wi.alloc (.cells #[.slice ao len cap] 58)).heap.size = W.heap.size + 3 := by rw [World.size_alloc, hzi]
  obtain ⟨W0, hW0⟩ : ∃ W0, Wi.alloc (.cells #[.slice ao len cap] 58) = W0 := ⟨_, rfl⟩
  rw [hW0] at hb0 hc1 hz0 ⊢
  have HA := Lib.hid (And.intro hc1 (And.intro hz0 (And.intro (below_more HI.out.1 hb0) (And.intro (HI.out.2.1.more hb0) (boxed_more HI.out.2.2 hb0)))))
  clear hb0 hc1 HI hW0 c2
  gi_wp2
  refine wpIn_rangeY hn1 (gf := 89) (lb := #[.pointer (some ⟨W.heap.size + 2, 0, none⟩)]) rfl (enters_of Tryz.func89 (by kernel_rfl) rfl)
    (valsP1 (n - 1) (by omega) (fun k => k < w.heap.size) (W.heap.size + 2) len cap ao zs hreach W0 (fun k hk => by omega) HA.out.1 ((HL.out.1.more HL.out.2.2.2).more HA.out.2.2.1) ?hap) KS.trans (fun V o o' _ _ _ => KS.put _ _ _ (by omega)) (fun _ => rfl)
    (JwI l w W J) (JwX W Jx) ?hI ?hIx ?h0
    (fun x a' V => ∃ Bx, W.heap.size + 3 ≤ Bx ∧ PtAt V Bx 0 x ∧ a' = { tmps := #[.func (.yield l) #[] #[], .pointer (some ⟨B1, 0, none⟩), .pointer (some ⟨W.heap.size, 0, none⟩), .pointer (some ⟨W.heap.size + 1, 0, none⟩), .pointer (some ⟨Bx, 0, none⟩), .agg #[.int .i64 (-1), .int .u64 0, .int .i64 0], .slice ao len cap, .func (.func 89) #[] #[.pointer (some ⟨W.heap.size + 2, 0, none⟩)], .agg #[.int .i64 x.a.l, .int .u64 x.a.c, .int .i64 x.a.i, .slice x.va x.os.length x.vc], undef, undef, undef, undef, undef, undef, undef, undef, undef], defers := [] })
    ?hAx ?assign ?body ?done ?stop
  case hap =>
    intro hp a e
    obtain ⟨b, off, e', hbl, _⟩ := HL.out.1.at hp
    rw [e] at e'
    obtain rfl := Option.some.inj e'
    exact hbl
  case hI => exact JwI.own HJ.out.1 (by omega)
  case hIx => exact fun c => JwX.own HJ.out.2.1 (by omega) c
  case hAx =>
    rintro x a' _ A B row ⟨Bx, h0, h1, rfl⟩ hg hr
    exact ⟨Bx, h0, ptat_keep h1 hg (fun r e => (hr r e).2), rfl⟩
  case h0 => exact ⟨⟨[], rfl, HJ.out.1 _ _ _ HJ.out.2.2 HA.out.2.2.1⟩, ⟨HA.out.2.2.2.2, HA.out.2.2.2.1, by omega⟩, KA.of_below HA.out.2.2.1⟩
  case assign =>
    rintro l2 pre x V K ⟨⟨p, hp, hj⟩, ⟨b0, b1, hz⟩, hk⟩ hH hK
    have HK := Lib.hid hK
    have hb := Below.new V (.cells #[.int .i64 x.a.l, .int .u64 x.a.c, .int .i64 x.a.i, .slice x.va x.os.length x.vc] 44)
    have HP := Lib.hid (show JwI l w W J pre (V.alloc (.cells #[.int .i64 x.a.l, .int .u64 x.a.c, .int .i64 x.a.i, .slice x.va x.os.length x.vc] 44)) from JwI.own HJ.out.1 (Nat.le_refl _) pre V _ none ⟨⟨p, hp, hj⟩, ⟨b0, b1, hz⟩, hk⟩ (below_grown hb) (fun r e => by cases e))
    clear hK b0 b1 hj hk hp hb
    simp only [pv]
    gi_wp2
    exact HK.out _ _ ((KeepsOthers.alloc _ _).from _) (KS.of_below (m := V.heap.size) (Below.new V _) (fun k hk => by omega)) HP.out ⟨V.heap.size, hz, PtAt.new V x _, rfl⟩
  case body =>
    rintro l2 pre x a' V ⟨⟨p, hp, hj⟩, ⟨b0, b1, hz⟩, hk⟩ hH ⟨Bx, hBx, hx, rfl⟩
    obtain ⟨q, hq⟩ : ∃ q, lastW none (pts pre) = q := ⟨_, rfl⟩
    rw [hq] at b1
    have hm : x ∈ zs := hH.subset (by simp)
    have hwV : Below w.heap.size w V := HL.out.2.2.2.trans (hk.low (by omega) (by omega))
    have HV := Lib.hid (And.intro hp (And.intro hj (And.intro hk (And.intro b0 (And.intro b1 (And.intro hx (And.intro hH hq)))))))
    have HX := Lib.hid (And.intro (HL.out.2.2.1 x hm) (And.intro ((HL.out.1.hrows x hm).more hwV) (HL.out.2.1.more hwV)))
    clear hj hk b0 b1 hx hH hq hm hwV hp
    gi_wp2
    have hVd : Below V.heap.size V V.drew := (Below.refl _ V).drew
    refine wpIn_round_any (k := 7) (by kernel_rfl) rfl ?_
    refine jw_region (n := n - 1 - 1) (V := V.drew) (by omega) (s := s) (l := l) (x := x) (p := q) rfl HV.out.2.2.2.1.cell (HV.out.2.2.2.2.1.lab.more hVd) (HV.out.2.2.2.2.2.1.more hVd) HX.out.1 (HX.out.2.1.more hVd) (HX.out.2.2.more hVd) (m := n - 1)
      (fun w1 v hb1 hv => HY.out p (x, v) w1 (HJ.out.1 p V w1 HV.out.2.1 ((hVd.trans hb1).mono (by omega))) ⟨by rw [HV.out.1]; exact HV.out.2.2.2.2.2.2.1, by rw [HV.out.1, HV.out.2.2.2.2.2.2.2]; exact hv⟩) ?_
    rintro w1 v e w3 hb1 hv (⟨rfl, hj3, hk3, hf3⟩ | ⟨rfl, hj3, hf3⟩)
    · refine ⟨true, rfl, ?_⟩
      have hb2 : Below V.heap.size V w1 := hVd.trans hb1
      have k3 : KA (w.heap.size + 1) V w3 := (KA.of_below hb2).trans hk3
      have b3 := k3.boxL HV.out.2.2.2.2.1 (by omega)
      have f3 := k3.boxed HV.out.2.2.2.1 (by omega)
      obtain ⟨z0, z1, z2⟩ := b3.lab
      obtain ⟨fz0, fz1, fz2⟩ := b3.frozen
      have ox : PtAt w3 Bx 0 x := HV.out.2.2.2.2.2.1.of_block (k3.block Bx HV.out.2.2.2.2.2.1.lt (fun e => by cases e; omega))
      obtain ⟨y0, y1, y2, _⟩ := ox.var
      have hsz := k3.size
      have hne : Bx ≠ W.heap.size + 1 := by omega
      have HE := Lib.hid (show KeepsFrom W0.heap.size V (((w3.setCell ⟨W.heap.size + 1, 0, none⟩ (.int .i64 x.a.l)).setCell ⟨W.heap.size + 1, 1, none⟩ (.int .u64 x.a.c)).setCell ⟨W.heap.size + 1, 2, none⟩ (.int .i64 x.a.i)) ∧ KS (fun k => k < w.heap.size) V (((w3.setCell ⟨W.heap.size + 1, 0, none⟩ (.int .i64 x.a.l)).setCell ⟨W.heap.size + 1, 1, none⟩ (.int .u64 x.a.c)).setCell ⟨W.heap.size + 1, 2, none⟩ (.int .i64 x.a.i)) ∧ JwI l w W J (pre ++ [x]) (((w3.setCell ⟨W.heap.size + 1, 0, none⟩ (.int .i64 x.a.l)).setCell ⟨W.heap.size + 1, 1, none⟩ (.int .u64 x.a.c)).setCell ⟨W.heap.size + 1, 2, none⟩ (.int .i64 x.a.i)) from by
        refine ⟨(((keeps_below hb2).from _).trans (KeepsFrom.up hf3 (by omega))).trans (keeps_set3 _ _ _ _ _ _), ⟨by rw [size_set3]; exact hsz, fun k hk => ((below_set3 (n := W.heap.size + 1) w3 (Nat.le_refl _) _ _ _).block k (by omega)).trans (k3.block k (by omega) (fun e => by cases e; omega))⟩, ⟨p ++ [(x, v)], by rw [fstP_snoc, HV.out.1], ?_⟩, ⟨?_, ?_, ?_⟩, ?_⟩
        · exact HJ.out.1 _ w3 _ hj3 (below_set3 w3 (by omega) _ _ _)
        · exact boxed_off (boxed_off (boxed_off f3 (by omega) _) (by omega) _) (by omega) _
        · rw [pts_snoc, lastW_snoc]
          exact b3.set x.a
        · rw [size_set3]; omega
        · exact ka_set3 (HV.out.2.2.1.trans k3) (by omega) _ _ _)
      clear hj3 hk3 hf3 hb2 k3 b3 f3 ox hv hb1 hVd
      gi_wp2
      exact HE.out
    · refine ⟨false, rfl, ?_⟩
      have HE := Lib.hid (show KeepsFrom W0.heap.size V w3 ∧ JwX W Jx .ret (pre ++ [x]) w3 from ⟨((keeps_below (hVd.trans hb1)).from _).trans (KeepsFrom.up hf3 (by omega)), rfl, ⟨p ++ [(x, v)], by rw [fstP_snoc, HV.out.1], hj3⟩, by have := (hVd.trans hb1).size; have := hf3.size; omega⟩)
      clear hj3 hf3 hv hb1 hVd
      gi_wp2
      exact HE.out
  case done =>
    rintro D ys V hD rfl ⟨⟨p, hp, hj⟩, _, hk⟩ hK
    have HU := Lib.hid (And.intro hp (And.intro (HJ.out.1 _ _ (V.putObj D (.deferred none)) hj (below_put V _ _ _ (by omega))) hK))
    clear hj hk hK hp
    gi_wp2
    refine ⟨by simp, .inl ⟨_, _, rfl, run_takeDeferred HU.out.2.2, ?_⟩⟩
    exact ⟨_, results_none rfl _ _ _, ⟨_, rfl⟩, .inl ⟨p, HU.out.1, HU.out.2.1⟩⟩
  case stop =>
    rintro D c pre V hD hpre ⟨rfl, ⟨p, hp, hj⟩, _⟩ hK
    have HU := Lib.hid (And.intro hp (And.intro (HJ.out.2.1 _ _ (V.putObj D (.deferred none)) hj (below_put V _ _ _ (by omega))) (And.intro hK hpre)))
    clear hj hK hp hpre
    gi_wp2
    refine ⟨by simp, .inl ⟨_, _, rfl, run_takeDeferred HU.out.2.2.1, ?_⟩⟩
    exact ⟨_, results_none rfl _ _ _, ⟨_, rfl⟩, .inr ⟨p, by rw [HU.out.1]; exact HU.out.2.2.2, HU.out.2.1⟩⟩

end Go.Proofs.YtlafcplcjpcikaaGreatDoor

/- check, Right. -/
namespace Go.Proofs.YtlafcplcjpcikaaGreatDoor
open Go.RowKit Go.Proofs.Fld Go.Proofs.Rng Go.Proofs.Spc Go.Proofs.Cats Go.Proofs.Wld Go.Shelf Go.Sort

attribute [local go_sem] Oper.semAt_some

/-- What check tells. -/
def CwP (b : Bool) (w : World) (e : Ending) (w' : World) : Prop := ((b = true ∧ e = .returned .nilIface) ∨ (b = false ∧ ∃ s, e = .returned (.iface 97 (.agg #[.int .i64 110, .string s])))) ∧ Below w.heap.size w w'
/-- check between two rounds. -/
def CwI (w : World) (pre : List (Pv × Value)) (W : World) : Prop := (Boxed W w.heap.size 57 .nilIface ∧ goodW none (pts (fstP pre)) = true ∧ w.heap.size + 2 ≤ W.heap.size) ∧ Below w.heap.size w W
/-- .. when a round has left. -/
def CwX (zs : List Pv) (w : World) (c : Code) (_ : List (Pv × Value)) (W : World) : Prop := (c = .ret ∧ rightW (pts zs) = false ∧ ∃ s, Boxed W w.heap.size 57 (.iface 97 (.agg #[.int .i64 110, .string s]))) ∧ Below w.heap.size w W
theorem CwI.ab {w : World} : AbB (w.heap.size + 2) (CwI w) := by
  rintro pre A B ⟨⟨b0, hg, hz⟩, hb⟩ hk
  exact ⟨⟨boxed_low b0 hk (by omega), hg, Nat.le_trans hz hk.size⟩, hb.trans (hk.mono (by omega))⟩
theorem CwX.ab {zs : List Pv} {w : World} (c : Code) : AbB (w.heap.size + 2) (CwX zs w c) := by
  rintro pre A B ⟨⟨hc, hg, s, b0⟩, hb⟩ hk
  exact ⟨⟨hc, hg, s, boxed_low b0 hk (by omega)⟩, hb.trans (hk.mono (by omega))⟩
theorem goodW_prefix {zs p : List Pv} {x : Pv} (h : p ++ [x] <+: zs) (hn : nextW (lastW none (pts p)) (pt x) = false) : rightW (pts zs) = false := by
  obtain ⟨t, rfl⟩ := h
  rw [show pts (p ++ [x] ++ t) = pts p ++ pt x :: pts t by simp [pts]]
  exact goodW_stop hn

set_option maxRecDepth 100000 in
set_option maxHeartbeats 4000000 in
theorem checkW_in (n : Nat) (hn : 6 ≤ n) {s : Sn} (ao : Option Addr) (len cap : Nat) (zs : List Pv) (hreach : len ≤ 1000000) (w : World) (hs : Ev s w) (hbd : ∀ x ∈ zs, Small (obs x.os)) (hL : Parts w ao len cap zs) :
    CallsIn Fence.wide n Tryz.prog 31 #[.slice ao len cap] w (CwP (rightW (pts zs)) w) := by
  have hn1 : 1 ≤ n := by omega
  refine callsIn_of_wp_marks Tryz.func31 rfl trivial ?_ rfl
  simp only [Tryz.ntmps31, List.size_toArray, List.length_cons, List.length_nil, Nat.reduceAdd, Nat.reduceSub, Array.replicate_succ, Array.replicate_zero, List.push_toArray, List.append_toArray, List.nil_append, List.cons_append]
  have hB1 := Below.new w (.cells #[.nilIface] 57)
  have b1 := Boxed.new w 57 .nilIface
  have hB2 := hB1.alloc (by simp) (.cells #[.slice ao len cap] 58)
  have b2 := b1.alloc (.cells #[.slice ao len cap] 58)
  have hz : ((w.alloc (.cells #[.nilIface] 57)).alloc (.cells #[.slice ao len cap] 58)).heap.size = w.heap.size + 2 := by simp
  have hc : ((w.alloc (.cells #[.nilIface] 57)).alloc (.cells #[.slice ao len cap] 58)).cell? ⟨w.heap.size + 1, 0, none⟩ = some (.slice ao len cap) := by simp
  obtain ⟨W0, hW0⟩ : ∃ W0, (w.alloc (.cells #[.nilIface] 57)).alloc (.cells #[.slice ao len cap] 58) = W0 := ⟨_, rfl⟩
  rw [hW0] at hB2 b2 hz hc
  have HA := Lib.hid (And.intro hB2 (And.intro b2 (And.intro hc (And.intro (hL.more hB2) (And.intro (hs.more hB2) hbd)))))
  have HJ := Lib.hid (judgedW_any ao len cap (w.alloc (.cells #[.nilIface] 57)))
  have HWE := Lib.hid hW0
  clear hs hbd hL hB1 hB2 b1 b2 hc hW0
  gi_wp2_with (refine ⟨trivial, ?_⟩; gi_at_call 39; refine (callsIn_wide.2 HJ.out).mono ?_)
  rintro e w0 ⟨rfl, rfl⟩
  rw [HWE.out, World.size_alloc]
  gi_wp2
  refine wpIn_rangeB hn1 (gf := 58) (lb := #[.pointer (some ⟨w.heap.size + 1, 0, none⟩)]) rfl (enters_of Tryz.func58 (by kernel_rfl) rfl)
    (judgedW1 (n - 1) (by omega) (w.heap.size + 1) len cap ao zs hreach W0 HA.out.2.2.2.2.1 HA.out.2.2.2.2.2 HA.out.2.2.1 HA.out.2.2.2.1) KA.trans (fun V o o' _ _ _ => grownBy_putObj' V _ o') (fun _ => rfl)
    (CwI w) (CwX zs w) ?hI ?hIx ?h0
    (fun y a' _ => a' = { tmps := #[.slice ao len cap, undef, .pointer (some ⟨w.heap.size, 0, none⟩), undef, y.2, .slice ao len cap, .func (.func 58) #[] #[.pointer (some ⟨w.heap.size + 1, 0, none⟩)], pv y.1, y.2, undef, undef, undef], defers := [] })
    ?hAx ?assign ?body ?done ?stop
  case hI => rw [hz]; exact CwI.ab
  case hIx => rw [hz]; exact fun c => CwX.ab c
  case hAx =>
    rintro x a' _ A B row rfl hg hr
    rfl
  case h0 => exact ⟨⟨HA.out.2.1, rfl, by omega⟩, HA.out.1⟩
  case assign =>
    rintro l pre ⟨x, v⟩ V K hI hH hK
    have HK := Lib.hid hK
    have HP := Lib.hid hI
    clear hK hI hH
    simp only [encP]
    gi_wp2
    exact HK.out _ _ (KeepsFrom.refl _ _) (World.grownBy.refl _ _) HP.out rfl
  case body =>
    rintro l pre ⟨x, v⟩ a' V ⟨⟨b0, hg, hz1⟩, hB⟩ ⟨hH, hv⟩ rfl
    have cb := b0.cell
    have fb := b0.frozen
    have HP := Lib.hid (And.intro b0 (And.intro hg (And.intro hB hH)))
    rcases hv with ⟨hn, rfl⟩ | ⟨hn, s1, rfl⟩
    · have HN := Lib.hid hn
      clear b0 hg hB hH hn
      gi_wp2
      refine ⟨KeepsFrom.refl _ _, World.grownBy.refl _ _, ⟨HP.out.1, ?_, hz1⟩, HP.out.2.2.1⟩
      rw [fstP_snoc, pts_snoc, goodW_snoc, HP.out.2.1]
      exact HN.out
    · have HN := Lib.hid (goodW_prefix hH hn)
      clear hg hB hH hn b0
      simp only [Wt.flt]
      gi_wp2
      exact ⟨(KeepsOthers.setCell _ _ _).from _, ⟨rfl, HN.out, s1, HP.out.1.set _⟩, HP.out.2.2.1.setCell (p := ⟨w.heap.size, 0, none⟩) (Nat.le_refl _) _⟩
  case done =>
    rintro D ys V hD hy ⟨⟨b0, hg, hz1⟩, hB⟩ hK
    have cb := b0.cell
    have fb := b0.frozen
    have HU := Lib.hid (And.intro (show rightW (pts zs) = true by rw [← hy]; exact hg) (And.intro (b0.set .nilIface) (And.intro (hB.setCell (p := ⟨w.heap.size, 0, none⟩) (Nat.le_refl _) .nilIface) ((KeepsOthers.setCell V ⟨w.heap.size, 0, none⟩ .nilIface).same D _ hK rfl))))
    clear b0 hg hB hK hy
    gi_wp2
    refine ⟨by simp, .inl ⟨_, _, rfl, run_takeDeferred HU.out.2.2.2, ?_⟩⟩
    have c1 := (boxed_put (.deferred none) HU.out.2.1 HU.out.2.2.2 rfl).cell
    refine ⟨.nilIface, ?_, .inl ⟨HU.out.1, rfl⟩, HU.out.2.2.1.trans (belowK_b (w := w) (Nat.le_refl _) _ D _ _ (by omega) HU.out.2.2.2 rfl rfl)⟩
    generalize ((V.setCell ⟨w.heap.size, 0, none⟩ .nilIface).putObj D (.deferred none)) = WF at c1 ⊢
    simp [results, Tryz.results31, go_sem, c1]
  case stop =>
    rintro D c pre V hD _ ⟨⟨rfl, hg, s1, b0⟩, hB⟩ hK
    have cb := b0.cell
    have HU := Lib.hid (And.intro hg (And.intro b0 (And.intro hB hK)))
    clear b0 hg hB hK
    gi_wp2
    refine ⟨by simp, .inl ⟨_, _, rfl, run_takeDeferred HU.out.2.2.2, ?_⟩⟩
    have c1 := (boxed_put (.deferred none) HU.out.2.1 HU.out.2.2.2 rfl).cell
    refine ⟨.iface 97 (.agg #[.int .i64 110, .string s1]), ?_, .inr ⟨HU.out.1, _, rfl⟩, HU.out.2.2.1.trans (belowK_b (w := w) (Nat.le_refl _) _ D _ _ (by omega) HU.out.2.2.2 rfl rfl)⟩
    generalize (V.putObj D (.deferred none)) = WF at c1 ⊢
    simp [results, Tryz.results31, go_sem, c1]
theorem checkW_any {s : Sn} {b : Bool} {l : List Pt} {ao : Option Addr} {len cap : Nat} {zs : List Pv} {w : World} (hb : rightW l = b) (hL : SP w ao len cap zs l) (hs : Ev s w) :
    Calls Tryz.prog 31 #[.slice ao len cap] w (CwP b w) := by
  obtain rfl := hL.e
  exact hb ▸ (callsIn_wide (n := 6)).1 (checkW_in 6 (by omega) ao len cap zs (by have := hL.le; omega) w hs (fun x hx => hL.s.b _ (mem_pts hx)) hL.o)

set_option maxHeartbeats 1000000 in
theorem GRight_w {s : Sn} {w0 w : World} {ao : Option Addr} {k0 cap : Nat} {zs : List Pv} {l : List Pt} {b : Bool} (hb : rightW l = b) (hL : SP w ao k0 cap zs l) (hs : WE s w0 w) :
    Calls Tryz.prog 12 #[.slice ao k0 cap] w (BoolP b w) := by
  have HC := Lib.hid (checkW_any hb hL hs.ev)
  clear hs hL hb
  go_enter Tryz.func12, Tryz.ntmps12
  go_wp2_with (go_at_call 31; refine HC.out.mono ?_)
  rintro e w1 ⟨⟨rfl, rfl⟩ | ⟨rfl, s1, rfl⟩, hb1⟩
  · have HB := Lib.hid hb1
    clear hb1
    go_wp2
    go_ret
    exact ⟨rfl, HB.out⟩
  · have HB := Lib.hid hb1
    clear hb1
    go_wp2
    go_ret
    exact ⟨rfl, HB.out⟩

end Go.Proofs.YtlafcplcjpcikaaGreatDoor

/- Within. -/
namespace Go.Proofs.Wld
open Go.Proofs.Cats Go.Proofs.Rng Go.Proofs.Spc
theorem within_no1 {l : List Pt} {q : Int} (h : rightW l = false) : withinW l q = false := by
  unfold withinW
  rw [h, Bool.and_false]
theorem within_no2 {l : List Pt} {q : Int} {x : Pt} (hx : x ∈ l) (h : q < costR x.l) : withinW l q = false := by
  cases e : withinW l q
  · rfl
  · unfold withinW at e
    rw [Bool.and_eq_true, List.all_eq_true] at e
    have := e.1 x hx
    rw [decide_eq_true_eq] at this
    omega
theorem within_yes {l : List Pt} {q : Int} (h : rightW l = true) (k : ∀ x ∈ l, costR x.l ≤ q) : withinW l q = true := by
  unfold withinW
  rw [h, Bool.and_true, List.all_eq_true]
  exact fun x hx => decide_eq_true (k x hx)
end Go.Proofs.Wld
namespace Go.Proofs.YtlafcplcjpcikaaGreatDoor
open Go.RowKit Go.Proofs.Fld Go.Proofs.Rng Go.Proofs.Spc Go.Proofs.Cats Go.Proofs.Wld Go.Shelf Go.Sort

attribute [local go_sem] Oper.semAt_some

/-- Within between two rounds. -/
def WnI (q : Int) (w : World) (pre : List (Pv × Value)) (W : World) : Prop := (Boxed W w.heap.size 3 (.int .i64 q) ∧ Boxed W (w.heap.size + 1) 4 (.bool false) ∧ (goodW none (pts (fstP pre)) = true ∧ ∀ x ∈ fstP pre, costR (obs x.os) ≤ q) ∧ w.heap.size + 3 ≤ W.heap.size) ∧ Below w.heap.size w W
/-- .. when a round has left. -/
def WnX (zs : List Pv) (q : Int) (w : World) (c : Code) (_ : List (Pv × Value)) (W : World) : Prop := (c = .ret ∧ withinW (pts zs) q = false ∧ Boxed W (w.heap.size + 1) 4 (.bool false)) ∧ Below w.heap.size w W
theorem WnI.ab {q : Int} {w : World} : AbB (w.heap.size + 3) (WnI q w) := by
  rintro pre A B ⟨⟨b0, b1, hg, hz⟩, hb⟩ hk
  exact ⟨⟨boxed_low b0 hk (by omega), boxed_low b1 hk (by omega), hg, Nat.le_trans hz hk.size⟩, hb.trans (hk.mono (by omega))⟩
theorem WnX.ab {zs : List Pv} {q : Int} {w : World} (c : Code) : AbB (w.heap.size + 3) (WnX zs q w c) := by
  rintro pre A B ⟨⟨hc, hg, b0⟩, hb⟩ hk
  exact ⟨⟨hc, hg, boxed_low b0 hk (by omega)⟩, hb.trans (hk.mono (by omega))⟩

set_option maxRecDepth 100000 in
set_option maxHeartbeats 8000000 in
theorem within_in (n : Nat) (hn : 6 ≤ n) {s : Sn} (q : Int) (ao : Option Addr) (len cap : Nat) (zs : List Pv) (hreach : len ≤ 1000000) (w : World) (hs : Ev s w) (hbd : ∀ x ∈ zs, Small (obs x.os)) (hL : Parts w ao len cap zs) :
    CallsIn Fence.wide n Tryz.prog 20 #[.slice ao len cap, .int .i64 q] w (BoolP (withinW (pts zs) q) w) := by
  have hn1 : 1 ≤ n := by omega
  refine callsIn_of_wp_marks Tryz.func20 rfl trivial ?_ rfl
  simp only [Tryz.ntmps20, List.size_toArray, List.length_cons, List.length_nil, Nat.reduceAdd, Nat.reduceSub, Array.replicate_succ, Array.replicate_zero, List.push_toArray, List.append_toArray, List.nil_append, List.cons_append]
  have hB1 := (Below.new w (.cells #[.int .i64 q] 3)).alloc (by simp) (.cells #[.bool false] 4)
  have b0 := (Boxed.new w 3 (.int .i64 q)).alloc (.cells #[.bool false] 4)
  have b1 := Boxed.new (w.alloc (.cells #[.int .i64 q] 3)) 4 (.bool false)
  rw [World.size_alloc] at b1
  have hB2 := hB1.alloc (by simp; omega) (.cells #[.slice ao len cap] 58)
  replace b0 := b0.alloc (.cells #[.slice ao len cap] 58)
  replace b1 := b1.alloc (.cells #[.slice ao len cap] 58)
  have hz : (((w.alloc (.cells #[.int .i64 q] 3)).alloc (.cells #[.bool false] 4)).alloc (.cells #[.slice ao len cap] 58)).heap.size = w.heap.size + 3 := by simp
  have hc : (((w.alloc (.cells #[.int .i64 q] 3)).alloc (.cells #[.bool false] 4)).alloc (.cells #[.slice ao len cap] 58)).cell? ⟨w.heap.size + 1 + 1, 0, none⟩ = some (.slice ao len cap) := by
    rw [World.cell?_alloc_at _ _ _ _ (by simp)]
    rfl
  obtain ⟨W0, hW0⟩ : ∃ W0, ((w.alloc (.cells #[.int .i64 q] 3)).alloc (.cells #[.bool false] 4)).alloc (.cells #[.slice ao len cap] 58) = W0 := ⟨_, rfl⟩
  rw [hW0] at hB2 b0 b1 hz hc
  have HA := Lib.hid (And.intro hB2 (And.intro b0 (And.intro hc (And.intro (hL.more hB2) (And.intro (hs.more hB2) hbd)))))
  have HA1 := Lib.hid (And.intro b1 (And.intro hL hs))
  have HJ := Lib.hid (judgedW_any ao len cap ((w.alloc (.cells #[.int .i64 q] 3)).alloc (.cells #[.bool false] 4)))
  have HWE := Lib.hid hW0
  clear hs hbd hL hB1 hB2 b0 b1 hc hW0
  gi_wp2_with (refine ⟨trivial, ?_⟩; gi_at_call 39; refine (callsIn_wide.2 HJ.out).mono ?_)
  rintro e w0 ⟨rfl, rfl⟩
  rw [HWE.out, World.size_alloc, World.size_alloc]
  gi_wp2
  refine wpIn_rangeB hn1 (gf := 58) (lb := #[.pointer (some ⟨w.heap.size + 1 + 1, 0, none⟩)]) rfl (enters_of Tryz.func58 (by kernel_rfl) rfl)
    (judgedW1 (n - 1) (by omega) (w.heap.size + 1 + 1) len cap ao zs hreach W0 HA.out.2.2.2.2.1 HA.out.2.2.2.2.2 HA.out.2.2.1 HA.out.2.2.2.1) KA.trans (fun V o o' _ _ _ => grownBy_putObj' V _ o') (fun _ => rfl)
    (WnI q w) (WnX zs q w) ?hI ?hIx ?h0
    (fun y a' V => ∃ Bx, w.heap.size + 3 ≤ Bx ∧ PtAt V Bx 0 y.1 ∧ a' = { tmps := #[.slice ao len cap, .int .i64 q, undef, .pointer (some ⟨w.heap.size, 0, none⟩), .pointer (some ⟨w.heap.size + 1, 0, none⟩), .pointer (some ⟨Bx, 0, none⟩), y.2, .slice ao len cap, .func (.func 58) #[] #[.pointer (some ⟨w.heap.size + 1 + 1, 0, none⟩)], pv y.1, y.2, undef, undef, undef, undef, undef, undef, undef, undef, undef], defers := [] })
    ?hAx ?assign ?body ?done ?stop
  case hI => rw [hz]; exact WnI.ab
  case hIx => rw [hz]; exact fun c => WnX.ab c
  case hAx =>
    rintro x a' _ A B row ⟨Bx, h0, h1, rfl⟩ hg hr
    exact ⟨Bx, h0, ptat_keep h1 hg (fun r e => (hr r e).2), rfl⟩
  case h0 => exact ⟨⟨HA.out.2.1, HA1.out.1, ⟨rfl, fun x hx => by cases hx⟩, by omega⟩, HA.out.1⟩
  case assign =>
    rintro l pre ⟨x, v⟩ V K ⟨⟨b0, b1, hg, hz1⟩, hB⟩ hH hK
    have HK := Lib.hid hK
    have hb := Below.new V (.cells #[.int .i64 x.a.l, .int .u64 x.a.c, .int .i64 x.a.i, .slice x.va x.os.length x.vc] 44)
    have HP := Lib.hid (show WnI q w pre (V.alloc (.cells #[.int .i64 x.a.l, .int .u64 x.a.c, .int .i64 x.a.i, .slice x.va x.os.length x.vc] 44)) from WnI.ab pre V _ ⟨⟨b0, b1, hg, hz1⟩, hB⟩ (hb.mono hz1))
    have HB := Lib.hid hb
    clear hK b0 b1 hg hB hb hH
    simp only [encP, pv]
    gi_wp2
    exact HK.out _ _ ((KeepsOthers.alloc _ _).from _) (KA.of_below HB.out) HP.out ⟨V.heap.size, hz1, PtAt.new V x _, rfl⟩
  case body =>
    rintro l pre ⟨x, v⟩ a' V ⟨⟨b0, b1, hg, hz1⟩, hB⟩ ⟨hH, hv⟩ ⟨Bx, hBx, hx, rfl⟩
    have cb := b1.cell
    have fb := b1.frozen
    have hm : x ∈ zs := hH.subset (by simp)
    have hVd : Below V.heap.size V V.drew := (Below.refl _ V).drew
    have HS := Lib.hid (And.intro hx.var.2.2.2 b0.cell)
    have HVd := Lib.hid hVd
    have HP := Lib.hid (And.intro b0 (And.intro b1 (And.intro hg (And.intro hB hH))))
    rcases hv with ⟨hn, rfl⟩ | ⟨hn, s1, rfl⟩
    · have HN := Lib.hid hn
      obtain ⟨c, hcc⟩ : ∃ c, costR (obs x.os) = c := ⟨_, rfl⟩
      have HC := Lib.hid (Cost_w (l := obs x.os) hcc ⟨rfl, ((HA1.out.2.1.hrows x hm).more hB).o.more hVd, HA.out.2.2.2.2.2 x hm⟩ (WE.of ((HA1.out.2.2.more hB).more hVd)))
      by_cases hq : q < c
      · have hd : decide (c > q) = true := decide_eq_true hq
        have HQ := Lib.hid (show withinW (pts zs) q = false from within_no2 (mem_pts hm) (by show q < costR (obs x.os); rw [hcc]; exact hq))
        clear b0 b1 hg hB hH hn hx hm hVd hcc hq
        gi_wp2
        refine Fi.wpIn_round_held (S := (fun w' => w'.cell? ⟨Bx, 3, none⟩ = some (.slice x.va x.os.length x.vc) ∧ w'.cell? ⟨w.heap.size, 0, none⟩ = some (.int .i64 q))) (by kernel_rfl) (by kernel_rfl) (by rintro ⟨_, _, h⟩; exact h) ⟨HS.out.1, HS.out.2⟩ (fun hS0 => ?_)
        refine wpAnyH_take (i := 0) (oi := { dst := some 11, op := Go.Op.move (Go.Operand.tmp 6), type := 57, pos := "world.go:203", after := #[], guard := none }) (v := ?_) rfl (by kernel_rfl) (by kernel_rfl) (by kernel_rfl) (fun _ _ _ h => h) (Or.inl ⟨by rfl, ?_⟩) hS0 ?_; rotate_left; (· (intro wq hSw; obtain ⟨y0, y1⟩ := hSw; go_simp; try with_reducible rfl))
        try simp only [Act.put, List.setIfInBounds_toArray, List.set_cons_zero, List.set_cons_succ]
        refine wpAnyH_take (i := 1) (oi := { dst := some 12, op := Go.Op.binOp Go.BinOp.neq 57 (Go.Operand.tmp 11) (Go.Operand.const Go.Value.nilIface) 57, type := 4, pos := "world.go:203", after := #[{ on := 0, ground := Go.Ground.data }], guard := none }) (v := ?_) rfl (by kernel_rfl) (by kernel_rfl) (by kernel_rfl) (fun _ _ _ h => h) (Or.inl ⟨by rfl, ?_⟩) hS0 ?_; rotate_left; (· (intro wq hSw; obtain ⟨y0, y1⟩ := hSw; go_simp; try with_reducible rfl))
        try simp only [Act.put, List.setIfInBounds_toArray, List.set_cons_zero, List.set_cons_succ]
        refine wpAnyH_take (i := 2) (oi := { dst := some 13, op := Go.Op.move (Go.Operand.tmp 12), type := 4, pos := "world.go:203", after := #[{ on := 1, ground := Go.Ground.data }], guard := none }) (v := ?_) rfl (by kernel_rfl) (by kernel_rfl) (by kernel_rfl) (fun _ _ _ h => h) (Or.inl ⟨by rfl, ?_⟩) hS0 ?_; rotate_left; (· (intro wq hSw; obtain ⟨y0, y1⟩ := hSw; go_simp; try with_reducible rfl))
        try simp only [Act.put, List.setIfInBounds_toArray, List.set_cons_zero, List.set_cons_succ]
        refine wpAnyH_take (i := 3) (oi := { dst := some 14, op := Go.Op.fieldAddr 44 (Go.Operand.tmp 5) 1, type := 0, pos := "world.go:203", after := #[{ on := 2, ground := Go.Ground.guard }], guard := some (2, false) }) (v := ?_) rfl (by kernel_rfl) (by kernel_rfl) (by kernel_rfl) (fun _ _ _ h => h) (Or.inl ⟨by rfl, ?_⟩) hS0 ?_; rotate_left; (· (intro wq hSw; obtain ⟨y0, y1⟩ := hSw; go_simp; try with_reducible rfl))
        try simp only [Act.put, List.setIfInBounds_toArray, List.set_cons_zero, List.set_cons_succ]
        refine wpAnyH_take (i := 4) (oi := { dst := some 15, op := Go.Op.load 30 (Go.Operand.tmp 14), type := 30, pos := "world.go:203", after := #[{ on := 3, ground := Go.Ground.data }, { on := 2, ground := Go.Ground.guard }], guard := some (2, false) }) (v := ?_) rfl (by kernel_rfl) (by kernel_rfl) (by kernel_rfl) (fun _ _ _ h => h) (Or.inl ⟨by rfl, ?_⟩) hS0 ?_; rotate_left; (· (intro wq hSw; obtain ⟨y0, y1⟩ := hSw; go_simp; try with_reducible rfl))
        try simp only [Act.put, List.setIfInBounds_toArray, List.set_cons_zero, List.set_cons_succ]
        refine wpAnyH_take (i := 6) (oi := { dst := some 17, op := Go.Op.load 3 (Go.Operand.tmp 3), type := 3, pos := "world.go:203", after := #[{ on := 2, ground := Go.Ground.guard }], guard := some (2, false) }) (v := ?_) rfl (by kernel_rfl) (by kernel_rfl) (by kernel_rfl) (fun _ _ _ h => h) (Or.inl ⟨by rfl, ?_⟩) hS0 ?_; rotate_left; (· (intro wq hSw; obtain ⟨y0, y1⟩ := hSw; go_simp; try with_reducible rfl))
        try simp only [Act.put, List.setIfInBounds_toArray, List.set_cons_zero, List.set_cons_succ]
        refine wpAnyH_ready (rs := [5]) (by kernel_rfl) (by simp) ?_
        refine AllReadyH.cons (o := { dst := some 16, op := Go.Op.call { callee := Go.Callee.value (Go.Operand.func 40), args := #[Go.Operand.tmp 15], argTypes := #[30] }, type := 3, pos := "world.go:203", after := #[{ on := 4, ground := Go.Ground.data }, { on := 2, ground := Go.Ground.chain }, { on := 2, ground := Go.Ground.guard }], guard := some (2, false) }) rfl (fun K hK => ?_) AllReadyH.nil
        go_simp
        refine HC.out.mono ?_
        rintro e we ⟨rfl, hb3⟩
        have HD := Lib.hid (HVd.out.trans (hb3.mono HVd.out.size))
        refine hK.out _ _ (⟨cell_later hb3 hS0.1, cell_later hb3 hS0.2⟩) (fun hS1 => ?_)
        clear hK K hS0 hb3
        try simp only [Act.put, List.setIfInBounds_toArray, List.set_cons_zero, List.set_cons_succ]
        refine wpAnyH_take (i := 7) (oi := { dst := some 18, op := Go.Op.binOp Go.BinOp.gtr 3 (Go.Operand.tmp 16) (Go.Operand.tmp 17) 3, type := 4, pos := "world.go:203", after := #[{ on := 5, ground := Go.Ground.data }, { on := 6, ground := Go.Ground.data }, { on := 2, ground := Go.Ground.guard }], guard := some (2, false) }) (v := ?_) rfl (by kernel_rfl) (by kernel_rfl) (by kernel_rfl) (fun _ _ _ h => h) (Or.inl ⟨by rfl, ?_⟩) hS1 ?_; rotate_left; (· (intro wq hSw; obtain ⟨y0, y1⟩ := hSw; go_simp; try with_reducible rfl))
        try simp only [Act.put, List.setIfInBounds_toArray, List.set_cons_zero, List.set_cons_succ]
        refine wpAnyH_take (i := 8) (oi := { dst := some 19, op := Go.Op.pick (Go.Operand.tmp 13) (Go.Operand.const (Go.Value.bool true)) (Go.Operand.tmp 18), type := 4, pos := "world.go:203", after := #[{ on := 2, ground := Go.Ground.data }, { on := 7, ground := Go.Ground.data }], guard := none }) (v := ?_) rfl (by kernel_rfl) (by kernel_rfl) (by kernel_rfl) (fun _ _ _ h => h) (Or.inl ⟨by rfl, ?_⟩) hS1 ?_; rotate_left; (· (intro wq hSw; obtain ⟨y0, y1⟩ := hSw; go_simp; try with_reducible rfl))
        try simp only [Act.put, List.setIfInBounds_toArray, List.set_cons_zero, List.set_cons_succ]
        refine wpAnyH_done (by kernel_rfl) ?_ _
        have b3 := boxed_more HP.out.2.1 HD.out
        have hB3 := below_more HP.out.2.2.2.1 HD.out
        have cb3 := b3.cell
        have fb3 := b3.frozen
        have HU := Lib.hid (And.intro b3 (And.intro hB3 ((keeps_below HD.out).from (B := W0.heap.size))))
        clear b3 hB3
        gi_wp2
        exact ⟨HU.out.2.2.trans ((KeepsOthers.setCell _ _ _).from _), ⟨rfl, HQ.out, HU.out.1.set _⟩, HU.out.2.1.setCell (p := ⟨w.heap.size + 1, 0, none⟩) (by simp) _⟩
      · have hd : decide (c > q) = false := decide_eq_false hq
        have HQ := Lib.hid (show costR (obs x.os) ≤ q by omega)
        clear b0 b1 hg hB hH hn hx hm hVd hcc hq
        gi_wp2
        refine Fi.wpIn_round_held (S := (fun w' => w'.cell? ⟨Bx, 3, none⟩ = some (.slice x.va x.os.length x.vc) ∧ w'.cell? ⟨w.heap.size, 0, none⟩ = some (.int .i64 q))) (by kernel_rfl) (by kernel_rfl) (by rintro ⟨_, _, h⟩; exact h) ⟨HS.out.1, HS.out.2⟩ (fun hS0 => ?_)
        refine wpAnyH_take (i := 0) (oi := { dst := some 11, op := Go.Op.move (Go.Operand.tmp 6), type := 57, pos := "world.go:203", after := #[], guard := none }) (v := ?_) rfl (by kernel_rfl) (by kernel_rfl) (by kernel_rfl) (fun _ _ _ h => h) (Or.inl ⟨by rfl, ?_⟩) hS0 ?_; rotate_left; (· (intro wq hSw; obtain ⟨y0, y1⟩ := hSw; go_simp; try with_reducible rfl))
        try simp only [Act.put, List.setIfInBounds_toArray, List.set_cons_zero, List.set_cons_succ]
        refine wpAnyH_take (i := 1) (oi := { dst := some 12, op := Go.Op.binOp Go.BinOp.neq 57 (Go.Operand.tmp 11) (Go.Operand.const Go.Value.nilIface) 57, type := 4, pos := "world.go:203", after := #[{ on := 0, ground := Go.Ground.data }], guard := none }) (v := ?_) rfl (by kernel_rfl) (by kernel_rfl) (by kernel_rfl) (fun _ _ _ h => h) (Or.inl ⟨by rfl, ?_⟩) hS0 ?_; rotate_left; (· (intro wq hSw; obtain ⟨y0, y1⟩ := hSw; go_simp; try with_reducible rfl))
        try simp only [Act.put, List.setIfInBounds_toArray, List.set_cons_zero, List.set_cons_succ]
        refine wpAnyH_take (i := 2) (oi := { dst := some 13, op := Go.Op.move (Go.Operand.tmp 12), type := 4, pos := "world.go:203", after := #[{ on := 1, ground := Go.Ground.data }], guard := none }) (v := ?_) rfl (by kernel_rfl) (by kernel_rfl) (by kernel_rfl) (fun _ _ _ h => h) (Or.inl ⟨by rfl, ?_⟩) hS0 ?_; rotate_left; (· (intro wq hSw; obtain ⟨y0, y1⟩ := hSw; go_simp; try with_reducible rfl))
        try simp only [Act.put, List.setIfInBounds_toArray, List.set_cons_zero, List.set_cons_succ]
        refine wpAnyH_take (i := 3) (oi := { dst := some 14, op := Go.Op.fieldAddr 44 (Go.Operand.tmp 5) 1, type := 0, pos := "world.go:203", after := #[{ on := 2, ground := Go.Ground.guard }], guard := some (2, false) }) (v := ?_) rfl (by kernel_rfl) (by kernel_rfl) (by kernel_rfl) (fun _ _ _ h => h) (Or.inl ⟨by rfl, ?_⟩) hS0 ?_; rotate_left; (· (intro wq hSw; obtain ⟨y0, y1⟩ := hSw; go_simp; try with_reducible rfl))
        try simp only [Act.put, List.setIfInBounds_toArray, List.set_cons_zero, List.set_cons_succ]
        refine wpAnyH_take (i := 4) (oi := { dst := some 15, op := Go.Op.load 30 (Go.Operand.tmp 14), type := 30, pos := "world.go:203", after := #[{ on := 3, ground := Go.Ground.data }, { on := 2, ground := Go.Ground.guard }], guard := some (2, false) }) (v := ?_) rfl (by kernel_rfl) (by kernel_rfl) (by kernel_rfl) (fun _ _ _ h => h) (Or.inl ⟨by rfl, ?_⟩) hS0 ?_; rotate_left; (· (intro wq hSw; obtain ⟨y0, y1⟩ := hSw; go_simp; try with_reducible rfl))
        try simp only [Act.put, List.setIfInBounds_toArray, List.set_cons_zero, List.set_cons_succ]
        refine wpAnyH_take (i := 6) (oi := { dst := some 17, op := Go.Op.load 3 (Go.Operand.tmp 3), type := 3, pos := "world.go:203", after := #[{ on := 2, ground := Go.Ground.guard }], guard := some (2, false) }) (v := ?_) rfl (by kernel_rfl) (by kernel_rfl) (by kernel_rfl) (fun _ _ _ h => h) (Or.inl ⟨by rfl, ?_⟩) hS0 ?_; rotate_left; (· (intro wq hSw; obtain ⟨y0, y1⟩ := hSw; go_simp; try with_reducible rfl))
        try simp only [Act.put, List.setIfInBounds_toArray, List.set_cons_zero, List.set_cons_succ]
        refine wpAnyH_ready (rs := [5]) (by kernel_rfl) (by simp) ?_
        refine AllReadyH.cons (o := { dst := some 16, op := Go.Op.call { callee := Go.Callee.value (Go.Operand.func 40), args := #[Go.Operand.tmp 15], argTypes := #[30] }, type := 3, pos := "world.go:203", after := #[{ on := 4, ground := Go.Ground.data }, { on := 2, ground := Go.Ground.chain }, { on := 2, ground := Go.Ground.guard }], guard := some (2, false) }) rfl (fun K hK => ?_) AllReadyH.nil
        go_simp
        refine HC.out.mono ?_
        rintro e we ⟨rfl, hb3⟩
        have HD := Lib.hid (HVd.out.trans (hb3.mono HVd.out.size))
        refine hK.out _ _ (⟨cell_later hb3 hS0.1, cell_later hb3 hS0.2⟩) (fun hS1 => ?_)
        clear hK K hS0 hb3
        try simp only [Act.put, List.setIfInBounds_toArray, List.set_cons_zero, List.set_cons_succ]
        refine wpAnyH_take (i := 7) (oi := { dst := some 18, op := Go.Op.binOp Go.BinOp.gtr 3 (Go.Operand.tmp 16) (Go.Operand.tmp 17) 3, type := 4, pos := "world.go:203", after := #[{ on := 5, ground := Go.Ground.data }, { on := 6, ground := Go.Ground.data }, { on := 2, ground := Go.Ground.guard }], guard := some (2, false) }) (v := ?_) rfl (by kernel_rfl) (by kernel_rfl) (by kernel_rfl) (fun _ _ _ h => h) (Or.inl ⟨by rfl, ?_⟩) hS1 ?_; rotate_left; (· (intro wq hSw; obtain ⟨y0, y1⟩ := hSw; go_simp; try with_reducible rfl))
        try simp only [Act.put, List.setIfInBounds_toArray, List.set_cons_zero, List.set_cons_succ]
        refine wpAnyH_take (i := 8) (oi := { dst := some 19, op := Go.Op.pick (Go.Operand.tmp 13) (Go.Operand.const (Go.Value.bool true)) (Go.Operand.tmp 18), type := 4, pos := "world.go:203", after := #[{ on := 2, ground := Go.Ground.data }, { on := 7, ground := Go.Ground.data }], guard := none }) (v := ?_) rfl (by kernel_rfl) (by kernel_rfl) (by kernel_rfl) (fun _ _ _ h => h) (Or.inl ⟨by rfl, ?_⟩) hS1 ?_; rotate_left; (· (intro wq hSw; obtain ⟨y0, y1⟩ := hSw; go_simp; try with_reducible rfl))
        try simp only [Act.put, List.setIfInBounds_toArray, List.set_cons_zero, List.set_cons_succ]
        refine wpAnyH_done (by kernel_rfl) ?_ _
        have b3 := boxed_more HP.out.1 HD.out
        have b4 := boxed_more HP.out.2.1 HD.out
        have hB3 := below_more HP.out.2.2.2.1 HD.out
        have hz3 := HD.out.size
        have HU := Lib.hid (And.intro b3 (And.intro b4 (And.intro hB3 ((keeps_below HD.out).from (B := W0.heap.size)))))
        clear b3 b4 hB3
        gi_wp2
        refine ⟨HU.out.2.2.2, KA.of_below HD.out, ⟨HU.out.1, HU.out.2.1, ⟨?_, ?_⟩, by omega⟩, HU.out.2.2.1⟩
        · rw [fstP_snoc, pts_snoc, goodW_snoc, HP.out.2.2.1.1]
          exact HN.out
        · intro y hy
          rw [fstP_snoc] at hy
          rcases List.mem_append.1 hy with hy | hy
          · exact HP.out.2.2.1.2 y hy
          · obtain rfl : y = x := by simpa using hy
            exact HQ.out
    · have HN := Lib.hid (within_no1 (q := q) (goodW_prefix hH hn))
      clear hg hB hH hn b0 b1 hx hm hVd
      simp only [Wt.flt]
      gi_wp2
      refine Fi.wpIn_round_held (S := (fun w' => w'.cell? ⟨Bx, 3, none⟩ = some (.slice x.va x.os.length x.vc) ∧ w'.cell? ⟨w.heap.size, 0, none⟩ = some (.int .i64 q))) (by kernel_rfl) (by kernel_rfl) (by rintro ⟨_, _, h⟩; exact h) ⟨HS.out.1, HS.out.2⟩ (fun hS0 => ?_)
      refine wpAnyH_take (i := 0) (oi := { dst := some 11, op := Go.Op.move (Go.Operand.tmp 6), type := 57, pos := "world.go:203", after := #[], guard := none }) (v := ?_) rfl (by kernel_rfl) (by kernel_rfl) (by kernel_rfl) (fun _ _ _ h => h) (Or.inl ⟨by rfl, ?_⟩) hS0 ?_; rotate_left; (· (intro wq hSw; obtain ⟨y0, y1⟩ := hSw; go_simp; try with_reducible rfl))
      try simp only [Act.put, List.setIfInBounds_toArray, List.set_cons_zero, List.set_cons_succ]
      refine wpAnyH_take (i := 1) (oi := { dst := some 12, op := Go.Op.binOp Go.BinOp.neq 57 (Go.Operand.tmp 11) (Go.Operand.const Go.Value.nilIface) 57, type := 4, pos := "world.go:203", after := #[{ on := 0, ground := Go.Ground.data }], guard := none }) (v := ?_) rfl (by kernel_rfl) (by kernel_rfl) (by kernel_rfl) (fun _ _ _ h => h) (Or.inl ⟨by rfl, ?_⟩) hS0 ?_; rotate_left; (· (intro wq hSw; obtain ⟨y0, y1⟩ := hSw; go_simp; try with_reducible rfl))
      try simp only [Act.put, List.setIfInBounds_toArray, List.set_cons_zero, List.set_cons_succ]
      refine wpAnyH_take (i := 2) (oi := { dst := some 13, op := Go.Op.move (Go.Operand.tmp 12), type := 4, pos := "world.go:203", after := #[{ on := 1, ground := Go.Ground.data }], guard := none }) (v := ?_) rfl (by kernel_rfl) (by kernel_rfl) (by kernel_rfl) (fun _ _ _ h => h) (Or.inl ⟨by rfl, ?_⟩) hS0 ?_; rotate_left; (· (intro wq hSw; obtain ⟨y0, y1⟩ := hSw; go_simp; try with_reducible rfl))
      try simp only [Act.put, List.setIfInBounds_toArray, List.set_cons_zero, List.set_cons_succ]
      refine wpAnyH_take (i := 3) (oi := { dst := some 14, op := Go.Op.fieldAddr 44 (Go.Operand.tmp 5) 1, type := 0, pos := "world.go:203", after := #[{ on := 2, ground := Go.Ground.guard }], guard := some (2, false) }) (v := undef) rfl (by kernel_rfl) (by kernel_rfl) (by kernel_rfl) (fun _ _ _ h => h) (Or.inr ⟨by rfl, rfl⟩) hS0 ?_
      try simp only [Act.put, List.setIfInBounds_toArray, List.set_cons_zero, List.set_cons_succ]
      refine wpAnyH_take (i := 4) (oi := { dst := some 15, op := Go.Op.load 30 (Go.Operand.tmp 14), type := 30, pos := "world.go:203", after := #[{ on := 3, ground := Go.Ground.data }, { on := 2, ground := Go.Ground.guard }], guard := some (2, false) }) (v := undef) rfl (by kernel_rfl) (by kernel_rfl) (by kernel_rfl) (fun _ _ _ h => h) (Or.inr ⟨by rfl, rfl⟩) hS0 ?_
      try simp only [Act.put, List.setIfInBounds_toArray, List.set_cons_zero, List.set_cons_succ]
      refine wpAnyH_take (i := 6) (oi := { dst := some 17, op := Go.Op.load 3 (Go.Operand.tmp 3), type := 3, pos := "world.go:203", after := #[{ on := 2, ground := Go.Ground.guard }], guard := some (2, false) }) (v := undef) rfl (by kernel_rfl) (by kernel_rfl) (by kernel_rfl) (fun _ _ _ h => h) (Or.inr ⟨by rfl, rfl⟩) hS0 ?_
      try simp only [Act.put, List.setIfInBounds_toArray, List.set_cons_zero, List.set_cons_succ]
      refine wpAnyH_ready (rs := [5]) (by kernel_rfl) (by simp) ?_
      refine AllReadyH.cons (o := { dst := some 16, op := Go.Op.call { callee := Go.Callee.value (Go.Operand.func 40), args := #[Go.Operand.tmp 15], argTypes := #[30] }, type := 3, pos := "world.go:203", after := #[{ on := 4, ground := Go.Ground.data }, { on := 2, ground := Go.Ground.chain }, { on := 2, ground := Go.Ground.guard }], guard := some (2, false) }) rfl (fun K hK => ?_) AllReadyH.nil
      rw [if_neg (by intro h; cases h)]
      refine hK.out _ _ hS0 (fun hS1 => ?_)
      clear hK K hS0
      try simp only [Act.put, List.setIfInBounds_toArray, List.set_cons_zero, List.set_cons_succ]
      refine wpAnyH_take (i := 7) (oi := { dst := some 18, op := Go.Op.binOp Go.BinOp.gtr 3 (Go.Operand.tmp 16) (Go.Operand.tmp 17) 3, type := 4, pos := "world.go:203", after := #[{ on := 5, ground := Go.Ground.data }, { on := 6, ground := Go.Ground.data }, { on := 2, ground := Go.Ground.guard }], guard := some (2, false) }) (v := undef) rfl (by kernel_rfl) (by kernel_rfl) (by kernel_rfl) (fun _ _ _ h => h) (Or.inr ⟨by rfl, rfl⟩) hS1 ?_
      try simp only [Act.put, List.setIfInBounds_toArray, List.set_cons_zero, List.set_cons_succ]
      refine wpAnyH_take (i := 8) (oi := { dst := some 19, op := Go.Op.pick (Go.Operand.tmp 13) (Go.Operand.const (Go.Value.bool true)) (Go.Operand.tmp 18), type := 4, pos := "world.go:203", after := #[{ on := 2, ground := Go.Ground.data }, { on := 7, ground := Go.Ground.data }], guard := none }) (v := ?_) rfl (by kernel_rfl) (by kernel_rfl) (by kernel_rfl) (fun _ _ _ h => h) (Or.inl ⟨by rfl, ?_⟩) hS1 ?_; rotate_left; (· (intro wq hSw; obtain ⟨y0, y1⟩ := hSw; go_simp; try with_reducible rfl))
      try simp only [Act.put, List.setIfInBounds_toArray, List.set_cons_zero, List.set_cons_succ]
      refine wpAnyH_done (by kernel_rfl) ?_ _
      have cb3 : V.drew.cell? ⟨w.heap.size + 1, 0, none⟩ = some (.bool false) := cb
      have fb3 : V.drew.frozen? ⟨w.heap.size + 1, 0, none⟩ = false := fb
      gi_wp2
      exact ⟨((keeps_below HVd.out).trans (KeepsOthers.setCell _ _ _)).from _, ⟨rfl, HN.out, (boxed_more HP.out.2.1 HVd.out).set _⟩, (below_more HP.out.2.2.2.1 HVd.out).setCell (p := ⟨w.heap.size + 1, 0, none⟩) (by simp) _⟩
  case done =>
    rintro D ys V hD hy ⟨⟨_, b1, hg, hz1⟩, hB⟩ hK
    have cb := b1.cell
    have fb := b1.frozen
    have HU := Lib.hid (And.intro (show withinW (pts zs) q = true from within_yes (by rw [← hy]; exact hg.1) (fun y hy2 => by obtain ⟨z, hz, rfl⟩ := pts_mem hy2; exact hg.2 z (hy ▸ hz))) (And.intro (b1.set (.bool true)) (And.intro (hB.setCell (p := ⟨w.heap.size + 1, 0, none⟩) (by simp) (.bool true)) ((KeepsOthers.setCell V ⟨w.heap.size + 1, 0, none⟩ (.bool true)).same D _ hK rfl))))
    clear b1 hg hB hK hy
    gi_wp2
    refine ⟨by simp, .inl ⟨_, _, rfl, run_takeDeferred HU.out.2.2.2, ?_⟩⟩
    have c1 := (boxed_put (.deferred none) HU.out.2.1 HU.out.2.2.2 rfl).cell
    refine ⟨.bool true, ?_, by rw [HU.out.1], HU.out.2.2.1.trans (belowK_b (w := w) (Nat.le_refl _) _ D _ _ (by omega) HU.out.2.2.2 rfl rfl)⟩
    generalize ((V.setCell ⟨w.heap.size + 1, 0, none⟩ (.bool true)).putObj D (.deferred none)) = WF at c1 ⊢
    simp [results, Tryz.results20, go_sem, c1]
  case stop =>
    rintro D c pre V hD _ ⟨⟨rfl, hg, b0⟩, hB⟩ hK
    have cb := b0.cell
    have HU := Lib.hid (And.intro hg (And.intro b0 (And.intro hB hK)))
    clear b0 hg hB hK
    gi_wp2
    refine ⟨by simp, .inl ⟨_, _, rfl, run_takeDeferred HU.out.2.2.2, ?_⟩⟩
    have c1 := (boxed_put (.deferred none) HU.out.2.1 HU.out.2.2.2 rfl).cell
    refine ⟨.bool false, ?_, by rw [HU.out.1], HU.out.2.2.1.trans (belowK_b (w := w) (Nat.le_refl _) _ D _ _ (by omega) HU.out.2.2.2 rfl rfl)⟩
    generalize (V.putObj D (.deferred none)) = WF at c1 ⊢
    simp [results, Tryz.results20, go_sem, c1]
theorem GWithin_w {s : Sn} {w0 w : World} {ao : Option Addr} {k0 cap : Nat} {zs : List Pv} {l : List Pt} {q : Int} {b : Bool} (hb : withinW l q = b) (hL : SP w ao k0 cap zs l) (hs : WE s w0 w) :
    Calls Tryz.prog 20 #[.slice ao k0 cap, .int .i64 q] w (BoolP b w) := by
  obtain rfl := hL.e
  exact hb ▸ (callsIn_wide (n := 6)).1 (within_in 6 (by omega) q ao k0 cap zs (by have := hL.le; omega) w hs.ev (fun x hx => hL.s.b _ (mem_pts hx)) hL.o)

end Go.Proofs.YtlafcplcjpcikaaGreatDoor
