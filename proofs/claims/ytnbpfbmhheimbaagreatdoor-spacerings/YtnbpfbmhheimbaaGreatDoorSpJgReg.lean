/- The drawn region of judged's body: judge is asked, then yield. -/
import Derived.Test.YtnbpfbmhheimbaaGreatDoorSpFind
import Derived.Test.YtnbpfbmhheimbaaGreatDoorSpJudge
namespace Go.Proofs.YtnbpfbmhheimbaaGreatDoor
open Go.RowKit Go.Proofs.Fld Go.Proofs.Rng Go.Proofs.Spc Go.Shelf Go.Sort

attribute [local go_sem] Oper.semAt_some

/-- What judge tells, as a value. -/
def JudV (b : Bool) (v : Value) : Prop := (b = true ∧ v = .nilIface) ∨ (b = false ∧ ∃ s, v = Sp.flt 110 s)
def JvP (b : Bool) (w : World) (e : Ending) (w' : World) : Prop := ∃ v, e = .returned v ∧ JudV b v ∧ Below w.heap.size w w'
theorem spJudge_v {s : Sn} (x : Ov) (hb : Bd x.o) (a : It) (w : World) (hs : Ev s w) (hx : Lv w x) : Calls Tryz.prog 103 #[.agg #[.string (bs x.o.n), .int .i64 x.o.k, .string (bs x.o.d), .int .i64 x.o.m, .slice x.a x.o.l.length x.c], .string (bs a)] w (JvP (nextB a x.o) w) := by
  refine (spJudge_any x hb a w hs hx).mono ?_
  rintro e w' ⟨⟨h, rfl⟩ | ⟨h, s, rfl⟩, hb⟩
  · exact ⟨_, rfl, .inl ⟨h, rfl⟩, hb⟩
  · exact ⟨_, rfl, .inr ⟨h, s, rfl⟩, hb⟩

set_option maxRecDepth 100000 in
set_option maxHeartbeats 4000000 in
theorem jg_region {l l2 n m : Nat} (hn : 1 ≤ n) {s : Sn} {Q : Exit → Act → World → Prop} {V : World} {Y Z Bx : Nat} {x : Ov} {a : It} {u0 u1 u5 u6 u7 : Value} {R : World → Value → Ending → World → Prop}
    (c2 : V.cell? ⟨Y, 0, none⟩ = some (.func (.yield l) #[] #[])) (c3 : V.cell? ⟨Z, 0, none⟩ = some (.string (bs a))) (hx : ObAt V Bx 0 x) (hb : Bd x.o) (hl : Lv V x) (hs : Ev s V)
    (hY : ∀ w1 v, Below V.heap.size V w1 → JudV (nextB a x.o) v → YieldAt Fence.wide m Tryz.prog l #[ov x, v] w1 (R w1 v))
    (hR : ∀ w1 v e w3, Below V.heap.size V w1 → JudV (nextB a x.o) v → R w1 v e w3 → ∃ g, e = .returned (.bool g) ∧ Q .normal { tmps := #[u0, u1, .pointer (some ⟨Y, 0, none⟩), .pointer (some ⟨Z, 0, none⟩), .pointer (some ⟨Bx, 0, none⟩), u5, u6, u7, .func (.yield l) #[] #[], .agg #[.string (bs x.o.n), .int .i64 x.o.k, .string (bs x.o.d), .int .i64 x.o.m, .slice x.a x.o.l.length x.c], .agg #[.string (bs x.o.n), .int .i64 x.o.k, .string (bs x.o.d), .int .i64 x.o.m, .slice x.a x.o.l.length x.c],   .string (bs a), v, .bool g, .bool (!g), undef, undef], defers := [] } w3) :
    wpAnyIn (Fence.wide.inRound l2) n Tryz.prog .any #[{ dst := some 8, op := Go.Op.load 124 (Go.Operand.tmp 2), type := 124, pos := "space.go:111", after := #[], guard := none }, { dst := some 9, op := Go.Op.load 55 (Go.Operand.tmp 4), type := 55, pos := "space.go:111", after := #[], guard := none }, { dst := some 10, op := Go.Op.load 55 (Go.Operand.tmp 4), type := 55, pos := "space.go:111", after := #[], guard := none }, { dst := some 11, op := Go.Op.load 9 (Go.Operand.tmp 3), type := 9, pos := "space.go:111", after := #[], guard := none }, { dst := some 12, op := Go.Op.call { callee := Go.Callee.value (Go.Operand.func 103), args := #[Go.Operand.tmp 10, Go.Operand.tmp 11], argTypes := #[55, 9] }, type := 59, pos := "space.go:111", after := #[{ on := 2, ground := Go.Ground.data }, { on := 3, ground := Go.Ground.data }], guard := none }, { dst := some 13, op := Go.Op.call { callee := Go.Callee.value (Go.Operand.tmp 8), args := #[Go.Operand.tmp 9, Go.Operand.tmp 12], argTypes := #[55, 59] }, type := 4, pos := "space.go:111", after := #[{ on := 0, ground := Go.Ground.data }, { on := 1, ground := Go.Ground.data }, { on := 4, ground := Go.Ground.data }, { on := 4, ground := Go.Ground.chain }], guard := none }, { dst := some 14, op := Go.Op.unOp Go.UnOp.not 4 (Go.Operand.tmp 13), type := 4, pos := "space.go:111", after := #[{ on := 5, ground := Go.Ground.data }], guard := none }] Q 7 (Array.replicate 7 false) { tmps := #[u0, u1, .pointer (some ⟨Y, 0, none⟩), .pointer (some ⟨Z, 0, none⟩), .pointer (some ⟨Bx, 0, none⟩), u5, u6, u7, undef, undef, undef, undef, undef, undef, undef, undef, undef], defers := [] } V := by
  have HX := Lib.hid (And.intro c2 (And.intro c3 hx))
  have HC := Lib.hid (spJudge_v x hb a V hs hl)
  have FIN : ∀ (w1 : World) (v : Value) (L : Array Bool), Below V.heap.size V w1 → JudV (nextB a x.o) v → Region.ready .any #[{ dst := some 8, op := Go.Op.load 124 (Go.Operand.tmp 2), type := 124, pos := "space.go:111", after := #[], guard := none }, { dst := some 9, op := Go.Op.load 55 (Go.Operand.tmp 4), type := 55, pos := "space.go:111", after := #[], guard := none }, { dst := some 10, op := Go.Op.load 55 (Go.Operand.tmp 4), type := 55, pos := "space.go:111", after := #[], guard := none }, { dst := some 11, op := Go.Op.load 9 (Go.Operand.tmp 3), type := 9, pos := "space.go:111", after := #[], guard := none }, { dst := some 12, op := Go.Op.call { callee := Go.Callee.value (Go.Operand.func 103), args := #[Go.Operand.tmp 10, Go.Operand.tmp 11], argTypes := #[55, 9] }, type := 59, pos := "space.go:111", after := #[{ on := 2, ground := Go.Ground.data }, { on := 3, ground := Go.Ground.data }], guard := none }, { dst := some 13, op := Go.Op.call { callee := Go.Callee.value (Go.Operand.tmp 8), args := #[Go.Operand.tmp 9, Go.Operand.tmp 12], argTypes := #[55, 59] }, type := 4, pos := "space.go:111", after := #[{ on := 0, ground := Go.Ground.data }, { on := 1, ground := Go.Ground.data }, { on := 4, ground := Go.Ground.data }, { on := 4, ground := Go.Ground.chain }], guard := none }, { dst := some 14, op := Go.Op.unOp Go.UnOp.not 4 (Go.Operand.tmp 13), type := 4, pos := "space.go:111", after := #[{ on := 5, ground := Go.Ground.data }], guard := none }] L = [5] → Region.ready .any #[{ dst := some 8, op := Go.Op.load 124 (Go.Operand.tmp 2), type := 124, pos := "space.go:111", after := #[], guard := none }, { dst := some 9, op := Go.Op.load 55 (Go.Operand.tmp 4), type := 55, pos := "space.go:111", after := #[], guard := none }, { dst := some 10, op := Go.Op.load 55 (Go.Operand.tmp 4), type := 55, pos := "space.go:111", after := #[], guard := none }, { dst := some 11, op := Go.Op.load 9 (Go.Operand.tmp 3), type := 9, pos := "space.go:111", after := #[], guard := none }, { dst := some 12, op := Go.Op.call { callee := Go.Callee.value (Go.Operand.func 103), args := #[Go.Operand.tmp 10, Go.Operand.tmp 11], argTypes := #[55, 9] }, type := 59, pos := "space.go:111", after := #[{ on := 2, ground := Go.Ground.data }, { on := 3, ground := Go.Ground.data }], guard := none }, { dst := some 13, op := Go.Op.call { callee := Go.Callee.value (Go.Operand.tmp 8), args := #[Go.Operand.tmp 9, Go.Operand.tmp 12], argTypes := #[55, 59] }, type := 4, pos := "space.go:111", after := #[{ on := 0, ground := Go.Ground.data }, { on := 1, ground := Go.Ground.data }, { on := 4, ground := Go.Ground.data }, { on := 4, ground := Go.Ground.chain }], guard := none }, { dst := some 14, op := Go.Op.unOp Go.UnOp.not 4 (Go.Operand.tmp 13), type := 4, pos := "space.go:111", after := #[{ on := 5, ground := Go.Ground.data }], guard := none }] (L.setIfInBounds 5 true) = [6] → Region.ready .any #[{ dst := some 8, op := Go.Op.load 124 (Go.Operand.tmp 2), type := 124, pos := "space.go:111", after := #[], guard := none }, { dst := some 9, op := Go.Op.load 55 (Go.Operand.tmp 4), type := 55, pos := "space.go:111", after := #[], guard := none }, { dst := some 10, op := Go.Op.load 55 (Go.Operand.tmp 4), type := 55, pos := "space.go:111", after := #[], guard := none }, { dst := some 11, op := Go.Op.load 9 (Go.Operand.tmp 3), type := 9, pos := "space.go:111", after := #[], guard := none }, { dst := some 12, op := Go.Op.call { callee := Go.Callee.value (Go.Operand.func 103), args := #[Go.Operand.tmp 10, Go.Operand.tmp 11], argTypes := #[55, 9] }, type := 59, pos := "space.go:111", after := #[{ on := 2, ground := Go.Ground.data }, { on := 3, ground := Go.Ground.data }], guard := none }, { dst := some 13, op := Go.Op.call { callee := Go.Callee.value (Go.Operand.tmp 8), args := #[Go.Operand.tmp 9, Go.Operand.tmp 12], argTypes := #[55, 59] }, type := 4, pos := "space.go:111", after := #[{ on := 0, ground := Go.Ground.data }, { on := 1, ground := Go.Ground.data }, { on := 4, ground := Go.Ground.data }, { on := 4, ground := Go.Ground.chain }], guard := none }, { dst := some 14, op := Go.Op.unOp Go.UnOp.not 4 (Go.Operand.tmp 13), type := 4, pos := "space.go:111", after := #[{ on := 5, ground := Go.Ground.data }], guard := none }] ((L.setIfInBounds 5 true).setIfInBounds 6 true) = [] →
      wpAnyIn (Fence.wide.inRound l2) n Tryz.prog .any #[{ dst := some 8, op := Go.Op.load 124 (Go.Operand.tmp 2), type := 124, pos := "space.go:111", after := #[], guard := none }, { dst := some 9, op := Go.Op.load 55 (Go.Operand.tmp 4), type := 55, pos := "space.go:111", after := #[], guard := none }, { dst := some 10, op := Go.Op.load 55 (Go.Operand.tmp 4), type := 55, pos := "space.go:111", after := #[], guard := none }, { dst := some 11, op := Go.Op.load 9 (Go.Operand.tmp 3), type := 9, pos := "space.go:111", after := #[], guard := none }, { dst := some 12, op := Go.Op.call { callee := Go.Callee.value (Go.Operand.func 103), args := #[Go.Operand.tmp 10, Go.Operand.tmp 11], argTypes := #[55, 9] }, type := 59, pos := "space.go:111", after := #[{ on := 2, ground := Go.Ground.data }, { on := 3, ground := Go.Ground.data }], guard := none }, { dst := some 13, op := Go.Op.call { callee := Go.Callee.value (Go.Operand.tmp 8), args := #[Go.Operand.tmp 9, Go.Operand.tmp 12], argTypes := #[55, 59] }, type := 4, pos := "space.go:111", after := #[{ on := 0, ground := Go.Ground.data }, { on := 1, ground := Go.Ground.data }, { on := 4, ground := Go.Ground.data }, { on := 4, ground := Go.Ground.chain }], guard := none }, { dst := some 14, op := Go.Op.unOp Go.UnOp.not 4 (Go.Operand.tmp 13), type := 4, pos := "space.go:111", after := #[{ on := 5, ground := Go.Ground.data }], guard := none }] Q 2 L { tmps := #[u0, u1, .pointer (some ⟨Y, 0, none⟩), .pointer (some ⟨Z, 0, none⟩), .pointer (some ⟨Bx, 0, none⟩), u5, u6, u7, .func (.yield l) #[] #[], .agg #[.string (bs x.o.n), .int .i64 x.o.k, .string (bs x.o.d), .int .i64 x.o.m, .slice x.a x.o.l.length x.c], .agg #[.string (bs x.o.n), .int .i64 x.o.k, .string (bs x.o.d), .int .i64 x.o.m, .slice x.a x.o.l.length x.c], .string (bs a), v, undef, undef, undef, undef], defers := [] } w1 := by
    intro w1 v L hb1 hv r1 r2 r3
    obtain ⟨fn, tmps, assign, body, hy, hRn⟩ := hY w1 v hb1 hv
    have HR := Lib.hid (hR w1 v)
    have HV := Lib.hid (And.intro hb1 (And.intro hv (And.intro r2 r3)))
    simp only [ov] at hy
    clear hR hY HC HX hb1 hv r2 r3 c2 c3 hx hb hl hs
    refine wpAnyIn_ready (rs := [5]) r1 (by simp) ?_
    refine AllReadyIn.cons (o := { dst := some 13, op := Go.Op.call { callee := Go.Callee.value (Go.Operand.tmp 8), args := #[Go.Operand.tmp 9, Go.Operand.tmp 12], argTypes := #[55, 59] }, type := 4, pos := "space.go:111", after := #[{ on := 0, ground := Go.Ground.data }, { on := 1, ground := Go.Ground.data }, { on := 4, ground := Go.Ground.data }, { on := 4, ground := Go.Ground.chain }], guard := none }) rfl (fun K hK => ?_) AllReadyIn.nil
    have HK := Lib.hid hK
    clear hK r1
    go_simp
    refine RoundIn.mono (show RoundIn (Fence.wide.inRound l2) (n - 1) Tryz.prog l fn tmps assign body w1 (R w1 v) from ⟨hRn.1, fun c cs _ => hRn.2 c cs (room_wide _)⟩) ?_
    intro e w3 hr
    obtain ⟨g, rfl, hq⟩ := HR.out e w3 HV.out.1 HV.out.2.1 hr
    refine HK.out _ _ ?_
    try simp only [Act.put, List.setIfInBounds_toArray, List.set_cons_zero, List.set_cons_succ]
    refine wpAnyIn_ready (rs := [6]) HV.out.2.2.1 (by simp) ?_
    refine AllReadyIn.cons (o := { dst := some 14, op := Go.Op.unOp Go.UnOp.not 4 (Go.Operand.tmp 13), type := 4, pos := "space.go:111", after := #[{ on := 5, ground := Go.Ground.data }], guard := none }) rfl (fun K2 hK2 => ?_) AllReadyIn.nil
    have HK2 := Lib.hid hK2
    clear hK2 HK hy hRn hr
    go_simp
    refine HK2.out _ _ ?_
    try simp only [Act.put, List.setIfInBounds_toArray, List.set_cons_zero, List.set_cons_succ]
    refine wpAnyIn_done HV.out.2.2.2 ?_ _
    exact hq
  have HF := Lib.hid FIN
  clear FIN hY hR c2 c3 hx hb hl hs
  have G0 := HX.out.1
  have G1 := HX.out.2.1
  obtain ⟨G2, G3, G4, G5, G6⟩ := HX.out.2.2.var
  refine wpAnyIn_ready (rs := [0, 1, 2, 3]) (by kernel_rfl) (by simp) ?_
  refine AllReadyIn.cons (o := { dst := some 8, op := Go.Op.load 124 (Go.Operand.tmp 2), type := 124, pos := "space.go:111", after := #[], guard := none }) rfl (fun K hK => ?_) ?_
  · skip
    have HK := Lib.hid hK
    clear hK
    go_simp
    refine HK.out _ _ ?_
    clear HK
    try simp only [Act.put, List.setIfInBounds_toArray, List.set_cons_zero, List.set_cons_succ]
    refine wpAnyIn_ready (rs := [1, 2, 3]) (by kernel_rfl) (by simp) ?_
    refine AllReadyIn.cons (o := { dst := some 9, op := Go.Op.load 55 (Go.Operand.tmp 4), type := 55, pos := "space.go:111", after := #[], guard := none }) rfl (fun K hK => ?_) ?_
    · skip
      have HK := Lib.hid hK
      clear hK
      go_simp
      refine HK.out _ _ ?_
      clear HK
      try simp only [Act.put, List.setIfInBounds_toArray, List.set_cons_zero, List.set_cons_succ]
      refine wpAnyIn_ready (rs := [2, 3]) (by kernel_rfl) (by simp) ?_
      refine AllReadyIn.cons (o := { dst := some 10, op := Go.Op.load 55 (Go.Operand.tmp 4), type := 55, pos := "space.go:111", after := #[], guard := none }) rfl (fun K hK => ?_) ?_
      · skip
        have HK := Lib.hid hK
        clear hK
        go_simp
        refine HK.out _ _ ?_
        clear HK
        try simp only [Act.put, List.setIfInBounds_toArray, List.set_cons_zero, List.set_cons_succ]
        refine wpAnyIn_ready (rs := [3]) (by kernel_rfl) (by simp) ?_
        refine AllReadyIn.cons (o := { dst := some 11, op := Go.Op.load 9 (Go.Operand.tmp 3), type := 9, pos := "space.go:111", after := #[], guard := none }) rfl (fun K hK => ?_) AllReadyIn.nil
        have HK := Lib.hid hK
        clear hK
        go_simp
        refine HK.out _ _ ?_
        clear HK
        try simp only [Act.put, List.setIfInBounds_toArray, List.set_cons_zero, List.set_cons_succ]
        refine wpAnyIn_ready (rs := [4]) (by kernel_rfl) (by simp) ?_
        refine AllReadyIn.cons (o := { dst := some 12, op := Go.Op.call { callee := Go.Callee.value (Go.Operand.func 103), args := #[Go.Operand.tmp 10, Go.Operand.tmp 11], argTypes := #[55, 9] }, type := 59, pos := "space.go:111", after := #[{ on := 2, ground := Go.Ground.data }, { on := 3, ground := Go.Ground.data }], guard := none }) rfl (fun K hK => ?_) AllReadyIn.nil
        have HK := Lib.hid hK
        clear hK
        go_simp
        refine ⟨trivial, ?_⟩
        refine (CallsIn.inRound l2 (callsIn_wide.2 HC.out)).mono ?_
        rintro e w1 ⟨v, rfl, hv, hb1⟩
        refine HK.out _ _ ?_
        have HJ := Lib.hid (And.intro hv hb1)
        obtain ⟨G2, G3, G4, G5, G6⟩ := (HX.out.2.2.more hb1).var
        have G0 := cell_later hb1 HX.out.1
        clear HK hv hb1 G1
        try simp only [Act.put, List.setIfInBounds_toArray, List.set_cons_zero, List.set_cons_succ]
        exact HF.out _ _ _ HJ.out.2 HJ.out.1 (by kernel_rfl) (by kernel_rfl) (by kernel_rfl)
      refine AllReadyIn.cons (o := { dst := some 11, op := Go.Op.load 9 (Go.Operand.tmp 3), type := 9, pos := "space.go:111", after := #[], guard := none }) rfl (fun K hK => ?_) AllReadyIn.nil
      have HK := Lib.hid hK
      clear hK
      go_simp
      refine HK.out _ _ ?_
      clear HK
      try simp only [Act.put, List.setIfInBounds_toArray, List.set_cons_zero, List.set_cons_succ]
      refine wpAnyIn_ready (rs := [2]) (by kernel_rfl) (by simp) ?_
      refine AllReadyIn.cons (o := { dst := some 10, op := Go.Op.load 55 (Go.Operand.tmp 4), type := 55, pos := "space.go:111", after := #[], guard := none }) rfl (fun K hK => ?_) AllReadyIn.nil
      have HK := Lib.hid hK
      clear hK
      go_simp
      refine HK.out _ _ ?_
      clear HK
      try simp only [Act.put, List.setIfInBounds_toArray, List.set_cons_zero, List.set_cons_succ]
      refine wpAnyIn_ready (rs := [4]) (by kernel_rfl) (by simp) ?_
      refine AllReadyIn.cons (o := { dst := some 12, op := Go.Op.call { callee := Go.Callee.value (Go.Operand.func 103), args := #[Go.Operand.tmp 10, Go.Operand.tmp 11], argTypes := #[55, 9] }, type := 59, pos := "space.go:111", after := #[{ on := 2, ground := Go.Ground.data }, { on := 3, ground := Go.Ground.data }], guard := none }) rfl (fun K hK => ?_) AllReadyIn.nil
      have HK := Lib.hid hK
      clear hK
      go_simp
      refine ⟨trivial, ?_⟩
      refine (CallsIn.inRound l2 (callsIn_wide.2 HC.out)).mono ?_
      rintro e w1 ⟨v, rfl, hv, hb1⟩
      refine HK.out _ _ ?_
      have HJ := Lib.hid (And.intro hv hb1)
      obtain ⟨G2, G3, G4, G5, G6⟩ := (HX.out.2.2.more hb1).var
      have G0 := cell_later hb1 HX.out.1
      clear HK hv hb1 G1
      try simp only [Act.put, List.setIfInBounds_toArray, List.set_cons_zero, List.set_cons_succ]
      exact HF.out _ _ _ HJ.out.2 HJ.out.1 (by kernel_rfl) (by kernel_rfl) (by kernel_rfl)
    refine AllReadyIn.cons (o := { dst := some 10, op := Go.Op.load 55 (Go.Operand.tmp 4), type := 55, pos := "space.go:111", after := #[], guard := none }) rfl (fun K hK => ?_) ?_
    · skip
      have HK := Lib.hid hK
      clear hK
      go_simp
      refine HK.out _ _ ?_
      clear HK
      try simp only [Act.put, List.setIfInBounds_toArray, List.set_cons_zero, List.set_cons_succ]
      refine wpAnyIn_ready (rs := [1, 3]) (by kernel_rfl) (by simp) ?_
      refine AllReadyIn.cons (o := { dst := some 9, op := Go.Op.load 55 (Go.Operand.tmp 4), type := 55, pos := "space.go:111", after := #[], guard := none }) rfl (fun K hK => ?_) ?_
      · skip
        have HK := Lib.hid hK
        clear hK
        go_simp
        refine HK.out _ _ ?_
        clear HK
        try simp only [Act.put, List.setIfInBounds_toArray, List.set_cons_zero, List.set_cons_succ]
        refine wpAnyIn_ready (rs := [3]) (by kernel_rfl) (by simp) ?_
        refine AllReadyIn.cons (o := { dst := some 11, op := Go.Op.load 9 (Go.Operand.tmp 3), type := 9, pos := "space.go:111", after := #[], guard := none }) rfl (fun K hK => ?_) AllReadyIn.nil
        have HK := Lib.hid hK
        clear hK
        go_simp
        refine HK.out _ _ ?_
        clear HK
        try simp only [Act.put, List.setIfInBounds_toArray, List.set_cons_zero, List.set_cons_succ]
        refine wpAnyIn_ready (rs := [4]) (by kernel_rfl) (by simp) ?_
        refine AllReadyIn.cons (o := { dst := some 12, op := Go.Op.call { callee := Go.Callee.value (Go.Operand.func 103), args := #[Go.Operand.tmp 10, Go.Operand.tmp 11], argTypes := #[55, 9] }, type := 59, pos := "space.go:111", after := #[{ on := 2, ground := Go.Ground.data }, { on := 3, ground := Go.Ground.data }], guard := none }) rfl (fun K hK => ?_) AllReadyIn.nil
        have HK := Lib.hid hK
        clear hK
        go_simp
        refine ⟨trivial, ?_⟩
        refine (CallsIn.inRound l2 (callsIn_wide.2 HC.out)).mono ?_
        rintro e w1 ⟨v, rfl, hv, hb1⟩
        refine HK.out _ _ ?_
        have HJ := Lib.hid (And.intro hv hb1)
        obtain ⟨G2, G3, G4, G5, G6⟩ := (HX.out.2.2.more hb1).var
        have G0 := cell_later hb1 HX.out.1
        clear HK hv hb1 G1
        try simp only [Act.put, List.setIfInBounds_toArray, List.set_cons_zero, List.set_cons_succ]
        exact HF.out _ _ _ HJ.out.2 HJ.out.1 (by kernel_rfl) (by kernel_rfl) (by kernel_rfl)
      refine AllReadyIn.cons (o := { dst := some 11, op := Go.Op.load 9 (Go.Operand.tmp 3), type := 9, pos := "space.go:111", after := #[], guard := none }) rfl (fun K hK => ?_) AllReadyIn.nil
      have HK := Lib.hid hK
      clear hK
      go_simp
      refine HK.out _ _ ?_
      clear HK
      try simp only [Act.put, List.setIfInBounds_toArray, List.set_cons_zero, List.set_cons_succ]
      refine wpAnyIn_ready (rs := [1, 4]) (by kernel_rfl) (by simp) ?_
      refine AllReadyIn.cons (o := { dst := some 9, op := Go.Op.load 55 (Go.Operand.tmp 4), type := 55, pos := "space.go:111", after := #[], guard := none }) rfl (fun K hK => ?_) ?_
      · skip
        have HK := Lib.hid hK
        clear hK
        go_simp
        refine HK.out _ _ ?_
        clear HK
        try simp only [Act.put, List.setIfInBounds_toArray, List.set_cons_zero, List.set_cons_succ]
        refine wpAnyIn_ready (rs := [4]) (by kernel_rfl) (by simp) ?_
        refine AllReadyIn.cons (o := { dst := some 12, op := Go.Op.call { callee := Go.Callee.value (Go.Operand.func 103), args := #[Go.Operand.tmp 10, Go.Operand.tmp 11], argTypes := #[55, 9] }, type := 59, pos := "space.go:111", after := #[{ on := 2, ground := Go.Ground.data }, { on := 3, ground := Go.Ground.data }], guard := none }) rfl (fun K hK => ?_) AllReadyIn.nil
        have HK := Lib.hid hK
        clear hK
        go_simp
        refine ⟨trivial, ?_⟩
        refine (CallsIn.inRound l2 (callsIn_wide.2 HC.out)).mono ?_
        rintro e w1 ⟨v, rfl, hv, hb1⟩
        refine HK.out _ _ ?_
        have HJ := Lib.hid (And.intro hv hb1)
        obtain ⟨G2, G3, G4, G5, G6⟩ := (HX.out.2.2.more hb1).var
        have G0 := cell_later hb1 HX.out.1
        clear HK hv hb1 G1
        try simp only [Act.put, List.setIfInBounds_toArray, List.set_cons_zero, List.set_cons_succ]
        exact HF.out _ _ _ HJ.out.2 HJ.out.1 (by kernel_rfl) (by kernel_rfl) (by kernel_rfl)
      refine AllReadyIn.cons (o := { dst := some 12, op := Go.Op.call { callee := Go.Callee.value (Go.Operand.func 103), args := #[Go.Operand.tmp 10, Go.Operand.tmp 11], argTypes := #[55, 9] }, type := 59, pos := "space.go:111", after := #[{ on := 2, ground := Go.Ground.data }, { on := 3, ground := Go.Ground.data }], guard := none }) rfl (fun K hK => ?_) AllReadyIn.nil
      have HK := Lib.hid hK
      clear hK
      go_simp
      refine ⟨trivial, ?_⟩
      refine (CallsIn.inRound l2 (callsIn_wide.2 HC.out)).mono ?_
      rintro e w1 ⟨v, rfl, hv, hb1⟩
      refine HK.out _ _ ?_
      have HJ := Lib.hid (And.intro hv hb1)
      obtain ⟨G2, G3, G4, G5, G6⟩ := (HX.out.2.2.more hb1).var
      have G0 := cell_later hb1 HX.out.1
      clear HK hv hb1 G1
      try simp only [Act.put, List.setIfInBounds_toArray, List.set_cons_zero, List.set_cons_succ]
      refine wpAnyIn_ready (rs := [1]) (by kernel_rfl) (by simp) ?_
      refine AllReadyIn.cons (o := { dst := some 9, op := Go.Op.load 55 (Go.Operand.tmp 4), type := 55, pos := "space.go:111", after := #[], guard := none }) rfl (fun K hK => ?_) AllReadyIn.nil
      have HK := Lib.hid hK
      clear hK
      go_simp
      refine HK.out _ _ ?_
      clear HK
      try simp only [Act.put, List.setIfInBounds_toArray, List.set_cons_zero, List.set_cons_succ]
      exact HF.out _ _ _ HJ.out.2 HJ.out.1 (by kernel_rfl) (by kernel_rfl) (by kernel_rfl)
    refine AllReadyIn.cons (o := { dst := some 11, op := Go.Op.load 9 (Go.Operand.tmp 3), type := 9, pos := "space.go:111", after := #[], guard := none }) rfl (fun K hK => ?_) AllReadyIn.nil
    have HK := Lib.hid hK
    clear hK
    go_simp
    refine HK.out _ _ ?_
    clear HK
    try simp only [Act.put, List.setIfInBounds_toArray, List.set_cons_zero, List.set_cons_succ]
    refine wpAnyIn_ready (rs := [1, 2]) (by kernel_rfl) (by simp) ?_
    refine AllReadyIn.cons (o := { dst := some 9, op := Go.Op.load 55 (Go.Operand.tmp 4), type := 55, pos := "space.go:111", after := #[], guard := none }) rfl (fun K hK => ?_) ?_
    · skip
      have HK := Lib.hid hK
      clear hK
      go_simp
      refine HK.out _ _ ?_
      clear HK
      try simp only [Act.put, List.setIfInBounds_toArray, List.set_cons_zero, List.set_cons_succ]
      refine wpAnyIn_ready (rs := [2]) (by kernel_rfl) (by simp) ?_
      refine AllReadyIn.cons (o := { dst := some 10, op := Go.Op.load 55 (Go.Operand.tmp 4), type := 55, pos := "space.go:111", after := #[], guard := none }) rfl (fun K hK => ?_) AllReadyIn.nil
      have HK := Lib.hid hK
      clear hK
      go_simp
      refine HK.out _ _ ?_
      clear HK
      try simp only [Act.put, List.setIfInBounds_toArray, List.set_cons_zero, List.set_cons_succ]
      refine wpAnyIn_ready (rs := [4]) (by kernel_rfl) (by simp) ?_
      refine AllReadyIn.cons (o := { dst := some 12, op := Go.Op.call { callee := Go.Callee.value (Go.Operand.func 103), args := #[Go.Operand.tmp 10, Go.Operand.tmp 11], argTypes := #[55, 9] }, type := 59, pos := "space.go:111", after := #[{ on := 2, ground := Go.Ground.data }, { on := 3, ground := Go.Ground.data }], guard := none }) rfl (fun K hK => ?_) AllReadyIn.nil
      have HK := Lib.hid hK
      clear hK
      go_simp
      refine ⟨trivial, ?_⟩
      refine (CallsIn.inRound l2 (callsIn_wide.2 HC.out)).mono ?_
      rintro e w1 ⟨v, rfl, hv, hb1⟩
      refine HK.out _ _ ?_
      have HJ := Lib.hid (And.intro hv hb1)
      obtain ⟨G2, G3, G4, G5, G6⟩ := (HX.out.2.2.more hb1).var
      have G0 := cell_later hb1 HX.out.1
      clear HK hv hb1 G1
      try simp only [Act.put, List.setIfInBounds_toArray, List.set_cons_zero, List.set_cons_succ]
      exact HF.out _ _ _ HJ.out.2 HJ.out.1 (by kernel_rfl) (by kernel_rfl) (by kernel_rfl)
    refine AllReadyIn.cons (o := { dst := some 10, op := Go.Op.load 55 (Go.Operand.tmp 4), type := 55, pos := "space.go:111", after := #[], guard := none }) rfl (fun K hK => ?_) AllReadyIn.nil
    have HK := Lib.hid hK
    clear hK
    go_simp
    refine HK.out _ _ ?_
    clear HK
    try simp only [Act.put, List.setIfInBounds_toArray, List.set_cons_zero, List.set_cons_succ]
    refine wpAnyIn_ready (rs := [1, 4]) (by kernel_rfl) (by simp) ?_
    refine AllReadyIn.cons (o := { dst := some 9, op := Go.Op.load 55 (Go.Operand.tmp 4), type := 55, pos := "space.go:111", after := #[], guard := none }) rfl (fun K hK => ?_) ?_
    · skip
      have HK := Lib.hid hK
      clear hK
      go_simp
      refine HK.out _ _ ?_
      clear HK
      try simp only [Act.put, List.setIfInBounds_toArray, List.set_cons_zero, List.set_cons_succ]
      refine wpAnyIn_ready (rs := [4]) (by kernel_rfl) (by simp) ?_
      refine AllReadyIn.cons (o := { dst := some 12, op := Go.Op.call { callee := Go.Callee.value (Go.Operand.func 103), args := #[Go.Operand.tmp 10, Go.Operand.tmp 11], argTypes := #[55, 9] }, type := 59, pos := "space.go:111", after := #[{ on := 2, ground := Go.Ground.data }, { on := 3, ground := Go.Ground.data }], guard := none }) rfl (fun K hK => ?_) AllReadyIn.nil
      have HK := Lib.hid hK
      clear hK
      go_simp
      refine ⟨trivial, ?_⟩
      refine (CallsIn.inRound l2 (callsIn_wide.2 HC.out)).mono ?_
      rintro e w1 ⟨v, rfl, hv, hb1⟩
      refine HK.out _ _ ?_
      have HJ := Lib.hid (And.intro hv hb1)
      obtain ⟨G2, G3, G4, G5, G6⟩ := (HX.out.2.2.more hb1).var
      have G0 := cell_later hb1 HX.out.1
      clear HK hv hb1 G1
      try simp only [Act.put, List.setIfInBounds_toArray, List.set_cons_zero, List.set_cons_succ]
      exact HF.out _ _ _ HJ.out.2 HJ.out.1 (by kernel_rfl) (by kernel_rfl) (by kernel_rfl)
    refine AllReadyIn.cons (o := { dst := some 12, op := Go.Op.call { callee := Go.Callee.value (Go.Operand.func 103), args := #[Go.Operand.tmp 10, Go.Operand.tmp 11], argTypes := #[55, 9] }, type := 59, pos := "space.go:111", after := #[{ on := 2, ground := Go.Ground.data }, { on := 3, ground := Go.Ground.data }], guard := none }) rfl (fun K hK => ?_) AllReadyIn.nil
    have HK := Lib.hid hK
    clear hK
    go_simp
    refine ⟨trivial, ?_⟩
    refine (CallsIn.inRound l2 (callsIn_wide.2 HC.out)).mono ?_
    rintro e w1 ⟨v, rfl, hv, hb1⟩
    refine HK.out _ _ ?_
    have HJ := Lib.hid (And.intro hv hb1)
    obtain ⟨G2, G3, G4, G5, G6⟩ := (HX.out.2.2.more hb1).var
    have G0 := cell_later hb1 HX.out.1
    clear HK hv hb1 G1
    try simp only [Act.put, List.setIfInBounds_toArray, List.set_cons_zero, List.set_cons_succ]
    refine wpAnyIn_ready (rs := [1]) (by kernel_rfl) (by simp) ?_
    refine AllReadyIn.cons (o := { dst := some 9, op := Go.Op.load 55 (Go.Operand.tmp 4), type := 55, pos := "space.go:111", after := #[], guard := none }) rfl (fun K hK => ?_) AllReadyIn.nil
    have HK := Lib.hid hK
    clear hK
    go_simp
    refine HK.out _ _ ?_
    clear HK
    try simp only [Act.put, List.setIfInBounds_toArray, List.set_cons_zero, List.set_cons_succ]
    exact HF.out _ _ _ HJ.out.2 HJ.out.1 (by kernel_rfl) (by kernel_rfl) (by kernel_rfl)
  refine AllReadyIn.cons (o := { dst := some 9, op := Go.Op.load 55 (Go.Operand.tmp 4), type := 55, pos := "space.go:111", after := #[], guard := none }) rfl (fun K hK => ?_) ?_
  · skip
    have HK := Lib.hid hK
    clear hK
    go_simp
    refine HK.out _ _ ?_
    clear HK
    try simp only [Act.put, List.setIfInBounds_toArray, List.set_cons_zero, List.set_cons_succ]
    refine wpAnyIn_ready (rs := [0, 2, 3]) (by kernel_rfl) (by simp) ?_
    refine AllReadyIn.cons (o := { dst := some 8, op := Go.Op.load 124 (Go.Operand.tmp 2), type := 124, pos := "space.go:111", after := #[], guard := none }) rfl (fun K hK => ?_) ?_
    · skip
      have HK := Lib.hid hK
      clear hK
      go_simp
      refine HK.out _ _ ?_
      clear HK
      try simp only [Act.put, List.setIfInBounds_toArray, List.set_cons_zero, List.set_cons_succ]
      refine wpAnyIn_ready (rs := [2, 3]) (by kernel_rfl) (by simp) ?_
      refine AllReadyIn.cons (o := { dst := some 10, op := Go.Op.load 55 (Go.Operand.tmp 4), type := 55, pos := "space.go:111", after := #[], guard := none }) rfl (fun K hK => ?_) ?_
      · skip
        have HK := Lib.hid hK
        clear hK
        go_simp
        refine HK.out _ _ ?_
        clear HK
        try simp only [Act.put, List.setIfInBounds_toArray, List.set_cons_zero, List.set_cons_succ]
        refine wpAnyIn_ready (rs := [3]) (by kernel_rfl) (by simp) ?_
        refine AllReadyIn.cons (o := { dst := some 11, op := Go.Op.load 9 (Go.Operand.tmp 3), type := 9, pos := "space.go:111", after := #[], guard := none }) rfl (fun K hK => ?_) AllReadyIn.nil
        have HK := Lib.hid hK
        clear hK
        go_simp
        refine HK.out _ _ ?_
        clear HK
        try simp only [Act.put, List.setIfInBounds_toArray, List.set_cons_zero, List.set_cons_succ]
        refine wpAnyIn_ready (rs := [4]) (by kernel_rfl) (by simp) ?_
        refine AllReadyIn.cons (o := { dst := some 12, op := Go.Op.call { callee := Go.Callee.value (Go.Operand.func 103), args := #[Go.Operand.tmp 10, Go.Operand.tmp 11], argTypes := #[55, 9] }, type := 59, pos := "space.go:111", after := #[{ on := 2, ground := Go.Ground.data }, { on := 3, ground := Go.Ground.data }], guard := none }) rfl (fun K hK => ?_) AllReadyIn.nil
        have HK := Lib.hid hK
        clear hK
        go_simp
        refine ⟨trivial, ?_⟩
        refine (CallsIn.inRound l2 (callsIn_wide.2 HC.out)).mono ?_
        rintro e w1 ⟨v, rfl, hv, hb1⟩
        refine HK.out _ _ ?_
        have HJ := Lib.hid (And.intro hv hb1)
        obtain ⟨G2, G3, G4, G5, G6⟩ := (HX.out.2.2.more hb1).var
        have G0 := cell_later hb1 HX.out.1
        clear HK hv hb1 G1
        try simp only [Act.put, List.setIfInBounds_toArray, List.set_cons_zero, List.set_cons_succ]
        exact HF.out _ _ _ HJ.out.2 HJ.out.1 (by kernel_rfl) (by kernel_rfl) (by kernel_rfl)
      refine AllReadyIn.cons (o := { dst := some 11, op := Go.Op.load 9 (Go.Operand.tmp 3), type := 9, pos := "space.go:111", after := #[], guard := none }) rfl (fun K hK => ?_) AllReadyIn.nil
      have HK := Lib.hid hK
      clear hK
      go_simp
      refine HK.out _ _ ?_
      clear HK
      try simp only [Act.put, List.setIfInBounds_toArray, List.set_cons_zero, List.set_cons_succ]
      refine wpAnyIn_ready (rs := [2]) (by kernel_rfl) (by simp) ?_
      refine AllReadyIn.cons (o := { dst := some 10, op := Go.Op.load 55 (Go.Operand.tmp 4), type := 55, pos := "space.go:111", after := #[], guard := none }) rfl (fun K hK => ?_) AllReadyIn.nil
      have HK := Lib.hid hK
      clear hK
      go_simp
      refine HK.out _ _ ?_
      clear HK
      try simp only [Act.put, List.setIfInBounds_toArray, List.set_cons_zero, List.set_cons_succ]
      refine wpAnyIn_ready (rs := [4]) (by kernel_rfl) (by simp) ?_
      refine AllReadyIn.cons (o := { dst := some 12, op := Go.Op.call { callee := Go.Callee.value (Go.Operand.func 103), args := #[Go.Operand.tmp 10, Go.Operand.tmp 11], argTypes := #[55, 9] }, type := 59, pos := "space.go:111", after := #[{ on := 2, ground := Go.Ground.data }, { on := 3, ground := Go.Ground.data }], guard := none }) rfl (fun K hK => ?_) AllReadyIn.nil
      have HK := Lib.hid hK
      clear hK
      go_simp
      refine ⟨trivial, ?_⟩
      refine (CallsIn.inRound l2 (callsIn_wide.2 HC.out)).mono ?_
      rintro e w1 ⟨v, rfl, hv, hb1⟩
      refine HK.out _ _ ?_
      have HJ := Lib.hid (And.intro hv hb1)
      obtain ⟨G2, G3, G4, G5, G6⟩ := (HX.out.2.2.more hb1).var
      have G0 := cell_later hb1 HX.out.1
      clear HK hv hb1 G1
      try simp only [Act.put, List.setIfInBounds_toArray, List.set_cons_zero, List.set_cons_succ]
      exact HF.out _ _ _ HJ.out.2 HJ.out.1 (by kernel_rfl) (by kernel_rfl) (by kernel_rfl)
    refine AllReadyIn.cons (o := { dst := some 10, op := Go.Op.load 55 (Go.Operand.tmp 4), type := 55, pos := "space.go:111", after := #[], guard := none }) rfl (fun K hK => ?_) ?_
    · skip
      have HK := Lib.hid hK
      clear hK
      go_simp
      refine HK.out _ _ ?_
      clear HK
      try simp only [Act.put, List.setIfInBounds_toArray, List.set_cons_zero, List.set_cons_succ]
      refine wpAnyIn_ready (rs := [0, 3]) (by kernel_rfl) (by simp) ?_
      refine AllReadyIn.cons (o := { dst := some 8, op := Go.Op.load 124 (Go.Operand.tmp 2), type := 124, pos := "space.go:111", after := #[], guard := none }) rfl (fun K hK => ?_) ?_
      · skip
        have HK := Lib.hid hK
        clear hK
        go_simp
        refine HK.out _ _ ?_
        clear HK
        try simp only [Act.put, List.setIfInBounds_toArray, List.set_cons_zero, List.set_cons_succ]
        refine wpAnyIn_ready (rs := [3]) (by kernel_rfl) (by simp) ?_
        refine AllReadyIn.cons (o := { dst := some 11, op := Go.Op.load 9 (Go.Operand.tmp 3), type := 9, pos := "space.go:111", after := #[], guard := none }) rfl (fun K hK => ?_) AllReadyIn.nil
        have HK := Lib.hid hK
        clear hK
        go_simp
        refine HK.out _ _ ?_
        clear HK
        try simp only [Act.put, List.setIfInBounds_toArray, List.set_cons_zero, List.set_cons_succ]
        refine wpAnyIn_ready (rs := [4]) (by kernel_rfl) (by simp) ?_
        refine AllReadyIn.cons (o := { dst := some 12, op := Go.Op.call { callee := Go.Callee.value (Go.Operand.func 103), args := #[Go.Operand.tmp 10, Go.Operand.tmp 11], argTypes := #[55, 9] }, type := 59, pos := "space.go:111", after := #[{ on := 2, ground := Go.Ground.data }, { on := 3, ground := Go.Ground.data }], guard := none }) rfl (fun K hK => ?_) AllReadyIn.nil
        have HK := Lib.hid hK
        clear hK
        go_simp
        refine ⟨trivial, ?_⟩
        refine (CallsIn.inRound l2 (callsIn_wide.2 HC.out)).mono ?_
        rintro e w1 ⟨v, rfl, hv, hb1⟩
        refine HK.out _ _ ?_
        have HJ := Lib.hid (And.intro hv hb1)
        obtain ⟨G2, G3, G4, G5, G6⟩ := (HX.out.2.2.more hb1).var
        have G0 := cell_later hb1 HX.out.1
        clear HK hv hb1 G1
        try simp only [Act.put, List.setIfInBounds_toArray, List.set_cons_zero, List.set_cons_succ]
        exact HF.out _ _ _ HJ.out.2 HJ.out.1 (by kernel_rfl) (by kernel_rfl) (by kernel_rfl)
      refine AllReadyIn.cons (o := { dst := some 11, op := Go.Op.load 9 (Go.Operand.tmp 3), type := 9, pos := "space.go:111", after := #[], guard := none }) rfl (fun K hK => ?_) AllReadyIn.nil
      have HK := Lib.hid hK
      clear hK
      go_simp
      refine HK.out _ _ ?_
      clear HK
      try simp only [Act.put, List.setIfInBounds_toArray, List.set_cons_zero, List.set_cons_succ]
      refine wpAnyIn_ready (rs := [0, 4]) (by kernel_rfl) (by simp) ?_
      refine AllReadyIn.cons (o := { dst := some 8, op := Go.Op.load 124 (Go.Operand.tmp 2), type := 124, pos := "space.go:111", after := #[], guard := none }) rfl (fun K hK => ?_) ?_
      · skip
        have HK := Lib.hid hK
        clear hK
        go_simp
        refine HK.out _ _ ?_
        clear HK
        try simp only [Act.put, List.setIfInBounds_toArray, List.set_cons_zero, List.set_cons_succ]
        refine wpAnyIn_ready (rs := [4]) (by kernel_rfl) (by simp) ?_
        refine AllReadyIn.cons (o := { dst := some 12, op := Go.Op.call { callee := Go.Callee.value (Go.Operand.func 103), args := #[Go.Operand.tmp 10, Go.Operand.tmp 11], argTypes := #[55, 9] }, type := 59, pos := "space.go:111", after := #[{ on := 2, ground := Go.Ground.data }, { on := 3, ground := Go.Ground.data }], guard := none }) rfl (fun K hK => ?_) AllReadyIn.nil
        have HK := Lib.hid hK
        clear hK
        go_simp
        refine ⟨trivial, ?_⟩
        refine (CallsIn.inRound l2 (callsIn_wide.2 HC.out)).mono ?_
        rintro e w1 ⟨v, rfl, hv, hb1⟩
        refine HK.out _ _ ?_
        have HJ := Lib.hid (And.intro hv hb1)
        obtain ⟨G2, G3, G4, G5, G6⟩ := (HX.out.2.2.more hb1).var
        have G0 := cell_later hb1 HX.out.1
        clear HK hv hb1 G1
        try simp only [Act.put, List.setIfInBounds_toArray, List.set_cons_zero, List.set_cons_succ]
        exact HF.out _ _ _ HJ.out.2 HJ.out.1 (by kernel_rfl) (by kernel_rfl) (by kernel_rfl)
      refine AllReadyIn.cons (o := { dst := some 12, op := Go.Op.call { callee := Go.Callee.value (Go.Operand.func 103), args := #[Go.Operand.tmp 10, Go.Operand.tmp 11], argTypes := #[55, 9] }, type := 59, pos := "space.go:111", after := #[{ on := 2, ground := Go.Ground.data }, { on := 3, ground := Go.Ground.data }], guard := none }) rfl (fun K hK => ?_) AllReadyIn.nil
      have HK := Lib.hid hK
      clear hK
      go_simp
      refine ⟨trivial, ?_⟩
      refine (CallsIn.inRound l2 (callsIn_wide.2 HC.out)).mono ?_
      rintro e w1 ⟨v, rfl, hv, hb1⟩
      refine HK.out _ _ ?_
      have HJ := Lib.hid (And.intro hv hb1)
      obtain ⟨G2, G3, G4, G5, G6⟩ := (HX.out.2.2.more hb1).var
      have G0 := cell_later hb1 HX.out.1
      clear HK hv hb1 G1
      try simp only [Act.put, List.setIfInBounds_toArray, List.set_cons_zero, List.set_cons_succ]
      refine wpAnyIn_ready (rs := [0]) (by kernel_rfl) (by simp) ?_
      refine AllReadyIn.cons (o := { dst := some 8, op := Go.Op.load 124 (Go.Operand.tmp 2), type := 124, pos := "space.go:111", after := #[], guard := none }) rfl (fun K hK => ?_) AllReadyIn.nil
      have HK := Lib.hid hK
      clear hK
      go_simp
      refine HK.out _ _ ?_
      clear HK
      try simp only [Act.put, List.setIfInBounds_toArray, List.set_cons_zero, List.set_cons_succ]
      exact HF.out _ _ _ HJ.out.2 HJ.out.1 (by kernel_rfl) (by kernel_rfl) (by kernel_rfl)
    refine AllReadyIn.cons (o := { dst := some 11, op := Go.Op.load 9 (Go.Operand.tmp 3), type := 9, pos := "space.go:111", after := #[], guard := none }) rfl (fun K hK => ?_) AllReadyIn.nil
    have HK := Lib.hid hK
    clear hK
    go_simp
    refine HK.out _ _ ?_
    clear HK
    try simp only [Act.put, List.setIfInBounds_toArray, List.set_cons_zero, List.set_cons_succ]
    refine wpAnyIn_ready (rs := [0, 2]) (by kernel_rfl) (by simp) ?_
    refine AllReadyIn.cons (o := { dst := some 8, op := Go.Op.load 124 (Go.Operand.tmp 2), type := 124, pos := "space.go:111", after := #[], guard := none }) rfl (fun K hK => ?_) ?_
    · skip
      have HK := Lib.hid hK
      clear hK
      go_simp
      refine HK.out _ _ ?_
      clear HK
      try simp only [Act.put, List.setIfInBounds_toArray, List.set_cons_zero, List.set_cons_succ]
      refine wpAnyIn_ready (rs := [2]) (by kernel_rfl) (by simp) ?_
      refine AllReadyIn.cons (o := { dst := some 10, op := Go.Op.load 55 (Go.Operand.tmp 4), type := 55, pos := "space.go:111", after := #[], guard := none }) rfl (fun K hK => ?_) AllReadyIn.nil
      have HK := Lib.hid hK
      clear hK
      go_simp
      refine HK.out _ _ ?_
      clear HK
      try simp only [Act.put, List.setIfInBounds_toArray, List.set_cons_zero, List.set_cons_succ]
      refine wpAnyIn_ready (rs := [4]) (by kernel_rfl) (by simp) ?_
      refine AllReadyIn.cons (o := { dst := some 12, op := Go.Op.call { callee := Go.Callee.value (Go.Operand.func 103), args := #[Go.Operand.tmp 10, Go.Operand.tmp 11], argTypes := #[55, 9] }, type := 59, pos := "space.go:111", after := #[{ on := 2, ground := Go.Ground.data }, { on := 3, ground := Go.Ground.data }], guard := none }) rfl (fun K hK => ?_) AllReadyIn.nil
      have HK := Lib.hid hK
      clear hK
      go_simp
      refine ⟨trivial, ?_⟩
      refine (CallsIn.inRound l2 (callsIn_wide.2 HC.out)).mono ?_
      rintro e w1 ⟨v, rfl, hv, hb1⟩
      refine HK.out _ _ ?_
      have HJ := Lib.hid (And.intro hv hb1)
      obtain ⟨G2, G3, G4, G5, G6⟩ := (HX.out.2.2.more hb1).var
      have G0 := cell_later hb1 HX.out.1
      clear HK hv hb1 G1
      try simp only [Act.put, List.setIfInBounds_toArray, List.set_cons_zero, List.set_cons_succ]
      exact HF.out _ _ _ HJ.out.2 HJ.out.1 (by kernel_rfl) (by kernel_rfl) (by kernel_rfl)
    refine AllReadyIn.cons (o := { dst := some 10, op := Go.Op.load 55 (Go.Operand.tmp 4), type := 55, pos := "space.go:111", after := #[], guard := none }) rfl (fun K hK => ?_) AllReadyIn.nil
    have HK := Lib.hid hK
    clear hK
    go_simp
    refine HK.out _ _ ?_
    clear HK
    try simp only [Act.put, List.setIfInBounds_toArray, List.set_cons_zero, List.set_cons_succ]
    refine wpAnyIn_ready (rs := [0, 4]) (by kernel_rfl) (by simp) ?_
    refine AllReadyIn.cons (o := { dst := some 8, op := Go.Op.load 124 (Go.Operand.tmp 2), type := 124, pos := "space.go:111", after := #[], guard := none }) rfl (fun K hK => ?_) ?_
    · skip
      have HK := Lib.hid hK
      clear hK
      go_simp
      refine HK.out _ _ ?_
      clear HK
      try simp only [Act.put, List.setIfInBounds_toArray, List.set_cons_zero, List.set_cons_succ]
      refine wpAnyIn_ready (rs := [4]) (by kernel_rfl) (by simp) ?_
      refine AllReadyIn.cons (o := { dst := some 12, op := Go.Op.call { callee := Go.Callee.value (Go.Operand.func 103), args := #[Go.Operand.tmp 10, Go.Operand.tmp 11], argTypes := #[55, 9] }, type := 59, pos := "space.go:111", after := #[{ on := 2, ground := Go.Ground.data }, { on := 3, ground := Go.Ground.data }], guard := none }) rfl (fun K hK => ?_) AllReadyIn.nil
      have HK := Lib.hid hK
      clear hK
      go_simp
      refine ⟨trivial, ?_⟩
      refine (CallsIn.inRound l2 (callsIn_wide.2 HC.out)).mono ?_
      rintro e w1 ⟨v, rfl, hv, hb1⟩
      refine HK.out _ _ ?_
      have HJ := Lib.hid (And.intro hv hb1)
      obtain ⟨G2, G3, G4, G5, G6⟩ := (HX.out.2.2.more hb1).var
      have G0 := cell_later hb1 HX.out.1
      clear HK hv hb1 G1
      try simp only [Act.put, List.setIfInBounds_toArray, List.set_cons_zero, List.set_cons_succ]
      exact HF.out _ _ _ HJ.out.2 HJ.out.1 (by kernel_rfl) (by kernel_rfl) (by kernel_rfl)
    refine AllReadyIn.cons (o := { dst := some 12, op := Go.Op.call { callee := Go.Callee.value (Go.Operand.func 103), args := #[Go.Operand.tmp 10, Go.Operand.tmp 11], argTypes := #[55, 9] }, type := 59, pos := "space.go:111", after := #[{ on := 2, ground := Go.Ground.data }, { on := 3, ground := Go.Ground.data }], guard := none }) rfl (fun K hK => ?_) AllReadyIn.nil
    have HK := Lib.hid hK
    clear hK
    go_simp
    refine ⟨trivial, ?_⟩
    refine (CallsIn.inRound l2 (callsIn_wide.2 HC.out)).mono ?_
    rintro e w1 ⟨v, rfl, hv, hb1⟩
    refine HK.out _ _ ?_
    have HJ := Lib.hid (And.intro hv hb1)
    obtain ⟨G2, G3, G4, G5, G6⟩ := (HX.out.2.2.more hb1).var
    have G0 := cell_later hb1 HX.out.1
    clear HK hv hb1 G1
    try simp only [Act.put, List.setIfInBounds_toArray, List.set_cons_zero, List.set_cons_succ]
    refine wpAnyIn_ready (rs := [0]) (by kernel_rfl) (by simp) ?_
    refine AllReadyIn.cons (o := { dst := some 8, op := Go.Op.load 124 (Go.Operand.tmp 2), type := 124, pos := "space.go:111", after := #[], guard := none }) rfl (fun K hK => ?_) AllReadyIn.nil
    have HK := Lib.hid hK
    clear hK
    go_simp
    refine HK.out _ _ ?_
    clear HK
    try simp only [Act.put, List.setIfInBounds_toArray, List.set_cons_zero, List.set_cons_succ]
    exact HF.out _ _ _ HJ.out.2 HJ.out.1 (by kernel_rfl) (by kernel_rfl) (by kernel_rfl)
  refine AllReadyIn.cons (o := { dst := some 10, op := Go.Op.load 55 (Go.Operand.tmp 4), type := 55, pos := "space.go:111", after := #[], guard := none }) rfl (fun K hK => ?_) ?_
  · skip
    have HK := Lib.hid hK
    clear hK
    go_simp
    refine HK.out _ _ ?_
    clear HK
    try simp only [Act.put, List.setIfInBounds_toArray, List.set_cons_zero, List.set_cons_succ]
    refine wpAnyIn_ready (rs := [0, 1, 3]) (by kernel_rfl) (by simp) ?_
    refine AllReadyIn.cons (o := { dst := some 8, op := Go.Op.load 124 (Go.Operand.tmp 2), type := 124, pos := "space.go:111", after := #[], guard := none }) rfl (fun K hK => ?_) ?_
    · skip
      have HK := Lib.hid hK
      clear hK
      go_simp
      refine HK.out _ _ ?_
      clear HK
      try simp only [Act.put, List.setIfInBounds_toArray, List.set_cons_zero, List.set_cons_succ]
      refine wpAnyIn_ready (rs := [1, 3]) (by kernel_rfl) (by simp) ?_
      refine AllReadyIn.cons (o := { dst := some 9, op := Go.Op.load 55 (Go.Operand.tmp 4), type := 55, pos := "space.go:111", after := #[], guard := none }) rfl (fun K hK => ?_) ?_
      · skip
        have HK := Lib.hid hK
        clear hK
        go_simp
        refine HK.out _ _ ?_
        clear HK
        try simp only [Act.put, List.setIfInBounds_toArray, List.set_cons_zero, List.set_cons_succ]
        refine wpAnyIn_ready (rs := [3]) (by kernel_rfl) (by simp) ?_
        refine AllReadyIn.cons (o := { dst := some 11, op := Go.Op.load 9 (Go.Operand.tmp 3), type := 9, pos := "space.go:111", after := #[], guard := none }) rfl (fun K hK => ?_) AllReadyIn.nil
        have HK := Lib.hid hK
        clear hK
        go_simp
        refine HK.out _ _ ?_
        clear HK
        try simp only [Act.put, List.setIfInBounds_toArray, List.set_cons_zero, List.set_cons_succ]
        refine wpAnyIn_ready (rs := [4]) (by kernel_rfl) (by simp) ?_
        refine AllReadyIn.cons (o := { dst := some 12, op := Go.Op.call { callee := Go.Callee.value (Go.Operand.func 103), args := #[Go.Operand.tmp 10, Go.Operand.tmp 11], argTypes := #[55, 9] }, type := 59, pos := "space.go:111", after := #[{ on := 2, ground := Go.Ground.data }, { on := 3, ground := Go.Ground.data }], guard := none }) rfl (fun K hK => ?_) AllReadyIn.nil
        have HK := Lib.hid hK
        clear hK
        go_simp
        refine ⟨trivial, ?_⟩
        refine (CallsIn.inRound l2 (callsIn_wide.2 HC.out)).mono ?_
        rintro e w1 ⟨v, rfl, hv, hb1⟩
        refine HK.out _ _ ?_
        have HJ := Lib.hid (And.intro hv hb1)
        obtain ⟨G2, G3, G4, G5, G6⟩ := (HX.out.2.2.more hb1).var
        have G0 := cell_later hb1 HX.out.1
        clear HK hv hb1 G1
        try simp only [Act.put, List.setIfInBounds_toArray, List.set_cons_zero, List.set_cons_succ]
        exact HF.out _ _ _ HJ.out.2 HJ.out.1 (by kernel_rfl) (by kernel_rfl) (by kernel_rfl)
      refine AllReadyIn.cons (o := { dst := some 11, op := Go.Op.load 9 (Go.Operand.tmp 3), type := 9, pos := "space.go:111", after := #[], guard := none }) rfl (fun K hK => ?_) AllReadyIn.nil
      have HK := Lib.hid hK
      clear hK
      go_simp
      refine HK.out _ _ ?_
      clear HK
      try simp only [Act.put, List.setIfInBounds_toArray, List.set_cons_zero, List.set_cons_succ]
      refine wpAnyIn_ready (rs := [1, 4]) (by kernel_rfl) (by simp) ?_
      refine AllReadyIn.cons (o := { dst := some 9, op := Go.Op.load 55 (Go.Operand.tmp 4), type := 55, pos := "space.go:111", after := #[], guard := none }) rfl (fun K hK => ?_) ?_
      · skip
        have HK := Lib.hid hK
        clear hK
        go_simp
        refine HK.out _ _ ?_
        clear HK
        try simp only [Act.put, List.setIfInBounds_toArray, List.set_cons_zero, List.set_cons_succ]
        refine wpAnyIn_ready (rs := [4]) (by kernel_rfl) (by simp) ?_
        refine AllReadyIn.cons (o := { dst := some 12, op := Go.Op.call { callee := Go.Callee.value (Go.Operand.func 103), args := #[Go.Operand.tmp 10, Go.Operand.tmp 11], argTypes := #[55, 9] }, type := 59, pos := "space.go:111", after := #[{ on := 2, ground := Go.Ground.data }, { on := 3, ground := Go.Ground.data }], guard := none }) rfl (fun K hK => ?_) AllReadyIn.nil
        have HK := Lib.hid hK
        clear hK
        go_simp
        refine ⟨trivial, ?_⟩
        refine (CallsIn.inRound l2 (callsIn_wide.2 HC.out)).mono ?_
        rintro e w1 ⟨v, rfl, hv, hb1⟩
        refine HK.out _ _ ?_
        have HJ := Lib.hid (And.intro hv hb1)
        obtain ⟨G2, G3, G4, G5, G6⟩ := (HX.out.2.2.more hb1).var
        have G0 := cell_later hb1 HX.out.1
        clear HK hv hb1 G1
        try simp only [Act.put, List.setIfInBounds_toArray, List.set_cons_zero, List.set_cons_succ]
        exact HF.out _ _ _ HJ.out.2 HJ.out.1 (by kernel_rfl) (by kernel_rfl) (by kernel_rfl)
      refine AllReadyIn.cons (o := { dst := some 12, op := Go.Op.call { callee := Go.Callee.value (Go.Operand.func 103), args := #[Go.Operand.tmp 10, Go.Operand.tmp 11], argTypes := #[55, 9] }, type := 59, pos := "space.go:111", after := #[{ on := 2, ground := Go.Ground.data }, { on := 3, ground := Go.Ground.data }], guard := none }) rfl (fun K hK => ?_) AllReadyIn.nil
      have HK := Lib.hid hK
      clear hK
      go_simp
      refine ⟨trivial, ?_⟩
      refine (CallsIn.inRound l2 (callsIn_wide.2 HC.out)).mono ?_
      rintro e w1 ⟨v, rfl, hv, hb1⟩
      refine HK.out _ _ ?_
      have HJ := Lib.hid (And.intro hv hb1)
      obtain ⟨G2, G3, G4, G5, G6⟩ := (HX.out.2.2.more hb1).var
      have G0 := cell_later hb1 HX.out.1
      clear HK hv hb1 G1
      try simp only [Act.put, List.setIfInBounds_toArray, List.set_cons_zero, List.set_cons_succ]
      refine wpAnyIn_ready (rs := [1]) (by kernel_rfl) (by simp) ?_
      refine AllReadyIn.cons (o := { dst := some 9, op := Go.Op.load 55 (Go.Operand.tmp 4), type := 55, pos := "space.go:111", after := #[], guard := none }) rfl (fun K hK => ?_) AllReadyIn.nil
      have HK := Lib.hid hK
      clear hK
      go_simp
      refine HK.out _ _ ?_
      clear HK
      try simp only [Act.put, List.setIfInBounds_toArray, List.set_cons_zero, List.set_cons_succ]
      exact HF.out _ _ _ HJ.out.2 HJ.out.1 (by kernel_rfl) (by kernel_rfl) (by kernel_rfl)
    refine AllReadyIn.cons (o := { dst := some 9, op := Go.Op.load 55 (Go.Operand.tmp 4), type := 55, pos := "space.go:111", after := #[], guard := none }) rfl (fun K hK => ?_) ?_
    · skip
      have HK := Lib.hid hK
      clear hK
      go_simp
      refine HK.out _ _ ?_
      clear HK
      try simp only [Act.put, List.setIfInBounds_toArray, List.set_cons_zero, List.set_cons_succ]
      refine wpAnyIn_ready (rs := [0, 3]) (by kernel_rfl) (by simp) ?_
      refine AllReadyIn.cons (o := { dst := some 8, op := Go.Op.load 124 (Go.Operand.tmp 2), type := 124, pos := "space.go:111", after := #[], guard := none }) rfl (fun K hK => ?_) ?_
      · skip
        have HK := Lib.hid hK
        clear hK
        go_simp
        refine HK.out _ _ ?_
        clear HK
        try simp only [Act.put, List.setIfInBounds_toArray, List.set_cons_zero, List.set_cons_succ]
        refine wpAnyIn_ready (rs := [3]) (by kernel_rfl) (by simp) ?_
        refine AllReadyIn.cons (o := { dst := some 11, op := Go.Op.load 9 (Go.Operand.tmp 3), type := 9, pos := "space.go:111", after := #[], guard := none }) rfl (fun K hK => ?_) AllReadyIn.nil
        have HK := Lib.hid hK
        clear hK
        go_simp
        refine HK.out _ _ ?_
        clear HK
        try simp only [Act.put, List.setIfInBounds_toArray, List.set_cons_zero, List.set_cons_succ]
        refine wpAnyIn_ready (rs := [4]) (by kernel_rfl) (by simp) ?_
        refine AllReadyIn.cons (o := { dst := some 12, op := Go.Op.call { callee := Go.Callee.value (Go.Operand.func 103), args := #[Go.Operand.tmp 10, Go.Operand.tmp 11], argTypes := #[55, 9] }, type := 59, pos := "space.go:111", after := #[{ on := 2, ground := Go.Ground.data }, { on := 3, ground := Go.Ground.data }], guard := none }) rfl (fun K hK => ?_) AllReadyIn.nil
        have HK := Lib.hid hK
        clear hK
        go_simp
        refine ⟨trivial, ?_⟩
        refine (CallsIn.inRound l2 (callsIn_wide.2 HC.out)).mono ?_
        rintro e w1 ⟨v, rfl, hv, hb1⟩
        refine HK.out _ _ ?_
        have HJ := Lib.hid (And.intro hv hb1)
        obtain ⟨G2, G3, G4, G5, G6⟩ := (HX.out.2.2.more hb1).var
        have G0 := cell_later hb1 HX.out.1
        clear HK hv hb1 G1
        try simp only [Act.put, List.setIfInBounds_toArray, List.set_cons_zero, List.set_cons_succ]
        exact HF.out _ _ _ HJ.out.2 HJ.out.1 (by kernel_rfl) (by kernel_rfl) (by kernel_rfl)
      refine AllReadyIn.cons (o := { dst := some 11, op := Go.Op.load 9 (Go.Operand.tmp 3), type := 9, pos := "space.go:111", after := #[], guard := none }) rfl (fun K hK => ?_) AllReadyIn.nil
      have HK := Lib.hid hK
      clear hK
      go_simp
      refine HK.out _ _ ?_
      clear HK
      try simp only [Act.put, List.setIfInBounds_toArray, List.set_cons_zero, List.set_cons_succ]
      refine wpAnyIn_ready (rs := [0, 4]) (by kernel_rfl) (by simp) ?_
      refine AllReadyIn.cons (o := { dst := some 8, op := Go.Op.load 124 (Go.Operand.tmp 2), type := 124, pos := "space.go:111", after := #[], guard := none }) rfl (fun K hK => ?_) ?_
      · skip
        have HK := Lib.hid hK
        clear hK
        go_simp
        refine HK.out _ _ ?_
        clear HK
        try simp only [Act.put, List.setIfInBounds_toArray, List.set_cons_zero, List.set_cons_succ]
        refine wpAnyIn_ready (rs := [4]) (by kernel_rfl) (by simp) ?_
        refine AllReadyIn.cons (o := { dst := some 12, op := Go.Op.call { callee := Go.Callee.value (Go.Operand.func 103), args := #[Go.Operand.tmp 10, Go.Operand.tmp 11], argTypes := #[55, 9] }, type := 59, pos := "space.go:111", after := #[{ on := 2, ground := Go.Ground.data }, { on := 3, ground := Go.Ground.data }], guard := none }) rfl (fun K hK => ?_) AllReadyIn.nil
        have HK := Lib.hid hK
        clear hK
        go_simp
        refine ⟨trivial, ?_⟩
        refine (CallsIn.inRound l2 (callsIn_wide.2 HC.out)).mono ?_
        rintro e w1 ⟨v, rfl, hv, hb1⟩
        refine HK.out _ _ ?_
        have HJ := Lib.hid (And.intro hv hb1)
        obtain ⟨G2, G3, G4, G5, G6⟩ := (HX.out.2.2.more hb1).var
        have G0 := cell_later hb1 HX.out.1
        clear HK hv hb1 G1
        try simp only [Act.put, List.setIfInBounds_toArray, List.set_cons_zero, List.set_cons_succ]
        exact HF.out _ _ _ HJ.out.2 HJ.out.1 (by kernel_rfl) (by kernel_rfl) (by kernel_rfl)
      refine AllReadyIn.cons (o := { dst := some 12, op := Go.Op.call { callee := Go.Callee.value (Go.Operand.func 103), args := #[Go.Operand.tmp 10, Go.Operand.tmp 11], argTypes := #[55, 9] }, type := 59, pos := "space.go:111", after := #[{ on := 2, ground := Go.Ground.data }, { on := 3, ground := Go.Ground.data }], guard := none }) rfl (fun K hK => ?_) AllReadyIn.nil
      have HK := Lib.hid hK
      clear hK
      go_simp
      refine ⟨trivial, ?_⟩
      refine (CallsIn.inRound l2 (callsIn_wide.2 HC.out)).mono ?_
      rintro e w1 ⟨v, rfl, hv, hb1⟩
      refine HK.out _ _ ?_
      have HJ := Lib.hid (And.intro hv hb1)
      obtain ⟨G2, G3, G4, G5, G6⟩ := (HX.out.2.2.more hb1).var
      have G0 := cell_later hb1 HX.out.1
      clear HK hv hb1 G1
      try simp only [Act.put, List.setIfInBounds_toArray, List.set_cons_zero, List.set_cons_succ]
      refine wpAnyIn_ready (rs := [0]) (by kernel_rfl) (by simp) ?_
      refine AllReadyIn.cons (o := { dst := some 8, op := Go.Op.load 124 (Go.Operand.tmp 2), type := 124, pos := "space.go:111", after := #[], guard := none }) rfl (fun K hK => ?_) AllReadyIn.nil
      have HK := Lib.hid hK
      clear hK
      go_simp
      refine HK.out _ _ ?_
      clear HK
      try simp only [Act.put, List.setIfInBounds_toArray, List.set_cons_zero, List.set_cons_succ]
      exact HF.out _ _ _ HJ.out.2 HJ.out.1 (by kernel_rfl) (by kernel_rfl) (by kernel_rfl)
    refine AllReadyIn.cons (o := { dst := some 11, op := Go.Op.load 9 (Go.Operand.tmp 3), type := 9, pos := "space.go:111", after := #[], guard := none }) rfl (fun K hK => ?_) AllReadyIn.nil
    have HK := Lib.hid hK
    clear hK
    go_simp
    refine HK.out _ _ ?_
    clear HK
    try simp only [Act.put, List.setIfInBounds_toArray, List.set_cons_zero, List.set_cons_succ]
    refine wpAnyIn_ready (rs := [0, 1, 4]) (by kernel_rfl) (by simp) ?_
    refine AllReadyIn.cons (o := { dst := some 8, op := Go.Op.load 124 (Go.Operand.tmp 2), type := 124, pos := "space.go:111", after := #[], guard := none }) rfl (fun K hK => ?_) ?_
    · skip
      have HK := Lib.hid hK
      clear hK
      go_simp
      refine HK.out _ _ ?_
      clear HK
      try simp only [Act.put, List.setIfInBounds_toArray, List.set_cons_zero, List.set_cons_succ]
      refine wpAnyIn_ready (rs := [1, 4]) (by kernel_rfl) (by simp) ?_
      refine AllReadyIn.cons (o := { dst := some 9, op := Go.Op.load 55 (Go.Operand.tmp 4), type := 55, pos := "space.go:111", after := #[], guard := none }) rfl (fun K hK => ?_) ?_
      · skip
        have HK := Lib.hid hK
        clear hK
        go_simp
        refine HK.out _ _ ?_
        clear HK
        try simp only [Act.put, List.setIfInBounds_toArray, List.set_cons_zero, List.set_cons_succ]
        refine wpAnyIn_ready (rs := [4]) (by kernel_rfl) (by simp) ?_
        refine AllReadyIn.cons (o := { dst := some 12, op := Go.Op.call { callee := Go.Callee.value (Go.Operand.func 103), args := #[Go.Operand.tmp 10, Go.Operand.tmp 11], argTypes := #[55, 9] }, type := 59, pos := "space.go:111", after := #[{ on := 2, ground := Go.Ground.data }, { on := 3, ground := Go.Ground.data }], guard := none }) rfl (fun K hK => ?_) AllReadyIn.nil
        have HK := Lib.hid hK
        clear hK
        go_simp
        refine ⟨trivial, ?_⟩
        refine (CallsIn.inRound l2 (callsIn_wide.2 HC.out)).mono ?_
        rintro e w1 ⟨v, rfl, hv, hb1⟩
        refine HK.out _ _ ?_
        have HJ := Lib.hid (And.intro hv hb1)
        obtain ⟨G2, G3, G4, G5, G6⟩ := (HX.out.2.2.more hb1).var
        have G0 := cell_later hb1 HX.out.1
        clear HK hv hb1 G1
        try simp only [Act.put, List.setIfInBounds_toArray, List.set_cons_zero, List.set_cons_succ]
        exact HF.out _ _ _ HJ.out.2 HJ.out.1 (by kernel_rfl) (by kernel_rfl) (by kernel_rfl)
      refine AllReadyIn.cons (o := { dst := some 12, op := Go.Op.call { callee := Go.Callee.value (Go.Operand.func 103), args := #[Go.Operand.tmp 10, Go.Operand.tmp 11], argTypes := #[55, 9] }, type := 59, pos := "space.go:111", after := #[{ on := 2, ground := Go.Ground.data }, { on := 3, ground := Go.Ground.data }], guard := none }) rfl (fun K hK => ?_) AllReadyIn.nil
      have HK := Lib.hid hK
      clear hK
      go_simp
      refine ⟨trivial, ?_⟩
      refine (CallsIn.inRound l2 (callsIn_wide.2 HC.out)).mono ?_
      rintro e w1 ⟨v, rfl, hv, hb1⟩
      refine HK.out _ _ ?_
      have HJ := Lib.hid (And.intro hv hb1)
      obtain ⟨G2, G3, G4, G5, G6⟩ := (HX.out.2.2.more hb1).var
      have G0 := cell_later hb1 HX.out.1
      clear HK hv hb1 G1
      try simp only [Act.put, List.setIfInBounds_toArray, List.set_cons_zero, List.set_cons_succ]
      refine wpAnyIn_ready (rs := [1]) (by kernel_rfl) (by simp) ?_
      refine AllReadyIn.cons (o := { dst := some 9, op := Go.Op.load 55 (Go.Operand.tmp 4), type := 55, pos := "space.go:111", after := #[], guard := none }) rfl (fun K hK => ?_) AllReadyIn.nil
      have HK := Lib.hid hK
      clear hK
      go_simp
      refine HK.out _ _ ?_
      clear HK
      try simp only [Act.put, List.setIfInBounds_toArray, List.set_cons_zero, List.set_cons_succ]
      exact HF.out _ _ _ HJ.out.2 HJ.out.1 (by kernel_rfl) (by kernel_rfl) (by kernel_rfl)
    refine AllReadyIn.cons (o := { dst := some 9, op := Go.Op.load 55 (Go.Operand.tmp 4), type := 55, pos := "space.go:111", after := #[], guard := none }) rfl (fun K hK => ?_) ?_
    · skip
      have HK := Lib.hid hK
      clear hK
      go_simp
      refine HK.out _ _ ?_
      clear HK
      try simp only [Act.put, List.setIfInBounds_toArray, List.set_cons_zero, List.set_cons_succ]
      refine wpAnyIn_ready (rs := [0, 4]) (by kernel_rfl) (by simp) ?_
      refine AllReadyIn.cons (o := { dst := some 8, op := Go.Op.load 124 (Go.Operand.tmp 2), type := 124, pos := "space.go:111", after := #[], guard := none }) rfl (fun K hK => ?_) ?_
      · skip
        have HK := Lib.hid hK
        clear hK
        go_simp
        refine HK.out _ _ ?_
        clear HK
        try simp only [Act.put, List.setIfInBounds_toArray, List.set_cons_zero, List.set_cons_succ]
        refine wpAnyIn_ready (rs := [4]) (by kernel_rfl) (by simp) ?_
        refine AllReadyIn.cons (o := { dst := some 12, op := Go.Op.call { callee := Go.Callee.value (Go.Operand.func 103), args := #[Go.Operand.tmp 10, Go.Operand.tmp 11], argTypes := #[55, 9] }, type := 59, pos := "space.go:111", after := #[{ on := 2, ground := Go.Ground.data }, { on := 3, ground := Go.Ground.data }], guard := none }) rfl (fun K hK => ?_) AllReadyIn.nil
        have HK := Lib.hid hK
        clear hK
        go_simp
        refine ⟨trivial, ?_⟩
        refine (CallsIn.inRound l2 (callsIn_wide.2 HC.out)).mono ?_
        rintro e w1 ⟨v, rfl, hv, hb1⟩
        refine HK.out _ _ ?_
        have HJ := Lib.hid (And.intro hv hb1)
        obtain ⟨G2, G3, G4, G5, G6⟩ := (HX.out.2.2.more hb1).var
        have G0 := cell_later hb1 HX.out.1
        clear HK hv hb1 G1
        try simp only [Act.put, List.setIfInBounds_toArray, List.set_cons_zero, List.set_cons_succ]
        exact HF.out _ _ _ HJ.out.2 HJ.out.1 (by kernel_rfl) (by kernel_rfl) (by kernel_rfl)
      refine AllReadyIn.cons (o := { dst := some 12, op := Go.Op.call { callee := Go.Callee.value (Go.Operand.func 103), args := #[Go.Operand.tmp 10, Go.Operand.tmp 11], argTypes := #[55, 9] }, type := 59, pos := "space.go:111", after := #[{ on := 2, ground := Go.Ground.data }, { on := 3, ground := Go.Ground.data }], guard := none }) rfl (fun K hK => ?_) AllReadyIn.nil
      have HK := Lib.hid hK
      clear hK
      go_simp
      refine ⟨trivial, ?_⟩
      refine (CallsIn.inRound l2 (callsIn_wide.2 HC.out)).mono ?_
      rintro e w1 ⟨v, rfl, hv, hb1⟩
      refine HK.out _ _ ?_
      have HJ := Lib.hid (And.intro hv hb1)
      obtain ⟨G2, G3, G4, G5, G6⟩ := (HX.out.2.2.more hb1).var
      have G0 := cell_later hb1 HX.out.1
      clear HK hv hb1 G1
      try simp only [Act.put, List.setIfInBounds_toArray, List.set_cons_zero, List.set_cons_succ]
      refine wpAnyIn_ready (rs := [0]) (by kernel_rfl) (by simp) ?_
      refine AllReadyIn.cons (o := { dst := some 8, op := Go.Op.load 124 (Go.Operand.tmp 2), type := 124, pos := "space.go:111", after := #[], guard := none }) rfl (fun K hK => ?_) AllReadyIn.nil
      have HK := Lib.hid hK
      clear hK
      go_simp
      refine HK.out _ _ ?_
      clear HK
      try simp only [Act.put, List.setIfInBounds_toArray, List.set_cons_zero, List.set_cons_succ]
      exact HF.out _ _ _ HJ.out.2 HJ.out.1 (by kernel_rfl) (by kernel_rfl) (by kernel_rfl)
    refine AllReadyIn.cons (o := { dst := some 12, op := Go.Op.call { callee := Go.Callee.value (Go.Operand.func 103), args := #[Go.Operand.tmp 10, Go.Operand.tmp 11], argTypes := #[55, 9] }, type := 59, pos := "space.go:111", after := #[{ on := 2, ground := Go.Ground.data }, { on := 3, ground := Go.Ground.data }], guard := none }) rfl (fun K hK => ?_) AllReadyIn.nil
    have HK := Lib.hid hK
    clear hK
    go_simp
    refine ⟨trivial, ?_⟩
    refine (CallsIn.inRound l2 (callsIn_wide.2 HC.out)).mono ?_
    rintro e w1 ⟨v, rfl, hv, hb1⟩
    refine HK.out _ _ ?_
    have HJ := Lib.hid (And.intro hv hb1)
    obtain ⟨G2, G3, G4, G5, G6⟩ := (HX.out.2.2.more hb1).var
    have G0 := cell_later hb1 HX.out.1
    clear HK hv hb1 G1
    try simp only [Act.put, List.setIfInBounds_toArray, List.set_cons_zero, List.set_cons_succ]
    refine wpAnyIn_ready (rs := [0, 1]) (by kernel_rfl) (by simp) ?_
    refine AllReadyIn.cons (o := { dst := some 8, op := Go.Op.load 124 (Go.Operand.tmp 2), type := 124, pos := "space.go:111", after := #[], guard := none }) rfl (fun K hK => ?_) ?_
    · skip
      have HK := Lib.hid hK
      clear hK
      go_simp
      refine HK.out _ _ ?_
      clear HK
      try simp only [Act.put, List.setIfInBounds_toArray, List.set_cons_zero, List.set_cons_succ]
      refine wpAnyIn_ready (rs := [1]) (by kernel_rfl) (by simp) ?_
      refine AllReadyIn.cons (o := { dst := some 9, op := Go.Op.load 55 (Go.Operand.tmp 4), type := 55, pos := "space.go:111", after := #[], guard := none }) rfl (fun K hK => ?_) AllReadyIn.nil
      have HK := Lib.hid hK
      clear hK
      go_simp
      refine HK.out _ _ ?_
      clear HK
      try simp only [Act.put, List.setIfInBounds_toArray, List.set_cons_zero, List.set_cons_succ]
      exact HF.out _ _ _ HJ.out.2 HJ.out.1 (by kernel_rfl) (by kernel_rfl) (by kernel_rfl)
    refine AllReadyIn.cons (o := { dst := some 9, op := Go.Op.load 55 (Go.Operand.tmp 4), type := 55, pos := "space.go:111", after := #[], guard := none }) rfl (fun K hK => ?_) AllReadyIn.nil
    have HK := Lib.hid hK
    clear hK
    go_simp
    refine HK.out _ _ ?_
    clear HK
    try simp only [Act.put, List.setIfInBounds_toArray, List.set_cons_zero, List.set_cons_succ]
    refine wpAnyIn_ready (rs := [0]) (by kernel_rfl) (by simp) ?_
    refine AllReadyIn.cons (o := { dst := some 8, op := Go.Op.load 124 (Go.Operand.tmp 2), type := 124, pos := "space.go:111", after := #[], guard := none }) rfl (fun K hK => ?_) AllReadyIn.nil
    have HK := Lib.hid hK
    clear hK
    go_simp
    refine HK.out _ _ ?_
    clear HK
    try simp only [Act.put, List.setIfInBounds_toArray, List.set_cons_zero, List.set_cons_succ]
    exact HF.out _ _ _ HJ.out.2 HJ.out.1 (by kernel_rfl) (by kernel_rfl) (by kernel_rfl)
  refine AllReadyIn.cons (o := { dst := some 11, op := Go.Op.load 9 (Go.Operand.tmp 3), type := 9, pos := "space.go:111", after := #[], guard := none }) rfl (fun K hK => ?_) AllReadyIn.nil
  have HK := Lib.hid hK
  clear hK
  go_simp
  refine HK.out _ _ ?_
  clear HK
  try simp only [Act.put, List.setIfInBounds_toArray, List.set_cons_zero, List.set_cons_succ]
  refine wpAnyIn_ready (rs := [0, 1, 2]) (by kernel_rfl) (by simp) ?_
  refine AllReadyIn.cons (o := { dst := some 8, op := Go.Op.load 124 (Go.Operand.tmp 2), type := 124, pos := "space.go:111", after := #[], guard := none }) rfl (fun K hK => ?_) ?_
  · skip
    have HK := Lib.hid hK
    clear hK
    go_simp
    refine HK.out _ _ ?_
    clear HK
    try simp only [Act.put, List.setIfInBounds_toArray, List.set_cons_zero, List.set_cons_succ]
    refine wpAnyIn_ready (rs := [1, 2]) (by kernel_rfl) (by simp) ?_
    refine AllReadyIn.cons (o := { dst := some 9, op := Go.Op.load 55 (Go.Operand.tmp 4), type := 55, pos := "space.go:111", after := #[], guard := none }) rfl (fun K hK => ?_) ?_
    · skip
      have HK := Lib.hid hK
      clear hK
      go_simp
      refine HK.out _ _ ?_
      clear HK
      try simp only [Act.put, List.setIfInBounds_toArray, List.set_cons_zero, List.set_cons_succ]
      refine wpAnyIn_ready (rs := [2]) (by kernel_rfl) (by simp) ?_
      refine AllReadyIn.cons (o := { dst := some 10, op := Go.Op.load 55 (Go.Operand.tmp 4), type := 55, pos := "space.go:111", after := #[], guard := none }) rfl (fun K hK => ?_) AllReadyIn.nil
      have HK := Lib.hid hK
      clear hK
      go_simp
      refine HK.out _ _ ?_
      clear HK
      try simp only [Act.put, List.setIfInBounds_toArray, List.set_cons_zero, List.set_cons_succ]
      refine wpAnyIn_ready (rs := [4]) (by kernel_rfl) (by simp) ?_
      refine AllReadyIn.cons (o := { dst := some 12, op := Go.Op.call { callee := Go.Callee.value (Go.Operand.func 103), args := #[Go.Operand.tmp 10, Go.Operand.tmp 11], argTypes := #[55, 9] }, type := 59, pos := "space.go:111", after := #[{ on := 2, ground := Go.Ground.data }, { on := 3, ground := Go.Ground.data }], guard := none }) rfl (fun K hK => ?_) AllReadyIn.nil
      have HK := Lib.hid hK
      clear hK
      go_simp
      refine ⟨trivial, ?_⟩
      refine (CallsIn.inRound l2 (callsIn_wide.2 HC.out)).mono ?_
      rintro e w1 ⟨v, rfl, hv, hb1⟩
      refine HK.out _ _ ?_
      have HJ := Lib.hid (And.intro hv hb1)
      obtain ⟨G2, G3, G4, G5, G6⟩ := (HX.out.2.2.more hb1).var
      have G0 := cell_later hb1 HX.out.1
      clear HK hv hb1 G1
      try simp only [Act.put, List.setIfInBounds_toArray, List.set_cons_zero, List.set_cons_succ]
      exact HF.out _ _ _ HJ.out.2 HJ.out.1 (by kernel_rfl) (by kernel_rfl) (by kernel_rfl)
    refine AllReadyIn.cons (o := { dst := some 10, op := Go.Op.load 55 (Go.Operand.tmp 4), type := 55, pos := "space.go:111", after := #[], guard := none }) rfl (fun K hK => ?_) AllReadyIn.nil
    have HK := Lib.hid hK
    clear hK
    go_simp
    refine HK.out _ _ ?_
    clear HK
    try simp only [Act.put, List.setIfInBounds_toArray, List.set_cons_zero, List.set_cons_succ]
    refine wpAnyIn_ready (rs := [1, 4]) (by kernel_rfl) (by simp) ?_
    refine AllReadyIn.cons (o := { dst := some 9, op := Go.Op.load 55 (Go.Operand.tmp 4), type := 55, pos := "space.go:111", after := #[], guard := none }) rfl (fun K hK => ?_) ?_
    · skip
      have HK := Lib.hid hK
      clear hK
      go_simp
      refine HK.out _ _ ?_
      clear HK
      try simp only [Act.put, List.setIfInBounds_toArray, List.set_cons_zero, List.set_cons_succ]
      refine wpAnyIn_ready (rs := [4]) (by kernel_rfl) (by simp) ?_
      refine AllReadyIn.cons (o := { dst := some 12, op := Go.Op.call { callee := Go.Callee.value (Go.Operand.func 103), args := #[Go.Operand.tmp 10, Go.Operand.tmp 11], argTypes := #[55, 9] }, type := 59, pos := "space.go:111", after := #[{ on := 2, ground := Go.Ground.data }, { on := 3, ground := Go.Ground.data }], guard := none }) rfl (fun K hK => ?_) AllReadyIn.nil
      have HK := Lib.hid hK
      clear hK
      go_simp
      refine ⟨trivial, ?_⟩
      refine (CallsIn.inRound l2 (callsIn_wide.2 HC.out)).mono ?_
      rintro e w1 ⟨v, rfl, hv, hb1⟩
      refine HK.out _ _ ?_
      have HJ := Lib.hid (And.intro hv hb1)
      obtain ⟨G2, G3, G4, G5, G6⟩ := (HX.out.2.2.more hb1).var
      have G0 := cell_later hb1 HX.out.1
      clear HK hv hb1 G1
      try simp only [Act.put, List.setIfInBounds_toArray, List.set_cons_zero, List.set_cons_succ]
      exact HF.out _ _ _ HJ.out.2 HJ.out.1 (by kernel_rfl) (by kernel_rfl) (by kernel_rfl)
    refine AllReadyIn.cons (o := { dst := some 12, op := Go.Op.call { callee := Go.Callee.value (Go.Operand.func 103), args := #[Go.Operand.tmp 10, Go.Operand.tmp 11], argTypes := #[55, 9] }, type := 59, pos := "space.go:111", after := #[{ on := 2, ground := Go.Ground.data }, { on := 3, ground := Go.Ground.data }], guard := none }) rfl (fun K hK => ?_) AllReadyIn.nil
    have HK := Lib.hid hK
    clear hK
    go_simp
    refine ⟨trivial, ?_⟩
    refine (CallsIn.inRound l2 (callsIn_wide.2 HC.out)).mono ?_
    rintro e w1 ⟨v, rfl, hv, hb1⟩
    refine HK.out _ _ ?_
    have HJ := Lib.hid (And.intro hv hb1)
    obtain ⟨G2, G3, G4, G5, G6⟩ := (HX.out.2.2.more hb1).var
    have G0 := cell_later hb1 HX.out.1
    clear HK hv hb1 G1
    try simp only [Act.put, List.setIfInBounds_toArray, List.set_cons_zero, List.set_cons_succ]
    refine wpAnyIn_ready (rs := [1]) (by kernel_rfl) (by simp) ?_
    refine AllReadyIn.cons (o := { dst := some 9, op := Go.Op.load 55 (Go.Operand.tmp 4), type := 55, pos := "space.go:111", after := #[], guard := none }) rfl (fun K hK => ?_) AllReadyIn.nil
    have HK := Lib.hid hK
    clear hK
    go_simp
    refine HK.out _ _ ?_
    clear HK
    try simp only [Act.put, List.setIfInBounds_toArray, List.set_cons_zero, List.set_cons_succ]
    exact HF.out _ _ _ HJ.out.2 HJ.out.1 (by kernel_rfl) (by kernel_rfl) (by kernel_rfl)
  refine AllReadyIn.cons (o := { dst := some 9, op := Go.Op.load 55 (Go.Operand.tmp 4), type := 55, pos := "space.go:111", after := #[], guard := none }) rfl (fun K hK => ?_) ?_
  · skip
    have HK := Lib.hid hK
    clear hK
    go_simp
    refine HK.out _ _ ?_
    clear HK
    try simp only [Act.put, List.setIfInBounds_toArray, List.set_cons_zero, List.set_cons_succ]
    refine wpAnyIn_ready (rs := [0, 2]) (by kernel_rfl) (by simp) ?_
    refine AllReadyIn.cons (o := { dst := some 8, op := Go.Op.load 124 (Go.Operand.tmp 2), type := 124, pos := "space.go:111", after := #[], guard := none }) rfl (fun K hK => ?_) ?_
    · skip
      have HK := Lib.hid hK
      clear hK
      go_simp
      refine HK.out _ _ ?_
      clear HK
      try simp only [Act.put, List.setIfInBounds_toArray, List.set_cons_zero, List.set_cons_succ]
      refine wpAnyIn_ready (rs := [2]) (by kernel_rfl) (by simp) ?_
      refine AllReadyIn.cons (o := { dst := some 10, op := Go.Op.load 55 (Go.Operand.tmp 4), type := 55, pos := "space.go:111", after := #[], guard := none }) rfl (fun K hK => ?_) AllReadyIn.nil
      have HK := Lib.hid hK
      clear hK
      go_simp
      refine HK.out _ _ ?_
      clear HK
      try simp only [Act.put, List.setIfInBounds_toArray, List.set_cons_zero, List.set_cons_succ]
      refine wpAnyIn_ready (rs := [4]) (by kernel_rfl) (by simp) ?_
      refine AllReadyIn.cons (o := { dst := some 12, op := Go.Op.call { callee := Go.Callee.value (Go.Operand.func 103), args := #[Go.Operand.tmp 10, Go.Operand.tmp 11], argTypes := #[55, 9] }, type := 59, pos := "space.go:111", after := #[{ on := 2, ground := Go.Ground.data }, { on := 3, ground := Go.Ground.data }], guard := none }) rfl (fun K hK => ?_) AllReadyIn.nil
      have HK := Lib.hid hK
      clear hK
      go_simp
      refine ⟨trivial, ?_⟩
      refine (CallsIn.inRound l2 (callsIn_wide.2 HC.out)).mono ?_
      rintro e w1 ⟨v, rfl, hv, hb1⟩
      refine HK.out _ _ ?_
      have HJ := Lib.hid (And.intro hv hb1)
      obtain ⟨G2, G3, G4, G5, G6⟩ := (HX.out.2.2.more hb1).var
      have G0 := cell_later hb1 HX.out.1
      clear HK hv hb1 G1
      try simp only [Act.put, List.setIfInBounds_toArray, List.set_cons_zero, List.set_cons_succ]
      exact HF.out _ _ _ HJ.out.2 HJ.out.1 (by kernel_rfl) (by kernel_rfl) (by kernel_rfl)
    refine AllReadyIn.cons (o := { dst := some 10, op := Go.Op.load 55 (Go.Operand.tmp 4), type := 55, pos := "space.go:111", after := #[], guard := none }) rfl (fun K hK => ?_) AllReadyIn.nil
    have HK := Lib.hid hK
    clear hK
    go_simp
    refine HK.out _ _ ?_
    clear HK
    try simp only [Act.put, List.setIfInBounds_toArray, List.set_cons_zero, List.set_cons_succ]
    refine wpAnyIn_ready (rs := [0, 4]) (by kernel_rfl) (by simp) ?_
    refine AllReadyIn.cons (o := { dst := some 8, op := Go.Op.load 124 (Go.Operand.tmp 2), type := 124, pos := "space.go:111", after := #[], guard := none }) rfl (fun K hK => ?_) ?_
    · skip
      have HK := Lib.hid hK
      clear hK
      go_simp
      refine HK.out _ _ ?_
      clear HK
      try simp only [Act.put, List.setIfInBounds_toArray, List.set_cons_zero, List.set_cons_succ]
      refine wpAnyIn_ready (rs := [4]) (by kernel_rfl) (by simp) ?_
      refine AllReadyIn.cons (o := { dst := some 12, op := Go.Op.call { callee := Go.Callee.value (Go.Operand.func 103), args := #[Go.Operand.tmp 10, Go.Operand.tmp 11], argTypes := #[55, 9] }, type := 59, pos := "space.go:111", after := #[{ on := 2, ground := Go.Ground.data }, { on := 3, ground := Go.Ground.data }], guard := none }) rfl (fun K hK => ?_) AllReadyIn.nil
      have HK := Lib.hid hK
      clear hK
      go_simp
      refine ⟨trivial, ?_⟩
      refine (CallsIn.inRound l2 (callsIn_wide.2 HC.out)).mono ?_
      rintro e w1 ⟨v, rfl, hv, hb1⟩
      refine HK.out _ _ ?_
      have HJ := Lib.hid (And.intro hv hb1)
      obtain ⟨G2, G3, G4, G5, G6⟩ := (HX.out.2.2.more hb1).var
      have G0 := cell_later hb1 HX.out.1
      clear HK hv hb1 G1
      try simp only [Act.put, List.setIfInBounds_toArray, List.set_cons_zero, List.set_cons_succ]
      exact HF.out _ _ _ HJ.out.2 HJ.out.1 (by kernel_rfl) (by kernel_rfl) (by kernel_rfl)
    refine AllReadyIn.cons (o := { dst := some 12, op := Go.Op.call { callee := Go.Callee.value (Go.Operand.func 103), args := #[Go.Operand.tmp 10, Go.Operand.tmp 11], argTypes := #[55, 9] }, type := 59, pos := "space.go:111", after := #[{ on := 2, ground := Go.Ground.data }, { on := 3, ground := Go.Ground.data }], guard := none }) rfl (fun K hK => ?_) AllReadyIn.nil
    have HK := Lib.hid hK
    clear hK
    go_simp
    refine ⟨trivial, ?_⟩
    refine (CallsIn.inRound l2 (callsIn_wide.2 HC.out)).mono ?_
    rintro e w1 ⟨v, rfl, hv, hb1⟩
    refine HK.out _ _ ?_
    have HJ := Lib.hid (And.intro hv hb1)
    obtain ⟨G2, G3, G4, G5, G6⟩ := (HX.out.2.2.more hb1).var
    have G0 := cell_later hb1 HX.out.1
    clear HK hv hb1 G1
    try simp only [Act.put, List.setIfInBounds_toArray, List.set_cons_zero, List.set_cons_succ]
    refine wpAnyIn_ready (rs := [0]) (by kernel_rfl) (by simp) ?_
    refine AllReadyIn.cons (o := { dst := some 8, op := Go.Op.load 124 (Go.Operand.tmp 2), type := 124, pos := "space.go:111", after := #[], guard := none }) rfl (fun K hK => ?_) AllReadyIn.nil
    have HK := Lib.hid hK
    clear hK
    go_simp
    refine HK.out _ _ ?_
    clear HK
    try simp only [Act.put, List.setIfInBounds_toArray, List.set_cons_zero, List.set_cons_succ]
    exact HF.out _ _ _ HJ.out.2 HJ.out.1 (by kernel_rfl) (by kernel_rfl) (by kernel_rfl)
  refine AllReadyIn.cons (o := { dst := some 10, op := Go.Op.load 55 (Go.Operand.tmp 4), type := 55, pos := "space.go:111", after := #[], guard := none }) rfl (fun K hK => ?_) AllReadyIn.nil
  have HK := Lib.hid hK
  clear hK
  go_simp
  refine HK.out _ _ ?_
  clear HK
  try simp only [Act.put, List.setIfInBounds_toArray, List.set_cons_zero, List.set_cons_succ]
  refine wpAnyIn_ready (rs := [0, 1, 4]) (by kernel_rfl) (by simp) ?_
  refine AllReadyIn.cons (o := { dst := some 8, op := Go.Op.load 124 (Go.Operand.tmp 2), type := 124, pos := "space.go:111", after := #[], guard := none }) rfl (fun K hK => ?_) ?_
  · skip
    have HK := Lib.hid hK
    clear hK
    go_simp
    refine HK.out _ _ ?_
    clear HK
    try simp only [Act.put, List.setIfInBounds_toArray, List.set_cons_zero, List.set_cons_succ]
    refine wpAnyIn_ready (rs := [1, 4]) (by kernel_rfl) (by simp) ?_
    refine AllReadyIn.cons (o := { dst := some 9, op := Go.Op.load 55 (Go.Operand.tmp 4), type := 55, pos := "space.go:111", after := #[], guard := none }) rfl (fun K hK => ?_) ?_
    · skip
      have HK := Lib.hid hK
      clear hK
      go_simp
      refine HK.out _ _ ?_
      clear HK
      try simp only [Act.put, List.setIfInBounds_toArray, List.set_cons_zero, List.set_cons_succ]
      refine wpAnyIn_ready (rs := [4]) (by kernel_rfl) (by simp) ?_
      refine AllReadyIn.cons (o := { dst := some 12, op := Go.Op.call { callee := Go.Callee.value (Go.Operand.func 103), args := #[Go.Operand.tmp 10, Go.Operand.tmp 11], argTypes := #[55, 9] }, type := 59, pos := "space.go:111", after := #[{ on := 2, ground := Go.Ground.data }, { on := 3, ground := Go.Ground.data }], guard := none }) rfl (fun K hK => ?_) AllReadyIn.nil
      have HK := Lib.hid hK
      clear hK
      go_simp
      refine ⟨trivial, ?_⟩
      refine (CallsIn.inRound l2 (callsIn_wide.2 HC.out)).mono ?_
      rintro e w1 ⟨v, rfl, hv, hb1⟩
      refine HK.out _ _ ?_
      have HJ := Lib.hid (And.intro hv hb1)
      obtain ⟨G2, G3, G4, G5, G6⟩ := (HX.out.2.2.more hb1).var
      have G0 := cell_later hb1 HX.out.1
      clear HK hv hb1 G1
      try simp only [Act.put, List.setIfInBounds_toArray, List.set_cons_zero, List.set_cons_succ]
      exact HF.out _ _ _ HJ.out.2 HJ.out.1 (by kernel_rfl) (by kernel_rfl) (by kernel_rfl)
    refine AllReadyIn.cons (o := { dst := some 12, op := Go.Op.call { callee := Go.Callee.value (Go.Operand.func 103), args := #[Go.Operand.tmp 10, Go.Operand.tmp 11], argTypes := #[55, 9] }, type := 59, pos := "space.go:111", after := #[{ on := 2, ground := Go.Ground.data }, { on := 3, ground := Go.Ground.data }], guard := none }) rfl (fun K hK => ?_) AllReadyIn.nil
    have HK := Lib.hid hK
    clear hK
    go_simp
    refine ⟨trivial, ?_⟩
    refine (CallsIn.inRound l2 (callsIn_wide.2 HC.out)).mono ?_
    rintro e w1 ⟨v, rfl, hv, hb1⟩
    refine HK.out _ _ ?_
    have HJ := Lib.hid (And.intro hv hb1)
    obtain ⟨G2, G3, G4, G5, G6⟩ := (HX.out.2.2.more hb1).var
    have G0 := cell_later hb1 HX.out.1
    clear HK hv hb1 G1
    try simp only [Act.put, List.setIfInBounds_toArray, List.set_cons_zero, List.set_cons_succ]
    refine wpAnyIn_ready (rs := [1]) (by kernel_rfl) (by simp) ?_
    refine AllReadyIn.cons (o := { dst := some 9, op := Go.Op.load 55 (Go.Operand.tmp 4), type := 55, pos := "space.go:111", after := #[], guard := none }) rfl (fun K hK => ?_) AllReadyIn.nil
    have HK := Lib.hid hK
    clear hK
    go_simp
    refine HK.out _ _ ?_
    clear HK
    try simp only [Act.put, List.setIfInBounds_toArray, List.set_cons_zero, List.set_cons_succ]
    exact HF.out _ _ _ HJ.out.2 HJ.out.1 (by kernel_rfl) (by kernel_rfl) (by kernel_rfl)
  refine AllReadyIn.cons (o := { dst := some 9, op := Go.Op.load 55 (Go.Operand.tmp 4), type := 55, pos := "space.go:111", after := #[], guard := none }) rfl (fun K hK => ?_) ?_
  · skip
    have HK := Lib.hid hK
    clear hK
    go_simp
    refine HK.out _ _ ?_
    clear HK
    try simp only [Act.put, List.setIfInBounds_toArray, List.set_cons_zero, List.set_cons_succ]
    refine wpAnyIn_ready (rs := [0, 4]) (by kernel_rfl) (by simp) ?_
    refine AllReadyIn.cons (o := { dst := some 8, op := Go.Op.load 124 (Go.Operand.tmp 2), type := 124, pos := "space.go:111", after := #[], guard := none }) rfl (fun K hK => ?_) ?_
    · skip
      have HK := Lib.hid hK
      clear hK
      go_simp
      refine HK.out _ _ ?_
      clear HK
      try simp only [Act.put, List.setIfInBounds_toArray, List.set_cons_zero, List.set_cons_succ]
      refine wpAnyIn_ready (rs := [4]) (by kernel_rfl) (by simp) ?_
      refine AllReadyIn.cons (o := { dst := some 12, op := Go.Op.call { callee := Go.Callee.value (Go.Operand.func 103), args := #[Go.Operand.tmp 10, Go.Operand.tmp 11], argTypes := #[55, 9] }, type := 59, pos := "space.go:111", after := #[{ on := 2, ground := Go.Ground.data }, { on := 3, ground := Go.Ground.data }], guard := none }) rfl (fun K hK => ?_) AllReadyIn.nil
      have HK := Lib.hid hK
      clear hK
      go_simp
      refine ⟨trivial, ?_⟩
      refine (CallsIn.inRound l2 (callsIn_wide.2 HC.out)).mono ?_
      rintro e w1 ⟨v, rfl, hv, hb1⟩
      refine HK.out _ _ ?_
      have HJ := Lib.hid (And.intro hv hb1)
      obtain ⟨G2, G3, G4, G5, G6⟩ := (HX.out.2.2.more hb1).var
      have G0 := cell_later hb1 HX.out.1
      clear HK hv hb1 G1
      try simp only [Act.put, List.setIfInBounds_toArray, List.set_cons_zero, List.set_cons_succ]
      exact HF.out _ _ _ HJ.out.2 HJ.out.1 (by kernel_rfl) (by kernel_rfl) (by kernel_rfl)
    refine AllReadyIn.cons (o := { dst := some 12, op := Go.Op.call { callee := Go.Callee.value (Go.Operand.func 103), args := #[Go.Operand.tmp 10, Go.Operand.tmp 11], argTypes := #[55, 9] }, type := 59, pos := "space.go:111", after := #[{ on := 2, ground := Go.Ground.data }, { on := 3, ground := Go.Ground.data }], guard := none }) rfl (fun K hK => ?_) AllReadyIn.nil
    have HK := Lib.hid hK
    clear hK
    go_simp
    refine ⟨trivial, ?_⟩
    refine (CallsIn.inRound l2 (callsIn_wide.2 HC.out)).mono ?_
    rintro e w1 ⟨v, rfl, hv, hb1⟩
    refine HK.out _ _ ?_
    have HJ := Lib.hid (And.intro hv hb1)
    obtain ⟨G2, G3, G4, G5, G6⟩ := (HX.out.2.2.more hb1).var
    have G0 := cell_later hb1 HX.out.1
    clear HK hv hb1 G1
    try simp only [Act.put, List.setIfInBounds_toArray, List.set_cons_zero, List.set_cons_succ]
    refine wpAnyIn_ready (rs := [0]) (by kernel_rfl) (by simp) ?_
    refine AllReadyIn.cons (o := { dst := some 8, op := Go.Op.load 124 (Go.Operand.tmp 2), type := 124, pos := "space.go:111", after := #[], guard := none }) rfl (fun K hK => ?_) AllReadyIn.nil
    have HK := Lib.hid hK
    clear hK
    go_simp
    refine HK.out _ _ ?_
    clear HK
    try simp only [Act.put, List.setIfInBounds_toArray, List.set_cons_zero, List.set_cons_succ]
    exact HF.out _ _ _ HJ.out.2 HJ.out.1 (by kernel_rfl) (by kernel_rfl) (by kernel_rfl)
  refine AllReadyIn.cons (o := { dst := some 12, op := Go.Op.call { callee := Go.Callee.value (Go.Operand.func 103), args := #[Go.Operand.tmp 10, Go.Operand.tmp 11], argTypes := #[55, 9] }, type := 59, pos := "space.go:111", after := #[{ on := 2, ground := Go.Ground.data }, { on := 3, ground := Go.Ground.data }], guard := none }) rfl (fun K hK => ?_) AllReadyIn.nil
  have HK := Lib.hid hK
  clear hK
  go_simp
  refine ⟨trivial, ?_⟩
  refine (CallsIn.inRound l2 (callsIn_wide.2 HC.out)).mono ?_
  rintro e w1 ⟨v, rfl, hv, hb1⟩
  refine HK.out _ _ ?_
  have HJ := Lib.hid (And.intro hv hb1)
  obtain ⟨G2, G3, G4, G5, G6⟩ := (HX.out.2.2.more hb1).var
  have G0 := cell_later hb1 HX.out.1
  clear HK hv hb1 G1
  try simp only [Act.put, List.setIfInBounds_toArray, List.set_cons_zero, List.set_cons_succ]
  refine wpAnyIn_ready (rs := [0, 1]) (by kernel_rfl) (by simp) ?_
  refine AllReadyIn.cons (o := { dst := some 8, op := Go.Op.load 124 (Go.Operand.tmp 2), type := 124, pos := "space.go:111", after := #[], guard := none }) rfl (fun K hK => ?_) ?_
  · skip
    have HK := Lib.hid hK
    clear hK
    go_simp
    refine HK.out _ _ ?_
    clear HK
    try simp only [Act.put, List.setIfInBounds_toArray, List.set_cons_zero, List.set_cons_succ]
    refine wpAnyIn_ready (rs := [1]) (by kernel_rfl) (by simp) ?_
    refine AllReadyIn.cons (o := { dst := some 9, op := Go.Op.load 55 (Go.Operand.tmp 4), type := 55, pos := "space.go:111", after := #[], guard := none }) rfl (fun K hK => ?_) AllReadyIn.nil
    have HK := Lib.hid hK
    clear hK
    go_simp
    refine HK.out _ _ ?_
    clear HK
    try simp only [Act.put, List.setIfInBounds_toArray, List.set_cons_zero, List.set_cons_succ]
    exact HF.out _ _ _ HJ.out.2 HJ.out.1 (by kernel_rfl) (by kernel_rfl) (by kernel_rfl)
  refine AllReadyIn.cons (o := { dst := some 9, op := Go.Op.load 55 (Go.Operand.tmp 4), type := 55, pos := "space.go:111", after := #[], guard := none }) rfl (fun K hK => ?_) AllReadyIn.nil
  have HK := Lib.hid hK
  clear hK
  go_simp
  refine HK.out _ _ ?_
  clear HK
  try simp only [Act.put, List.setIfInBounds_toArray, List.set_cons_zero, List.set_cons_succ]
  refine wpAnyIn_ready (rs := [0]) (by kernel_rfl) (by simp) ?_
  refine AllReadyIn.cons (o := { dst := some 8, op := Go.Op.load 124 (Go.Operand.tmp 2), type := 124, pos := "space.go:111", after := #[], guard := none }) rfl (fun K hK => ?_) AllReadyIn.nil
  have HK := Lib.hid hK
  clear hK
  go_simp
  refine HK.out _ _ ?_
  clear HK
  try simp only [Act.put, List.setIfInBounds_toArray, List.set_cons_zero, List.set_cons_succ]
  exact HF.out _ _ _ HJ.out.2 HJ.out.1 (by kernel_rfl) (by kernel_rfl) (by kernel_rfl)

end Go.Proofs.YtnbpfbmhheimbaaGreatDoor
