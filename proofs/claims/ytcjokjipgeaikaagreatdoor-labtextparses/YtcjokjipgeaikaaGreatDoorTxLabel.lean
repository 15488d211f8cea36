/- label: the text of a label is read, and a way out by a goto. -/
import Derived.Test.YtcjokjipgeaikaaGreatDoorTxSet
import Derived.ScopeJumps
namespace Go.Proofs.YtcjokjipgeaikaaGreatDoor
open Go.RowKit Go.Shelf Go.Proofs.Fld Go.Proofs.Tx Go.Proofs.Cats

attribute [local go_sem] bs_toList

/-- A label in a block of its own. -/
def Lb3 (w : World) (B : Nat) (x : Lab) : Prop := w.heap[B]? = some (.cells #[.int .i64 x.l, .int .u64 (x.c : Int), .int .i64 x.i] 25 (0, 0))
theorem Lb3.lt {w : World} {B : Nat} {x : Lab} (h : Lb3 w B x) : B < w.heap.size := (Array.getElem?_eq_some_iff.1 h).1
theorem Lb3.c0 {w : World} {B : Nat} {x : Lab} (h : Lb3 w B x) : w.cell? ⟨B, 0, none⟩ = some (.int .i64 x.l) := by rw [cell_of_row w B 0 _ _ _ h]; rfl
theorem Lb3.c1 {w : World} {B : Nat} {x : Lab} (h : Lb3 w B x) : w.cell? ⟨B, 1, none⟩ = some (.int .u64 (x.c : Int)) := by rw [cell_of_row w B 1 _ _ _ h]; rfl
theorem Lb3.c2 {w : World} {B : Nat} {x : Lab} (h : Lb3 w B x) : w.cell? ⟨B, 2, none⟩ = some (.int .i64 x.i) := by rw [cell_of_row w B 2 _ _ _ h]; rfl
theorem Lb3.fr {w : World} {B : Nat} {x : Lab} (h : Lb3 w B x) (o : Nat) : w.frozen? ⟨B, o, none⟩ = false := by
  have h' : w.heap[B]? = _ := h
  simp [World.frozen?, h']
theorem Lb3.block {w w' : World} {B : Nat} {x : Lab} (h : Lb3 w B x) (k : w'.heap[B]? = w.heap[B]?) : Lb3 w' B x := k.trans h
theorem setCell_block {w : World} {B o : Nat} {cs : Array Value} {t : TypeId} {fz : Nat × Nat} (h : w.heap[B]? = some (.cells cs t fz)) (v : Value) : (w.setCell ⟨B, o, none⟩ v).heap[B]? = some (.cells (cs.setIfInBounds o v) t fz) := by
  simp only [World.setCell, Array.getElem?_modify, if_true, h, Option.map_some]
  rfl
theorem Lb3.set0 {w : World} {B : Nat} {x : Lab} (h : Lb3 w B x) (v : Int) : Lb3 (w.setCell ⟨B, 0, none⟩ (.int .i64 v)) B ⟨v, x.c, x.i⟩ := setCell_block h _
theorem Lb3.set1 {w : World} {B : Nat} {x : Lab} (h : Lb3 w B x) (v : Nat) : Lb3 (w.setCell ⟨B, 1, none⟩ (.int .u64 (v : Int))) B ⟨x.l, v, x.i⟩ := setCell_block h _
theorem Lb3.set2 {w : World} {B : Nat} {x : Lab} (h : Lb3 w B x) (v : Int) : Lb3 (w.setCell ⟨B, 2, none⟩ (.int .i64 v)) B ⟨x.l, x.c, v⟩ := setCell_block h _
theorem Lb3.other {w : World} {B C o : Nat} {x : Lab} (h : Lb3 w B x) (hne : C ≠ B) (v : Value) : Lb3 (w.setCell ⟨C, o, none⟩ v) B x := h.block (Below.heap_setCell _ _ _ _ (by first | exact hne | exact hne.symm))

/-- Between two stages: the answer's room and the label so far lie behind what was there; of that the reader alone has turned. -/
structure Mid (w : World) (R : Nat) (x : Lab) (W : World) : Prop where
  z : Lb3 W w.heap.size Lab.zero
  a : Lb3 W (w.heap.size + 1) x
  only : w.grownBy W (some R)
theorem Mid.step {w : World} {R : Nat} {x : Lab} {W W' : World} (h : Mid w R x W) (hR : R < w.heap.size) (k : W.grownBy W' (some R)) : Mid w R x W' :=
  ⟨h.z.block (k.block _ h.z.lt (fun e => by injection e with e; omega)), h.a.block (k.block _ h.a.lt (fun e => by injection e with e; omega)), only_trans h.only k⟩
theorem Mid.new {w : World} {R : Nat} {x : Lab} {W W' : World} (h : Mid w R x W) (hR : R < w.heap.size) (k : Below W.heap.size W W') : Mid w R x W' := h.step hR (only_of R k)
theorem only_set {w W : World} {R B o : Nat} (h : w.grownBy W (some R)) (hB : w.heap.size ≤ B) (v : Value) : w.grownBy (W.setCell ⟨B, o, none⟩ v) (some R) :=
  only_below h ((Below.refl w.heap.size W).setCell (p := ⟨B, o, none⟩) hB v) (Nat.le_refl _)
theorem Mid.set0 {w : World} {R : Nat} {x : Lab} {W : World} (h : Mid w R x W) (v : Int) : Mid w R ⟨v, x.c, x.i⟩ (W.setCell ⟨w.heap.size + 1, 0, none⟩ (.int .i64 v)) := ⟨h.z.other (by omega) _, h.a.set0 v, only_set h.only (by omega) _⟩
theorem Mid.set1 {w : World} {R : Nat} {x : Lab} {W : World} (h : Mid w R x W) (v : Nat) : Mid w R ⟨x.l, v, x.i⟩ (W.setCell ⟨w.heap.size + 1, 1, none⟩ (.int .u64 (v : Int))) := ⟨h.z.other (by omega) _, h.a.set1 v, only_set h.only (by omega) _⟩
theorem Mid.set2 {w : World} {R : Nat} {x : Lab} {W : World} (h : Mid w R x W) (v : Int) : Mid w R ⟨x.l, x.c, v⟩ (W.setCell ⟨w.heap.size + 1, 2, none⟩ (.int .i64 v)) := ⟨h.z.other (by omega) _, h.a.set2 v, only_set h.only (by omega) _⟩
theorem rx_set {W : World} {R T B o : Nat} {l : List UInt8} (h : Rx W R T l) (hne : B ≠ R) (v : Value) : Rx (W.setCell ⟨B, o, none⟩ v) R T l := h.block (Below.heap_setCell _ _ _ _ (by first | exact hne | exact hne.symm))

theorem sign1 (R T g : Nat) (a : UInt8) (l : List UInt8) (hl : l.length ≤ T) (hT : T ≤ 4611686018427387904) (w : World) (h : Rx w R T l) (hg : Signs w g [a]) :
    Calls Tryz.prog 22 #[.pointer (some ⟨R, 0, none⟩), .slice (some ⟨g, 0, none⟩) 1 1] w (SignPost R T (sgn [a] l) w) := sign_any R T g 1 [a] l (by simp) (by simp) hl hT w h hg
theorem sign2 (R T g : Nat) (a b : UInt8) (l : List UInt8) (hl : l.length ≤ T) (hT : T ≤ 4611686018427387904) (w : World) (h : Rx w R T l) (hg : Signs w g [a, b]) :
    Calls Tryz.prog 22 #[.pointer (some ⟨R, 0, none⟩), .slice (some ⟨g, 0, none⟩) 2 2] w (SignPost R T (sgn [a, b] l) w) := sign_any R T g 2 [a, b] l (by simp) (by simp) hl hT w h hg

def LabelPost (R T : Nat) (x : Option Lab × List UInt8) (w : World) (e : Ending) (w' : World) : Prop := e = .returned (.tuple #[.agg #[.int .i64 (x.1.getD Lab.zero).l, .int .u64 ((x.1.getD Lab.zero).c : Int), .int .i64 (x.1.getD Lab.zero).i], errO T x]) ∧ Rx w' R T x.2 ∧ w.grownBy w' (some R)


section
variable {l r1 r2 r3 r4 r5 r6 : List UInt8} {b1 b5 : UInt8} {v2 v4 v6 : Nat}
theorem lab_no {r : List UInt8} (h : lab0 l = (none, r)) : lab l = (none, r) := then_no h
theorem no1 (h1 : sgn [76] l = (none, r1)) : lab l = (none, r1) := lab_no (then_no h1)
theorem no2 (h1 : sgn [76] l = (some b1, r1)) (h2 : num 0 15 r1 = (none, r2)) : lab l = (none, r2) := lab_no ((then_of h1).trans (then_no h2))
theorem no3 (h1 : sgn [76] l = (some b1, r1)) (h2 : num 0 15 r1 = (some v2, r2)) (h3 : sgn [123, 73] r2 = (none, r3)) : lab l = (none, r3) := lab_no ((then_of h1).trans ((then_of h2).trans (then_no h3)))
theorem no4 (h1 : sgn [76] l = (some b1, r1)) (h2 : num 0 15 r1 = (some v2, r2)) (h3 : sgn [123, 73] r2 = (some 123, r3)) (h4 : setGo 64 0 0 r3 = (none, r4)) : lab l = (none, r4) :=
  lab_no ((then_of h1).trans ((then_of h2).trans ((then_of h3).trans (then_no (then_no h4)))))
theorem no5 (h1 : sgn [76] l = (some b1, r1)) (h2 : num 0 15 r1 = (some v2, r2)) (h3 : sgn [123, 73] r2 = (some 123, r3)) (h4 : setGo 64 0 0 r3 = (some v4, r4)) (h5 : sgn [73] r4 = (none, r5)) : lab l = (none, r5) :=
  lab_no ((then_of h1).trans ((then_of h2).trans ((then_of h3).trans (then_no ((then_of h4).trans (then_no h5))))))
theorem setsA (h4 : setGo 64 0 0 r3 = (some v4, r4)) (h5 : sgn [73] r4 = (some b5, r5)) : setsR 123 r3 = (some v4, r5) := (then_of h4).trans (then_of h5)
theorem noA (h1 : sgn [76] l = (some b1, r1)) (h2 : num 0 15 r1 = (some v2, r2)) (h3 : sgn [123, 73] r2 = (some 123, r3)) (h4 : setGo 64 0 0 r3 = (some v4, r4)) (h5 : sgn [73] r4 = (some b5, r5)) (h6 : num 0 7 r5 = (none, r6)) : lab l = (none, r6) :=
  lab_no ((then_of h1).trans ((then_of h2).trans ((then_of h3).trans ((then_of (setsA h4 h5)).trans (then_no h6)))))
theorem tillA (h1 : sgn [76] l = (some b1, r1)) (h2 : num 0 15 r1 = (some v2, r2)) (h3 : sgn [123, 73] r2 = (some 123, r3)) (h4 : setGo 64 0 0 r3 = (some v4, r4)) (h5 : sgn [73] r4 = (some b5, r5)) (h6 : num 0 7 r5 = (some v6, r6)) : lab l = andThen endR (fun _ => ret ⟨(v2 : Int), v4, (v6 : Int)⟩) r6 :=
  then_of ((then_of h1).trans ((then_of h2).trans ((then_of h3).trans ((then_of (setsA h4 h5)).trans (then_of h6)))))
theorem yesA (h1 : sgn [76] l = (some b1, r1)) (h2 : num 0 15 r1 = (some v2, r2)) (h3 : sgn [123, 73] r2 = (some 123, r3)) (h4 : setGo 64 0 0 r3 = (some v4, r4)) (h5 : sgn [73] r4 = (some b5, r5)) (h6 : num 0 7 r5 = (some v6, [])) : lab l = (some ⟨(v2 : Int), v4, (v6 : Int)⟩, []) := tillA h1 h2 h3 h4 h5 h6
theorem noB (h1 : sgn [76] l = (some b1, r1)) (h2 : num 0 15 r1 = (some v2, r2)) (h3 : sgn [123, 73] r2 = (some 73, r3)) (h6 : num 0 7 r3 = (none, r6)) : lab l = (none, r6) :=
  lab_no ((then_of h1).trans ((then_of h2).trans ((then_of h3).trans ((then_of (R := setsR 73) (v := 0) (r := r3) rfl).trans (then_no h6)))))
theorem tillB (h1 : sgn [76] l = (some b1, r1)) (h2 : num 0 15 r1 = (some v2, r2)) (h3 : sgn [123, 73] r2 = (some 73, r3)) (h6 : num 0 7 r3 = (some v6, r6)) : lab l = andThen endR (fun _ => ret ⟨(v2 : Int), 0, (v6 : Int)⟩) r6 :=
  then_of ((then_of h1).trans ((then_of h2).trans ((then_of h3).trans ((then_of (R := setsR 73) (v := 0) (r := r3) rfl).trans (then_of h6)))))
theorem yesB (h1 : sgn [76] l = (some b1, r1)) (h2 : num 0 15 r1 = (some v2, r2)) (h3 : sgn [123, 73] r2 = (some 73, r3)) (h6 : num 0 7 r3 = (some v6, [])) : lab l = (some ⟨(v2 : Int), 0, (v6 : Int)⟩, []) := tillB h1 h2 h3 h6
theorem end_no {α : Type} {f : Unit → Rdr α} {q : UInt8} {rest : List UInt8} (h : r6 = q :: rest) : andThen endR f r6 = (none, r6) := by
  subst h
  rfl
end

/-- What holds at the way out. -/
def Out (w : World) (R T : Nat) (l : List UInt8) (a : Act) (W : World) : Prop := ∃ (rest : List UInt8) (u0 u1 u3 u4 u5 u7 u8 u9 u10 u11 u12 u13 u14 u15 u16 u17 u18 u19 u20 u21 u22 u23 u24 u25 u26 u27 u28 u29 u30 u31 u32 u33 u34 u35 u36 u37 u38 u39 u40 u41 u42 u43 u44 u45 u46 u47 u48 u49 u50 u51 u52 u53 u54 u55 u56 u57 u58 u59 u60 u61 u62 u63 : Value), a = { tmps := #[u0, u1, .pointer (some ⟨w.heap.size, 0, none⟩), u3, u4, u5, .iface 42 (.agg #[.int .i64 ((T - rest.length : Nat) : Int)]), u7, u8, u9, u10, u11, u12, u13, u14, u15, u16, u17, u18, u19, u20, u21, u22, u23, u24, u25, u26, u27, u28, u29, u30, u31, u32, u33, u34, u35, u36, u37, u38, u39, u40, u41, u42, u43, u44, u45, u46, u47, u48, u49, u50, u51, u52, u53, u54, u55, u56, u57, u58, u59, u60, u61, u62, u63], defers := [] } ∧ lab l = (none, rest) ∧ Rx W R T rest ∧ Lb3 W w.heap.size Lab.zero ∧ w.grownBy W (some R)

set_option maxRecDepth 100000 in
set_option maxHeartbeats 4000000 in
theorem label_any (R T : Nat) (ga : Addr) (l : List UInt8) (hl : l.length ≤ T) (hT : T ≤ 4611686018427387904) (hgR : 1 ≠ R) (w : World) (h : Rx w R T l) (hg : Ct.Glob ga w) :
    Calls Tryz.prog 12 #[.pointer (some ⟨R, 0, none⟩)] w (LabelPost R T (lab l) w) := by
  have HG := Lib.hid hg
  have H := Lib.hid h
  have hR0 := h.lt
  clear hg h
  go_enter Tryz.func12, Tryz.ntmps12
  go_wp2
  refine wp_scope_jumps 0 (Out w R T l) (fun _ _ => 0) rfl ?first ?pass
  case pass =>
    rintro a W ⟨rest, u0, u1, u3, u4, u5, u7, u8, u9, u10, u11, u12, u13, u14, u15, u16, u17, u18, u19, u20, u21, u22, u23, u24, u25, u26, u27, u28, u29, u30, u31, u32, u33, u34, u35, u36, u37, u38, u39, u40, u41, u42, u43, u44, u45, u46, u47, u48, u49, u50, u51, u52, u53, u54, u55, u56, u57, u58, u59, u60, u61, u62, u63, rfl, he, hrx, hz, ho⟩
    have c0 := hz.c0
    have c1 := hz.c1
    have c2 := hz.c2
    have f0 := hz.fr 0
    have f1 := hz.fr 1
    have f2 := hz.fr 2
    have HE := Lib.hid he
    have HRX := Lib.hid hrx
    have HO := Lib.hid ho
    have HZ := Lib.hid hz
    clear he hrx ho hz
    go_wp2
    have hW : w.grownBy (((W.setCell ⟨w.heap.size, 0, none⟩ (.int .i64 0)).setCell ⟨w.heap.size, 1, none⟩ (.int .u64 0)).setCell ⟨w.heap.size, 2, none⟩ (.int .i64 0)) (some R) := only_set (only_set (only_set HO.out (Nat.le_refl _) _) (Nat.le_refl _) _) (Nat.le_refl _) _
    have hz2 : Lb3 (((W.setCell ⟨w.heap.size, 0, none⟩ (.int .i64 0)).setCell ⟨w.heap.size, 1, none⟩ (.int .u64 0)).setCell ⟨w.heap.size, 2, none⟩ (.int .i64 0)) w.heap.size Lab.zero := ((HZ.out.set0 0).set1 0).set2 0
    have hr2 : Rx (((W.setCell ⟨w.heap.size, 0, none⟩ (.int .i64 0)).setCell ⟨w.heap.size, 1, none⟩ (.int .u64 0)).setCell ⟨w.heap.size, 2, none⟩ (.int .i64 0)) R T rest := rx_set (rx_set (rx_set HRX.out (by omega) _) (by omega) _) (by omega) _
    generalize ((W.setCell ⟨w.heap.size, 0, none⟩ (.int .i64 0)).setCell ⟨w.heap.size, 1, none⟩ (.int .u64 0)).setCell ⟨w.heap.size, 2, none⟩ (.int .i64 0) = V at *
    have k0 := hz2.c0
    have k1 := hz2.c1
    have k2 := hz2.c2
    refine bodyPost_ret (v := .tuple #[.agg #[.int .i64 Lab.zero.l, .int .u64 (Lab.zero.c : Int), .int .i64 Lab.zero.i], faultV T rest]) (by simp [results, Tryz.results12, go_sem, k0, k1, k2, faultV]) rfl ?_
    unfold LabelPost
    rw [HE.out]
    exact ⟨rfl, hr2, hW⟩
  case first =>
    obtain ⟨W0, hW0⟩ : ∃ W0, (w.alloc (.cells #[.int .i64 0, .int .u64 0, .int .i64 0] 25)).alloc (.cells #[.int .i64 0, .int .u64 0, .int .i64 0] 25) = W0 := ⟨_, rfl⟩
    have hB0 : Below w.heap.size w W0 := by
      rw [← hW0]
      exact ((Below.refl _ w).alloc (Nat.le_refl _) _).alloc (by simp) _
    have HM0 := Lib.hid (show Mid w R Lab.zero W0 by
      refine ⟨?_, ?_, only_of R hB0⟩
      · rw [← hW0]
        exact (Below.heap_alloc _ _ _ (by simp)).trans (World.alloc_heap_new w _)
      · rw [← hW0]
        have := World.alloc_heap_new (w.alloc (.cells #[.int .i64 0, .int .u64 0, .int .i64 0] 25)) (.cells #[.int .i64 0, .int .u64 0, .int .i64 0] 25)
        rw [World.size_alloc] at this
        exact this)
    have HR0 := Lib.hid (H.out.more hB0)
    clear hB0
    have HC1 := Lib.hid (sign1 R T W0.heap.size 76 l hl hT (W0.alloc (.cells #[.string { data := #[76] }] 9)) (HR0.out.more (Below.new _ _)) (signs_one W0 76))
    have hs1 := good_len (good_sgn [76]) l
    obtain ⟨⟨o1, r1⟩, hx1⟩ : ∃ x, sgn [76] l = x := ⟨_, rfl⟩
    rw [hx1] at hs1 HC1
    have HX1 := Lib.hid hx1
    replace hs1 : r1.length ≤ l.length := hs1
    clear hx1
    go_wp2_with fail
    refine HC1.out.mono ?_
    rintro e w1 ⟨he, hr, ho⟩
    have HR1 := Lib.hid (show Rx w1 R T r1 from hr)
    have HM1 := Lib.hid ((HM0.out.new hR0 (Below.new _ _)).step hR0 ho)
    clear hr ho HC1
    cases o1 with
    | none =>
      replace he : e = .returned (.tuple #[.string (bs []), .iface 42 (.agg #[.int .i64 ((T - r1.length : Nat) : Int)])]) := he
      subst he
      go_wp2
      apply wp_goto
      exact ⟨rfl, r1, _, _, _, _, _, _, _, _, _, _, _, _, _, _, _, _, _, _, _, _, _, _, _, _, _, _, _, _, _, _, _, _, _, _, _, _, _, _, _, _, _, _, _, _, _, _, _, _, _, _, _, _, _, _, _, _, _, _, _, _, _, _, rfl, (no1 HX1.out), HR1.out, HM1.out.z, HM1.out.only⟩
    | some b1 =>
      replace he : e = .returned (.tuple #[.string (bs [b1]), .nilIface]) := he
      subst he
      obtain ⟨_, hb1⟩ := sgn_some HX1.out
      clear hW0
      have HC2 := Lib.hid (number_any R T 0 15 (by omega) (by omega) r1 (by omega) hT w1 HR1.out)
      have hs2 := good_len (good_num 0 15) r1
      obtain ⟨⟨o2, r2⟩, hx2⟩ : ∃ x, num 0 15 r1 = x := ⟨_, rfl⟩
      rw [hx2] at hs2 HC2
      have HX2 := Lib.hid hx2
      replace hs2 : r2.length ≤ r1.length := hs2
      clear hx2
      go_wp2_with fail
      refine HC2.out.mono ?_
      rintro e w2 ⟨he, hr, ho⟩
      have HR2 := Lib.hid (show Rx w2 R T r2 from hr)
      have HM2 := Lib.hid (HM1.out.step hR0 ho)
      clear hr ho HC2
      have ca2 := HM2.out.a.c0
      have fa2 := HM2.out.a.fr 0
      cases o2 with
      | none =>
        replace he : e = .returned (.tuple #[.int .i64 0, .iface 42 (.agg #[.int .i64 ((T - r2.length : Nat) : Int)])]) := he
        subst he
        have HN2 := Lib.hid (HM2.out.set0 0)
        have HQ2 := Lib.hid (rx_set (o := 0) HR2.out (show w.heap.size + 1 ≠ R by omega) (.int .i64 0))
        obtain ⟨W2, hW2⟩ : ∃ W, w2.setCell ⟨w.heap.size + 1, 0, none⟩ (.int .i64 0) = W := ⟨_, rfl⟩
        replace HN2 := Lib.hid (Eq.mp (congrArg (fun W => Mid w R _ W) hW2) HN2.out)
        replace HQ2 := Lib.hid (Eq.mp (congrArg (fun W => Rx W R T r2) hW2) HQ2.out)
        go_wp2
        apply wp_goto
        exact ⟨rfl, r2, _, _, _, _, _, _, _, _, _, _, _, _, _, _, _, _, _, _, _, _, _, _, _, _, _, _, _, _, _, _, _, _, _, _, _, _, _, _, _, _, _, _, _, _, _, _, _, _, _, _, _, _, _, _, _, _, _, _, _, _, _, _, rfl, (no2 HX1.out HX2.out), HQ2.out, HN2.out.z, HN2.out.only⟩
      | some v2 =>
        replace he : e = .returned (.tuple #[.int .i64 (v2 : Int), .nilIface]) := he
        subst he
        have HN2 := Lib.hid (HM2.out.set0 (v2 : Int))
        have HQ2 := Lib.hid (rx_set (o := 0) HR2.out (show w.heap.size + 1 ≠ R by omega) (.int .i64 (v2 : Int)))
        obtain ⟨W2, hW2⟩ : ∃ W, w2.setCell ⟨w.heap.size + 1, 0, none⟩ (.int .i64 (v2 : Int)) = W := ⟨_, rfl⟩
        replace HN2 := Lib.hid (Eq.mp (congrArg (fun W => Mid w R _ W) hW2) HN2.out)
        replace HQ2 := Lib.hid (Eq.mp (congrArg (fun W => Rx W R T r2) hW2) HQ2.out)
        have HC3 := Lib.hid (sign2 R T W2.heap.size 123 73 r2 (by omega) hT (W2.alloc (.cells #[.string { data := #[123] }, .string { data := #[73] }] 9)) (HQ2.out.more (Below.new _ _)) (signs_two W2 123 73))
        have hs3 := good_len (good_sgn [123, 73]) r2
        obtain ⟨⟨o3, r3⟩, hx3⟩ : ∃ x, sgn [123, 73] r2 = x := ⟨_, rfl⟩
        rw [hx3] at hs3 HC3
        have HX3 := Lib.hid hx3
        replace hs3 : r3.length ≤ r2.length := hs3
        clear hx3
        go_wp2_with fail
        refine HC3.out.mono ?_
        rintro e w3 ⟨he, hr, ho⟩
        have HR3 := Lib.hid (show Rx w3 R T r3 from hr)
        have HM3 := Lib.hid ((HN2.out.new hR0 (Below.new _ _)).step hR0 ho)
        clear hr ho HC3
        cases o3 with
        | none =>
          replace he : e = .returned (.tuple #[.string (bs []), .iface 42 (.agg #[.int .i64 ((T - r3.length : Nat) : Int)])]) := he
          subst he
          go_wp2
          apply wp_goto
          exact ⟨rfl, r3, _, _, _, _, _, _, _, _, _, _, _, _, _, _, _, _, _, _, _, _, _, _, _, _, _, _, _, _, _, _, _, _, _, _, _, _, _, _, _, _, _, _, _, _, _, _, _, _, _, _, _, _, _, _, _, _, _, _, _, _, _, _, rfl, (no3 HX1.out HX2.out HX3.out), HR3.out, HM3.out.z, HM3.out.only⟩
        | some b3 =>
          replace he : e = .returned (.tuple #[.string (bs [b3]), .nilIface]) := he
          subst he
          clear hW2
          by_cases hb3 : b3 = 123
          · subst hb3
            have HC4 := Lib.hid (set_any R T ga r3 (by omega) hT hgR w3 HR3.out (glob_only HG.out hgR HM3.out.only))
            have hs4 := good_len (good_set 64 0 0) r3
            obtain ⟨⟨o4, r4⟩, hx4⟩ : ∃ x, setGo 64 0 0 r3 = x := ⟨_, rfl⟩
            rw [hx4] at hs4 HC4
            have HX4 := Lib.hid hx4
            replace hs4 : r4.length ≤ r3.length := hs4
            clear hx4
            go_wp2_with fail
            refine HC4.out.mono ?_
            rintro e w4 ⟨he, hr, ho⟩
            have HR4 := Lib.hid (show Rx w4 R T r4 from hr)
            have HM4 := Lib.hid (HM3.out.step hR0 ho)
            clear hr ho HC4
            have ca4 := HM4.out.a.c1
            have fa4 := HM4.out.a.fr 1
            cases o4 with
            | none =>
              replace he : e = .returned (.tuple #[.int .u64 0, .iface 42 (.agg #[.int .i64 ((T - r4.length : Nat) : Int)])]) := he
              subst he
              have HN4 := Lib.hid (HM4.out.set1 0)
              have HQ4 := Lib.hid (rx_set (o := 1) HR4.out (show w.heap.size + 1 ≠ R by omega) (.int .u64 0))
              obtain ⟨W4, hW4⟩ : ∃ W, w4.setCell ⟨w.heap.size + 1, 1, none⟩ (.int .u64 0) = W := ⟨_, rfl⟩
              replace HN4 := Lib.hid (Eq.mp (congrArg (fun W => Mid w R _ W) hW4) HN4.out)
              replace HQ4 := Lib.hid (Eq.mp (congrArg (fun W => Rx W R T r4) hW4) HQ4.out)
              go_wp2
              apply wp_goto
              exact ⟨rfl, r4, _, _, _, _, _, _, _, _, _, _, _, _, _, _, _, _, _, _, _, _, _, _, _, _, _, _, _, _, _, _, _, _, _, _, _, _, _, _, _, _, _, _, _, _, _, _, _, _, _, _, _, _, _, _, _, _, _, _, _, _, _, _, rfl, (no4 HX1.out HX2.out HX3.out HX4.out), HQ4.out, HN4.out.z, HN4.out.only⟩
            | some v4 =>
              replace he : e = .returned (.tuple #[.int .u64 (v4 : Int), .nilIface]) := he
              subst he
              have HN4 := Lib.hid (HM4.out.set1 v4)
              have HQ4 := Lib.hid (rx_set (o := 1) HR4.out (show w.heap.size + 1 ≠ R by omega) (.int .u64 (v4 : Int)))
              obtain ⟨W4, hW4⟩ : ∃ W, w4.setCell ⟨w.heap.size + 1, 1, none⟩ (.int .u64 (v4 : Int)) = W := ⟨_, rfl⟩
              replace HN4 := Lib.hid (Eq.mp (congrArg (fun W => Mid w R _ W) hW4) HN4.out)
              replace HQ4 := Lib.hid (Eq.mp (congrArg (fun W => Rx W R T r4) hW4) HQ4.out)
              have HC5 := Lib.hid (sign1 R T W4.heap.size 73 r4 (by omega) hT (W4.alloc (.cells #[.string { data := #[73] }] 9)) (HQ4.out.more (Below.new _ _)) (signs_one W4 73))
              have hs5 := good_len (good_sgn [73]) r4
              obtain ⟨⟨o5, r5⟩, hx5⟩ : ∃ x, sgn [73] r4 = x := ⟨_, rfl⟩
              rw [hx5] at hs5 HC5
              have HX5 := Lib.hid hx5
              replace hs5 : r5.length ≤ r4.length := hs5
              clear hx5
              go_wp2_with fail
              refine HC5.out.mono ?_
              rintro e w5 ⟨he, hr, ho⟩
              have HR5 := Lib.hid (show Rx w5 R T r5 from hr)
              have HM5 := Lib.hid ((HN4.out.new hR0 (Below.new _ _)).step hR0 ho)
              clear hr ho HC5
              cases o5 with
              | none =>
                replace he : e = .returned (.tuple #[.string (bs []), .iface 42 (.agg #[.int .i64 ((T - r5.length : Nat) : Int)])]) := he
                subst he
                go_wp2
                apply wp_goto
                exact ⟨rfl, r5, _, _, _, _, _, _, _, _, _, _, _, _, _, _, _, _, _, _, _, _, _, _, _, _, _, _, _, _, _, _, _, _, _, _, _, _, _, _, _, _, _, _, _, _, _, _, _, _, _, _, _, _, _, _, _, _, _, _, _, _, _, _, rfl, (no5 HX1.out HX2.out HX3.out HX4.out HX5.out), HR5.out, HM5.out.z, HM5.out.only⟩
              | some b5 =>
                replace he : e = .returned (.tuple #[.string (bs [b5]), .nilIface]) := he
                subst he
                clear hW4
                have HC6 := Lib.hid (number_any R T 0 7 (by omega) (by omega) r5 (by omega) hT w5 HR5.out)
                have hs6 := good_len (good_num 0 7) r5
                obtain ⟨⟨o6, r6⟩, hx6⟩ : ∃ x, num 0 7 r5 = x := ⟨_, rfl⟩
                rw [hx6] at hs6 HC6
                have HX6 := Lib.hid hx6
                replace hs6 : r6.length ≤ r5.length := hs6
                clear hx6
                go_wp2_with fail
                refine HC6.out.mono ?_
                rintro e w6 ⟨he, hr, ho⟩
                have HR6 := Lib.hid (show Rx w6 R T r6 from hr)
                have HM6 := Lib.hid (HM5.out.step hR0 ho)
                clear hr ho HC6
                have ca6 := HM6.out.a.c2
                have fa6 := HM6.out.a.fr 2
                cases o6 with
                | none =>
                  replace he : e = .returned (.tuple #[.int .i64 0, .iface 42 (.agg #[.int .i64 ((T - r6.length : Nat) : Int)])]) := he
                  subst he
                  have HN6 := Lib.hid (HM6.out.set2 0)
                  have HQ6 := Lib.hid (rx_set (o := 2) HR6.out (show w.heap.size + 1 ≠ R by omega) (.int .i64 0))
                  obtain ⟨W6, hW6⟩ : ∃ W, w6.setCell ⟨w.heap.size + 1, 2, none⟩ (.int .i64 0) = W := ⟨_, rfl⟩
                  replace HN6 := Lib.hid (Eq.mp (congrArg (fun W => Mid w R _ W) hW6) HN6.out)
                  replace HQ6 := Lib.hid (Eq.mp (congrArg (fun W => Rx W R T r6) hW6) HQ6.out)
                  go_wp2
                  apply wp_goto
                  exact ⟨rfl, r6, _, _, _, _, _, _, _, _, _, _, _, _, _, _, _, _, _, _, _, _, _, _, _, _, _, _, _, _, _, _, _, _, _, _, _, _, _, _, _, _, _, _, _, _, _, _, _, _, _, _, _, _, _, _, _, _, _, _, _, _, _, _, rfl, (noA HX1.out HX2.out HX3.out HX4.out HX5.out HX6.out), HQ6.out, HN6.out.z, HN6.out.only⟩
                | some v6 =>
                  replace he : e = .returned (.tuple #[.int .i64 (v6 : Int), .nilIface]) := he
                  subst he
                  have HN6 := Lib.hid (HM6.out.set2 (v6 : Int))
                  have HQ6 := Lib.hid (rx_set (o := 2) HR6.out (show w.heap.size + 1 ≠ R by omega) (.int .i64 (v6 : Int)))
                  obtain ⟨W6, hW6⟩ : ∃ W, w6.setCell ⟨w.heap.size + 1, 2, none⟩ (.int .i64 (v6 : Int)) = W := ⟨_, rfl⟩
                  replace HN6 := Lib.hid (Eq.mp (congrArg (fun W => Mid w R _ W) hW6) HN6.out)
                  replace HQ6 := Lib.hid (Eq.mp (congrArg (fun W => Rx W R T r6) hW6) HQ6.out)
                  have HE6 := Lib.hid (end_any R T r6 W6 HQ6.out)
                  have a0 := HN6.out.a.c0
                  have a1 := HN6.out.a.c1
                  have a2 := HN6.out.a.c2
                  go_wp2_with fail
                  refine HE6.out.mono ?_
                  rintro e w9 ⟨he, rfl⟩
                  cases hr : r6 with
                  | nil =>
                    subst hr
                    replace he : e = .returned .nilIface := he
                    subst he
                    have z0 := HN6.out.z.c0
                    have z1 := HN6.out.z.c1
                    have z2 := HN6.out.z.c2
                    have y0 := HN6.out.z.fr 0
                    have y1 := HN6.out.z.fr 1
                    have y2 := HN6.out.z.fr 2
                    go_wp2
                    have hz2 : Lb3 (((W6.setCell ⟨w.heap.size, 0, none⟩ (.int .i64 (v2 : Int))).setCell ⟨w.heap.size, 1, none⟩ (.int .u64 (v4 : Int))).setCell ⟨w.heap.size, 2, none⟩ (.int .i64 (v6 : Int))) w.heap.size ⟨(v2 : Int), v4, (v6 : Int)⟩ := ((HN6.out.z.set0 (v2 : Int)).set1 v4).set2 (v6 : Int)
                    have hV : w.grownBy (((W6.setCell ⟨w.heap.size, 0, none⟩ (.int .i64 (v2 : Int))).setCell ⟨w.heap.size, 1, none⟩ (.int .u64 (v4 : Int))).setCell ⟨w.heap.size, 2, none⟩ (.int .i64 (v6 : Int))) (some R) := only_set (only_set (only_set HN6.out.only (Nat.le_refl _) _) (Nat.le_refl _) _) (Nat.le_refl _) _
                    have hr2 : Rx (((W6.setCell ⟨w.heap.size, 0, none⟩ (.int .i64 (v2 : Int))).setCell ⟨w.heap.size, 1, none⟩ (.int .u64 (v4 : Int))).setCell ⟨w.heap.size, 2, none⟩ (.int .i64 (v6 : Int))) R T [] := rx_set (rx_set (rx_set HQ6.out (by omega) _) (by omega) _) (by omega) _
                    generalize ((W6.setCell ⟨w.heap.size, 0, none⟩ (.int .i64 (v2 : Int))).setCell ⟨w.heap.size, 1, none⟩ (.int .u64 (v4 : Int))).setCell ⟨w.heap.size, 2, none⟩ (.int .i64 (v6 : Int)) = V at *
                    have k0 := hz2.c0
                    have k1 := hz2.c1
                    have k2 := hz2.c2
                    refine bodyPost_ret (v := .tuple #[.agg #[.int .i64 (v2 : Int), .int .u64 (v4 : Int), .int .i64 (v6 : Int)], .nilIface]) (by simp [results, Tryz.results12, go_sem, k0, k1, k2]) rfl ?_
                    unfold LabelPost
                    rw [yesA HX1.out HX2.out HX3.out HX4.out HX5.out HX6.out]
                    exact ⟨rfl, hr2, hV⟩
                  | cons q rest =>
                    have he2 : e = .returned (.iface 42 (.agg #[.int .i64 ((T - r6.length : Nat) : Int)])) := by rw [he, hr]; rfl
                    clear he
                    subst he2
                    have HF := Lib.hid hr
                    clear hr
                    go_wp2
                    apply wp_goto
                    exact ⟨rfl, r6, _, _, _, _, _, _, _, _, _, _, _, _, _, _, _, _, _, _, _, _, _, _, _, _, _, _, _, _, _, _, _, _, _, _, _, _, _, _, _, _, _, _, _, _, _, _, _, _, _, _, _, _, _, _, _, _, _, _, _, _, _, _, rfl, (by rw [tillA HX1.out HX2.out HX3.out HX4.out HX5.out HX6.out]; exact end_no HF.out), HQ6.out, HN6.out.z, HN6.out.only⟩
          · have hb73 : b3 = 73 := by
              have := (sgn_some HX3.out).2
              simp at this
              rcases this with q | q
              · exact absurd q hb3
              · exact q
            subst hb73
            clear hb3
            have HC6 := Lib.hid (number_any R T 0 7 (by omega) (by omega) r3 (by omega) hT w3 HR3.out)
            have hs6 := good_len (good_num 0 7) r3
            obtain ⟨⟨o6, r6⟩, hx6⟩ : ∃ x, num 0 7 r3 = x := ⟨_, rfl⟩
            rw [hx6] at hs6 HC6
            have HX6 := Lib.hid hx6
            replace hs6 : r6.length ≤ r3.length := hs6
            clear hx6
            go_wp2_with fail
            refine HC6.out.mono ?_
            rintro e w6 ⟨he, hr, ho⟩
            have HR6 := Lib.hid (show Rx w6 R T r6 from hr)
            have HM6 := Lib.hid (HM3.out.step hR0 ho)
            clear hr ho HC6
            have ca6 := HM6.out.a.c2
            have fa6 := HM6.out.a.fr 2
            cases o6 with
            | none =>
              replace he : e = .returned (.tuple #[.int .i64 0, .iface 42 (.agg #[.int .i64 ((T - r6.length : Nat) : Int)])]) := he
              subst he
              have HN6 := Lib.hid (HM6.out.set2 0)
              have HQ6 := Lib.hid (rx_set (o := 2) HR6.out (show w.heap.size + 1 ≠ R by omega) (.int .i64 0))
              obtain ⟨W6, hW6⟩ : ∃ W, w6.setCell ⟨w.heap.size + 1, 2, none⟩ (.int .i64 0) = W := ⟨_, rfl⟩
              replace HN6 := Lib.hid (Eq.mp (congrArg (fun W => Mid w R _ W) hW6) HN6.out)
              replace HQ6 := Lib.hid (Eq.mp (congrArg (fun W => Rx W R T r6) hW6) HQ6.out)
              go_wp2
              apply wp_goto
              exact ⟨rfl, r6, _, _, _, _, _, _, _, _, _, _, _, _, _, _, _, _, _, _, _, _, _, _, _, _, _, _, _, _, _, _, _, _, _, _, _, _, _, _, _, _, _, _, _, _, _, _, _, _, _, _, _, _, _, _, _, _, _, _, _, _, _, _, rfl, (noB HX1.out HX2.out HX3.out HX6.out), HQ6.out, HN6.out.z, HN6.out.only⟩
            | some v6 =>
              replace he : e = .returned (.tuple #[.int .i64 (v6 : Int), .nilIface]) := he
              subst he
              have HN6 := Lib.hid (HM6.out.set2 (v6 : Int))
              have HQ6 := Lib.hid (rx_set (o := 2) HR6.out (show w.heap.size + 1 ≠ R by omega) (.int .i64 (v6 : Int)))
              obtain ⟨W6, hW6⟩ : ∃ W, w6.setCell ⟨w.heap.size + 1, 2, none⟩ (.int .i64 (v6 : Int)) = W := ⟨_, rfl⟩
              replace HN6 := Lib.hid (Eq.mp (congrArg (fun W => Mid w R _ W) hW6) HN6.out)
              replace HQ6 := Lib.hid (Eq.mp (congrArg (fun W => Rx W R T r6) hW6) HQ6.out)
              have HE6 := Lib.hid (end_any R T r6 W6 HQ6.out)
              have a0 := HN6.out.a.c0
              have a1 := HN6.out.a.c1
              have a2 := HN6.out.a.c2
              go_wp2_with fail
              refine HE6.out.mono ?_
              rintro e w9 ⟨he, rfl⟩
              cases hr : r6 with
              | nil =>
                subst hr
                replace he : e = .returned .nilIface := he
                subst he
                have z0 := HN6.out.z.c0
                have z1 := HN6.out.z.c1
                have z2 := HN6.out.z.c2
                have y0 := HN6.out.z.fr 0
                have y1 := HN6.out.z.fr 1
                have y2 := HN6.out.z.fr 2
                go_wp2
                have hz2 : Lb3 (((W6.setCell ⟨w.heap.size, 0, none⟩ (.int .i64 (v2 : Int))).setCell ⟨w.heap.size, 1, none⟩ (.int .u64 (Lab.zero.c : Int))).setCell ⟨w.heap.size, 2, none⟩ (.int .i64 (v6 : Int))) w.heap.size ⟨(v2 : Int), Lab.zero.c, (v6 : Int)⟩ := ((HN6.out.z.set0 (v2 : Int)).set1 Lab.zero.c).set2 (v6 : Int)
                have hV : w.grownBy (((W6.setCell ⟨w.heap.size, 0, none⟩ (.int .i64 (v2 : Int))).setCell ⟨w.heap.size, 1, none⟩ (.int .u64 (Lab.zero.c : Int))).setCell ⟨w.heap.size, 2, none⟩ (.int .i64 (v6 : Int))) (some R) := only_set (only_set (only_set HN6.out.only (Nat.le_refl _) _) (Nat.le_refl _) _) (Nat.le_refl _) _
                have hr2 : Rx (((W6.setCell ⟨w.heap.size, 0, none⟩ (.int .i64 (v2 : Int))).setCell ⟨w.heap.size, 1, none⟩ (.int .u64 (Lab.zero.c : Int))).setCell ⟨w.heap.size, 2, none⟩ (.int .i64 (v6 : Int))) R T [] := rx_set (rx_set (rx_set HQ6.out (by omega) _) (by omega) _) (by omega) _
                generalize ((W6.setCell ⟨w.heap.size, 0, none⟩ (.int .i64 (v2 : Int))).setCell ⟨w.heap.size, 1, none⟩ (.int .u64 (Lab.zero.c : Int))).setCell ⟨w.heap.size, 2, none⟩ (.int .i64 (v6 : Int)) = V at *
                have k0 := hz2.c0
                have k1 := hz2.c1
                have k2 := hz2.c2
                refine bodyPost_ret (v := .tuple #[.agg #[.int .i64 (v2 : Int), .int .u64 (Lab.zero.c : Int), .int .i64 (v6 : Int)], .nilIface]) (by simp [results, Tryz.results12, go_sem, k0, k1, k2]) rfl ?_
                unfold LabelPost
                rw [yesB HX1.out HX2.out HX3.out HX6.out]
                exact ⟨rfl, hr2, hV⟩
              | cons q rest =>
                have he2 : e = .returned (.iface 42 (.agg #[.int .i64 ((T - r6.length : Nat) : Int)])) := by rw [he, hr]; rfl
                clear he
                subst he2
                have HF := Lib.hid hr
                clear hr
                go_wp2
                apply wp_goto
                exact ⟨rfl, r6, _, _, _, _, _, _, _, _, _, _, _, _, _, _, _, _, _, _, _, _, _, _, _, _, _, _, _, _, _, _, _, _, _, _, _, _, _, _, _, _, _, _, _, _, _, _, _, _, _, _, _, _, _, _, _, _, _, _, _, _, _, _, rfl, (by rw [tillB HX1.out HX2.out HX3.out HX6.out]; exact end_no HF.out), HQ6.out, HN6.out.z, HN6.out.only⟩

end Go.Proofs.YtcjokjipgeaikaaGreatDoor

