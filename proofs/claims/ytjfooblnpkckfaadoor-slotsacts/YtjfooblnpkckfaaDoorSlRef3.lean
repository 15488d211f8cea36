/- The document's Take, Live, Give. -/
import Derived.Test.YtjfooblnpkckfaaDoorSlRef2
namespace Go.Proofs.YtjfooblnpkckfaaDoor
open Go.RowKit Go.Proofs.Slt Go.Shelf

/-- What the document's Take tells and leaves. -/
def RTakePost (n0 : Nat) (q : Pr) (st : St) (w : World) (e : Ending) (w' : World) : Prop := e = .returned (.tuple #[ihv (toI (takeH st)), .int .i64 (takeE st)]) ∧ Rf n0 w' q (takeS st) ∧ q.Fr w w'
theorem Rf.fr {n0 : Nat} {W W' : World} {q : Pr} {st : St} (h : Rf n0 W q st) {a b c : Nat} (hf : Fr a b c W W') (h0 : q.R ≠ a ∧ q.R ≠ b ∧ q.R ≠ c) (h1 : q.G ≠ a ∧ q.G ≠ b ∧ q.G ≠ c) (h2 : q.F ≠ a ∧ q.F ≠ b ∧ q.F ≠ c) : Rf n0 W' q st :=
  h.kept (hf.block _ h.lt.1 h0.1 h0.2.1 h0.2.2) (hf.block _ h.lt.2.1 h1.1 h1.2.1 h1.2.2) (hf.block _ h.lt.2.2 h2.1 h2.2.1 h2.2.2)
theorem rtake_end {n0 : Nat} {q : Pr} {st : St} {w W2 : World} {o : Obj} (hr : Rf n0 W2 q st) (hf : q.Fr (w.alloc o) W2) (hl : q.R < w.heap.size ∧ q.G < w.heap.size ∧ q.F < w.heap.size) (u0 u1 : Value) : Rf n0 (set2 W2 w.heap.size u0 u1) q st ∧ q.Fr w (set2 W2 w.heap.size u0 u1) := by
  have h2 := set2_fr w.heap.size w.heap.size W2 w.heap.size u0 u1
  have h1 : Fr q.R q.G q.F w W2 := Fr.trans (Fr.of_below (Below.new w o)) hf
  refine ⟨hr.fr h2 ?_ ?_ ?_, ⟨h2.os.trans h1.os, h2.tape.trans h1.tape, h2.output.trans h1.output, Nat.le_trans h1.size h2.size, fun k hk a b c => (h2.block k (Nat.lt_of_lt_of_le hk h1.size) (by omega) (by omega) (by omega)).trans (h1.block k hk a b c)⟩⟩
  · have := hl.1; refine ⟨?_, ?_, ?_⟩ <;> omega
  · have := hl.2.1; refine ⟨?_, ?_, ?_⟩ <;> omega
  · have := hl.2.2; refine ⟨?_, ?_, ?_⟩ <;> omega

theorem find_at {st : St} {k g : Nat} (hk : st[k]? = some (g, false)) (hg : g < 1000) (hall : ∀ j, j < k → ∀ x, st[j]? = some x → freeB x = false) : st.findIdx? freeB = some k := by
  obtain ⟨hl, e⟩ := List.getElem?_eq_some_iff.1 hk
  rw [List.findIdx?_eq_some_iff_getElem]
  refine ⟨hl, by rw [e]; simp [freeB, hg], fun j hj => ?_⟩
  have := hall j hj _ (List.getElem?_eq_getElem (by omega))
  simp [this]
theorem find_no {st : St} (hall : ∀ j, j < st.length → ∀ x, st[j]? = some x → freeB x = false) : st.findIdx? freeB = none := by
  rw [List.findIdx?_eq_none_iff]
  intro x hx
  obtain ⟨j, hj⟩ := List.getElem?_of_mem hx
  exact hall j (List.getElem?_eq_some_iff.1 hj).1 x hj

set_option maxRecDepth 100000 in
set_option maxHeartbeats 4000000 in
theorem RTake_any (n0 : Nat) (q : Pr) (st : St) (w : World) (h : Rf n0 w q st) (hgen : ∀ (j g : Nat) (b : Bool), st[j]? = some (g, b) → g ≤ 1000) : Calls Tryd.prog 13 #[.pointer (some ⟨q.R, 0, none⟩)] w (RTakePost n0 q st w) := by
  have hb := Below.new w (.cells #[.int .i64 0, .int .i64 0] 32)
  obtain ⟨r0, r1, r2, r3⟩ := new_cells2 w (.int .i64 0) (.int .i64 0) 32
  have HR := Lib.hid (And.intro r0 (And.intro r1 (And.intro r2 r3)))
  have HL := Lib.hid h.lt
  have HH := Lib.hid (h.more hb)
  have HG := Lib.hid hgen
  have h64 := h.few
  obtain ⟨n, hn⟩ : ∃ n, st.length = n := ⟨_, rfl⟩
  rw [hn] at h64
  have c0 := HH.out.c0
  have c1 := HH.out.c1
  rw [hn] at c0 c1
  have HN := Lib.hid hn
  obtain ⟨W, hW⟩ : ∃ W, w.alloc (.cells #[.int .i64 0, .int .i64 0] 32) = W := ⟨_, rfl⟩
  rw [hW] at HH HR c0 c1
  have HB : Hid (Below w.heap.size w W) := by show Below w.heap.size w W; rw [← hW]; exact hb
  have HWW := Lib.hid hW
  clear h hb r0 r1 r2 r3 hgen hn hW
  go_enter Tryd.func13, Tryd.ntmps13
  go_wp2_with fail
  rw [HWW.out]
  go_loopw [4] (fun v wr => ∃ k : Nat, k ≤ n ∧ v = .int .i64 k ∧ wr = W ∧ Hid (∀ j, j < k → ∀ x, st[j]? = some x → freeB x = false)) (fun v _ => n - (intOf v).toNat)
  case atStart => exact ⟨0, by omega, rfl, rfl, fun j hj => by omega⟩
  case round =>
    obtain ⟨k, hk, rfl, rfl, HA⟩ := hrel
    by_cases hlt : k < n
    · obtain ⟨⟨g, b⟩, hj⟩ : ∃ x, st[k]? = some x := ⟨_, List.getElem?_eq_getElem (by rw [HN.out]; exact hlt)⟩
      have HJ := Lib.hid hj
      have d0 := HH.out.gen hj
      have d1 := HH.out.free hj
      have hg1 := HG.out k g b hj
      have hnext : freeB (g, b) = false → Hid (∀ j, j < k + 1 → ∀ x, st[j]? = some x → freeB x = false) := fun hf j hj' x hx => by
        by_cases e : j = k
        · subst e
          rw [HJ.out] at hx
          cases hx
          exact hf
        · exact HA.out j (by omega) x hx
      have HX := Lib.hid hnext
      clear hj hnext
      cases b with
      | true =>
        simp only [Bool.not_true] at d1
        go_wp2
        go_roundw
        case rel => exact ⟨k + 1, by omega, by simp, by first | rfl | trivial, HX.out rfl⟩
        case measure => simp [intOf]; omega
      | false =>
        simp only [Bool.not_false] at d1
        by_cases hg : g < 1000
        · have hfi := find_at HJ.out hg HA.out
          have HT : Hid (takeH st = (k, g + 1) ∧ takeE st = 0 ∧ takeS st = st.set k (g + 1, true)) := by
            refine ⟨?_, ?_, ?_⟩
            · simp [takeH, hfi, genOf_eq HJ.out]
            · simp [takeE, hfi]
            · simp [takeS, hfi, genOf_eq HJ.out]
          obtain ⟨g', hg'⟩ : ∃ g', g + 1 = g' := ⟨_, rfl⟩
          have e1 : (g : Int) + 1 = (g' : Int) := by omega
          rw [hg'] at HT
          have q1 := HH.out.setF HJ.out true
          have hj1 : (st.set k (g, true))[k]? = some (g, true) := List.getElem?_set_self (by rw [HN.out]; exact hlt)
          have q2 := q1.setG hj1 g'
          rw [List.set_set] at q2
          have hj2 : (st.set k (g', true))[k]? = some (g', true) := List.getElem?_set_self (by rw [HN.out]; exact hlt)
          have fF := HH.out.zF k
          have a0 := q1.c0
          have a1 := q1.gen hj1
          have aG := q1.zG k
          have b0 := q2.c0
          have b1 := q2.gen hj2
          rw [List.length_set, HN.out] at a0 b0
          have HF : Hid (q.Fr wr ((wr.setCell ⟨q.F, k, none⟩ (.bool (!true))).setCell ⟨q.G, k, none⟩ (.int .i64 (g' : Int)))) := Fr.trans (Fr.set _ ⟨q.F, k, none⟩ _ (.inr (.inr rfl))) (Fr.set _ ⟨q.G, k, none⟩ _ (.inr (.inl rfl)))
          have hl := HL.out
          have x0 : ((wr.setCell ⟨q.F, k, none⟩ (.bool (!true))).setCell ⟨q.G, k, none⟩ (.int .i64 (g' : Int))).cell? ⟨w.heap.size, 0, none⟩ = some (.int .i64 0) := Fr.cell HF.out HR.out.1 (by simp; omega) (by simp; omega) (by simp; omega)
          have x1 : ((wr.setCell ⟨q.F, k, none⟩ (.bool (!true))).setCell ⟨q.G, k, none⟩ (.int .i64 (g' : Int))).cell? ⟨w.heap.size, 1, none⟩ = some (.int .i64 0) := Fr.cell HF.out HR.out.2.1 (by simp; omega) (by simp; omega) (by simp; omega)
          have z0 : ((wr.setCell ⟨q.F, k, none⟩ (.bool (!true))).setCell ⟨q.G, k, none⟩ (.int .i64 (g' : Int))).frozen? ⟨w.heap.size, 0, none⟩ = false := by rw [World.frozen?_setCell, World.frozen?_setCell]; exact HR.out.2.2.1
          have z1 : ((wr.setCell ⟨q.F, k, none⟩ (.bool (!true))).setCell ⟨q.G, k, none⟩ (.int .i64 (g' : Int))).frozen? ⟨w.heap.size, 1, none⟩ = false := by rw [World.frozen?_setCell, World.frozen?_setCell]; exact HR.out.2.2.2
          have HE := Lib.hid (rtake_end (o := .cells #[.int .i64 0, .int .i64 0] 32) q2 (by rw [HWW.out]; exact HF.out) HL.out (.int .i64 (k : Int)) (.int .i64 (g' : Int)))
          have HC := Lib.hid (set2_cells (.int .i64 (k : Int)) (.int .i64 (g' : Int)) x0 x1)
          simp only [Bool.not_true] at a0 a1 aG b0 b1 x0 x1 z0 z1 HE HC
          clear q1 q2 hj1 hj2 hg' hfi hl
          go_wp2
          obtain ⟨W5, hW5⟩ : ∃ W5, set2 ((wr.setCell ⟨q.F, k, none⟩ (.bool false)).setCell ⟨q.G, k, none⟩ (.int .i64 (g' : Int))) w.heap.size (.int .i64 (k : Int)) (.int .i64 (g' : Int)) = W5 := ⟨_, rfl⟩
          rw [show (((wr.setCell ⟨q.F, k, none⟩ (.bool false)).setCell ⟨q.G, k, none⟩ (.int .i64 (g' : Int))).setCell ⟨w.heap.size, 0, none⟩ (.int .i64 (k : Int))).setCell ⟨w.heap.size, 1, none⟩ (.int .i64 (g' : Int)) = W5 from hW5]
          rw [hW5] at HC HE
          obtain ⟨y0, y1⟩ := HC.out
          refine bodyPost_ret (v := .tuple #[ihv (toI (takeH st)), .int .i64 (takeE st)]) ?_ rfl ⟨rfl, by rw [HT.out.2.2]; exact HE.out.1, HE.out.2⟩
          rw [HT.out.1, HT.out.2.1]
          simp [results, Tryd.results13, go_sem, ihv, toI, y0, y1]
        · go_wp2
          go_roundw
          case rel => exact ⟨k + 1, by omega, by simp, by first | rfl | trivial, HX.out (by simp [freeB, hg])⟩
          case measure => simp [intOf]; omega
    · obtain rfl : k = n := by omega
      have hfi := find_no (st := st) (fun j hj x hx => HA.out j (by rw [HN.out] at hj; exact hj) x hx)
      have HT : Hid (takeH st = (0, 0) ∧ takeE st = 60 ∧ takeS st = st) := by
        refine ⟨?_, ?_, ?_⟩
        · simp [takeH, hfi]
        · simp [takeE, hfi]
        · simp [takeS, hfi]
      obtain ⟨x0, x1, z0, z1⟩ := HR.out
      have HE := Lib.hid (rtake_end (o := .cells #[.int .i64 0, .int .i64 0] 32) HH.out (by rw [HWW.out]; exact Fr.refl _ _ _ _) HL.out (.int .i64 0) (.int .i64 0))
      have HC := Lib.hid (set2_cells (.int .i64 0) (.int .i64 0) x0 x1)
      clear hfi
      go_wp2
      obtain ⟨W5, hW5⟩ : ∃ W5, set2 wr w.heap.size (.int .i64 0) (.int .i64 0) = W5 := ⟨_, rfl⟩
      rw [show (wr.setCell ⟨w.heap.size, 0, none⟩ (.int .i64 0)).setCell ⟨w.heap.size, 1, none⟩ (.int .i64 0) = W5 from hW5]
      rw [hW5] at HC HE
      obtain ⟨y0, y1⟩ := HC.out
      refine bodyPost_ret (v := .tuple #[ihv (toI (takeH st)), .int .i64 (takeE st)]) ?_ rfl ⟨rfl, by rw [HT.out.2.2]; exact HE.out.1, HE.out.2⟩
      rw [HT.out.1, HT.out.2.1]
      simp [results, Tryd.results13, go_sem, ihv, toI, y0, y1]

set_option maxRecDepth 100000 in
set_option maxHeartbeats 4000000 in
theorem RLive_any (n0 : Nat) (q : Pr) (st : St) (a b : Int) (w : World) (h : Rf n0 w q st) : Calls Tryd.prog 15 #[.pointer (some ⟨q.R, 0, none⟩), .agg #[.int .i64 a, .int .i64 b]] w fun e w' => e = .returned (.bool (liveR st (a, b))) ∧ Below w.heap.size w w' := by
  have hb := Below.new w (.cells #[.int .i64 a, .int .i64 b] 32)
  obtain ⟨r0, r1, _, _⟩ := new_cells2 w (.int .i64 a) (.int .i64 b) 32
  have HH := Lib.hid (h.more hb)
  obtain ⟨n, hn⟩ : ∃ n, st.length = n := ⟨_, rfl⟩
  have h64 := h.few
  have c0 := HH.out.c0
  have c1 := HH.out.c1
  rw [hn] at c0 c1 h64
  have HN := Lib.hid hn
  obtain ⟨W, hW⟩ : ∃ W, w.alloc (.cells #[.int .i64 a, .int .i64 b] 32) = W := ⟨_, rfl⟩
  rw [hW] at HH c0 c1 r0 r1 hb
  have HB := Lib.hid hb
  have HWW := Lib.hid hW
  clear h hb hn hW
  go_enter Tryd.func15, Tryd.ntmps15
  go_wp2_with fail
  rw [HWW.out]
  by_cases ha : 0 ≤ a
  · have p1 : decide (a ≥ 0) = true := by simp; exact ha
    have p1' : decide (0 ≤ a) = true := by simp; exact ha
    by_cases hal : a < (n : Int)
    · have p2 : decide (a < (n : Int)) = true := by simp; exact hal
      obtain ⟨i, rfl⟩ := Int.eq_ofNat_of_zero_le ha
      obtain ⟨⟨g, t⟩, hj⟩ : ∃ x, st[i]? = some x := ⟨_, List.getElem?_eq_getElem (by rw [HN.out]; omega)⟩
      have d0 := HH.out.gen hj
      have d1 := HH.out.free hj
      have hil : i < n := by omega
      have HJ := Lib.hid hj
      clear hj
      cases t with
      | false =>
        simp only [Bool.not_false] at d1
        have HLv : Hid (liveR st ((i : Int), b) = false) := by
          show liveR _ _ = false
          cases hl : liveR st ((i : Int), b) with
          | false => rfl
          | true =>
            obtain ⟨i', g', e, hs⟩ := (liveR_iff _ _).1 hl
            have e1 : i = i' := by have := congrArg Prod.fst e; dsimp only at this; omega
            rw [← e1, HJ.out] at hs
            cases hs
        go_quiet (fail)
        go_wp2
        go_ret
        rw [HLv.out]
        exact ⟨rfl, below_more HB.out (below_drews _ _)⟩
      | true =>
        simp only [Bool.not_true] at d1
        obtain ⟨x, hx⟩ : ∃ x, ((g : Int) == b) = x := ⟨_, rfl⟩
        have HLv : Hid (liveR st ((i : Int), b) = x) := by
          show liveR _ _ = x
          rw [← hx]
          cases hl : liveR st ((i : Int), b) with
          | true =>
            obtain ⟨i', g', e, hs⟩ := (liveR_iff _ _).1 hl
            have e1 : i = i' := by have := congrArg Prod.fst e; dsimp only at this; omega
            have e2 : b = g' := congrArg Prod.snd e
            rw [← e1, HJ.out] at hs
            cases hs
            simp [e2]
          | false =>
            by_cases e : (g : Int) = b
            · have := (liveR_iff st ((i : Int), b)).2 ⟨i, g, by rw [e], HJ.out⟩
              rw [hl] at this
              cases this
            · simp [e]
        go_quiet (fail)
        go_wp2
        go_ret
        rw [HLv.out]
        exact ⟨rfl, below_more HB.out (below_drews _ _)⟩
    · have p2 : decide (a < (n : Int)) = false := by simp; omega
      have HLv : Hid (liveR st (a, b) = false) := by
        show liveR _ _ = false
        cases hl : liveR st (a, b) with
        | false => rfl
        | true =>
          obtain ⟨i', g', e, hs⟩ := (liveR_iff _ _).1 hl
          have e1 : a = i' := congrArg Prod.fst e
          have := (List.getElem?_eq_some_iff.1 hs).1
          rw [HN.out] at this
          omega
      go_quiet (fail)
      go_wp2
      go_ret
      rw [HLv.out]
      exact ⟨rfl, below_more HB.out (below_drews _ _)⟩
  · have p1 : decide (a ≥ 0) = false := by simp; omega
    have p1' : decide (0 ≤ a) = false := by simp; omega
    have HLv : Hid (liveR st (a, b) = false) := by
      show liveR _ _ = false
      cases hl : liveR st (a, b) with
      | false => rfl
      | true =>
        obtain ⟨i', g', e, hs⟩ := (liveR_iff _ _).1 hl
        have e1 : a = i' := congrArg Prod.fst e
        omega
    go_quiet (fail)
    go_wp2
    go_ret
    rw [HLv.out]
    exact ⟨rfl, below_more HB.out (below_drews _ _)⟩

end Go.Proofs.YtjfooblnpkckfaaDoor
