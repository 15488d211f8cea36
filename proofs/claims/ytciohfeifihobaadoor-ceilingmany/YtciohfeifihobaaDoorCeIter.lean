/- steps's iterator: where one is behind each label. -/
import Derived.Test.YtciohfeifihobaaDoorCeStep
namespace Go.Proofs.YtciohfeifihobaaDoor
open Go.RowKit Go.Proofs.Cats Go.Proofs.Cel Go.Shelf Go.Sort

attribute [local go_sem] Oper.semAt_some

/-- What is yielded, as two values. -/
def encU (s : Sn) (y : Lab × Bool) : Array Value := #[.agg #[.int .i64 y.1.l, .int .u64 y.1.c, .int .i64 y.1.i], errU s y.2]
theorem drop_cons {zs : List Lab} {k : Nat} {y : Lab} (h : zs[k]? = some y) : zs.drop k = y :: zs.drop (k + 1) := by
  obtain ⟨hk, rfl⟩ := List.getElem?_eq_some_iff.1 h
  exact List.drop_eq_getElem_cons hk

theorem KN.new {p : Nat → Prop} {A B : World} {b o : Nat} {v : Value} (h : KN p A B) (hb : A.heap.size ≤ b) : KN p A (B.setCell ⟨b, o, none⟩ v) :=
  ⟨h.os, h.tape, h.output, by simpa [World.setCell] using h.size, fun k hk hp => (Below.heap_setCell _ _ _ _ (fun e => by have : k = b := e; omega)).trans (h.block k hk hp)⟩
theorem KN.new3 {p : Nat → Prop} {A B : World} {b : Nat} {u v t : Value} (h : KN p A B) (hb : A.heap.size ≤ b) : KN p A (((B.setCell ⟨b, 0, none⟩ u).setCell ⟨b, 1, none⟩ v).setCell ⟨b, 2, none⟩ t) := ((h.new hb).new hb).new hb
set_option maxRecDepth 100000 in
set_option maxHeartbeats 4000000 in
theorem steps1 (n : Nat) (hn : 1 ≤ n) {s : Sn} {cur high : Lab} {zs : List Lab} (hc : cur.fits) (hh : high.fits) (hcr : cur.right = true) (hzr : zs.all Lab.right = true) (Bc Bs len cap : Nat) (ao : Option Addr) (p : Nat → Prop) (w0 w : World)
    (hz : zs.length ≤ 1000) (hI : Labs w0.heap.size w0 (.slice ao len cap) zs) (hs : Ce w0) (hS : Sent s w0) (hw : Below w0.heap.size w0 w) (hp : ∀ k, p k → w0.heap.size ≤ k) (hpw : ∀ k, p k → k < w.heap.size + 2)
    (hBc : BoxC w Bc cur high) (hBs : w.cell? ⟨Bs, 0, none⟩ = some (.slice ao len cap)) :
    SeqB (fun pre x => pre ++ [x] <+: ups high cur zs) n Tryd.prog 65 #[.pointer (some ⟨Bc, 0, none⟩), .pointer (some ⟨Bs, 0, none⟩)] (encU s) (KN p) (fun ys => ys = ups high cur zs) (fun pre => pre <+: ups high cur zs) w := fun l J Jx W hW hWs hJ hJx hY h0 => by
  have hn1 : 1 ≤ n := by omega
  refine callsIn_of_wp Tryd.func65 rfl trivial ?_ rfl
  simp only [Tryd.ntmps65, List.size_toArray, List.length_cons, List.length_nil, Nat.reduceAdd, Nat.reduceSub, Array.replicate_succ, Array.replicate_zero, List.push_toArray, List.append_toArray, List.nil_append, List.cons_append]
  obtain ⟨ao', cap', he, hzc⟩ := hI
  injection he with he1 he2 he3
  subst he1 he3
  have hlen := he2.symm
  clear he2
  have hln : len ≤ 1000 := by omega
  have hbc := hBc.more hW
  obtain ⟨⟨a0, a1, a2⟩, a3, a4, a5⟩ := hbc.lab
  have b0 := cell_later hW hBs
  have hN := Below.new W (.cells #[.int .i64 cur.l, .int .u64 cur.c, .int .i64 cur.i, .int .i64 high.l, .int .u64 high.c, .int .i64 high.i] 47)
  have b1 := cell_later hN b0
  have hW0 : Below w0.heap.size w0 W := hw.trans (hW.mono hw.size)
  have HX0 := Lib.hid (show BoxC (W.alloc (.cells #[.int .i64 cur.l, .int .u64 cur.c, .int .i64 cur.i, .int .i64 high.l, .int .u64 high.c, .int .i64 high.i] 47)) W.heap.size cur high from BoxC.new W cur high)
  have HP := Lib.hid (And.intro hp (And.intro (fun h => by have := hpw _ h; omega : ¬ p W.heap.size) (show ∀ k, p k → k < W.heap.size from fun k hk => by have := hpw k hk; omega)))
  have HL := Lib.hid (And.intro hzc (And.intro hlen (And.intro hs (And.intro hS (And.intro hW0 (And.intro hh hzr))))))
  have HJ := Lib.hid (And.intro hJ (And.intro hJx (hJ _ _ _ h0 hN)))
  have HC := Lib.hid (And.intro hc hcr)
  have HN := Lib.hid hN
  have HY := Lib.hid hY
  clear hzc hlen hs hS hw hp hpw hBc hBs hbc hJ hJx h0 hY hc hcr hN hW hW0 hh hzr hz
  gi_wp2
  gi_loopw [12] (fun i wr => ∃ (k : Nat) (x : Lab) (pre : List (Lab × Bool)), k ≤ len ∧ i = .int .i64 k ∧ Hid (pre ++ ups high x (zs.drop k) = ups high cur zs) ∧ Hid (J pre wr) ∧ Hid (KN p W wr) ∧ Hid (BoxC wr W.heap.size x high) ∧ Hid (x.fits ∧ x.right = true))
    (fun i _ => len - (intOf i).toNat)
  case atStart => exact ⟨0, cur, [], Nat.zero_le _, rfl, Lib.hid rfl, Lib.hid HJ.out.2.2, Lib.hid (KN.of_below HN.out), HX0, HC⟩
  case round =>
    obtain ⟨k, x, pre, hk, rfl, HU, HJ0, HK, HX, HF⟩ := hrel
    by_cases hlt : k < len
    · obtain ⟨y, hy⟩ : ∃ y, zs[k]? = some y := ⟨_, List.getElem?_eq_getElem (by have := HL.out.2.1; omega)⟩
      have hi1 : (k : Int) < (len : Int) := by omega
      obtain ⟨b, off, rfl, hbl, hcs⟩ := HL.out.1 (fun e => by rw [e] at hy; simp at hy)
      have hlow : Below w0.heap.size w0 wr := HL.out.2.2.2.2.1.trans (HK.out.low HP.out.1 HL.out.2.2.2.2.1.size)
      obtain ⟨q0, q1, q2⟩ := (hcs k y hy).2.below hlow hbl
      have HYf := Lib.hid (And.intro (hcs k y hy).1 (show y.right = true from List.all_eq_true.1 HL.out.2.2.2.2.2.2 y (List.mem_of_getElem? hy)))
      have HD := Lib.hid (drop_cons hy)
      have hNy := Below.new wr (.cells #[.int .i64 y.l, .int .u64 y.c, .int .i64 y.i] 24)
      obtain ⟨⟨c0, c1, c2⟩, c3, c4, c5⟩ := (HX.out.more hNy).lab
      have hlow2 : Below w0.heap.size w0 (wr.alloc (.cells #[.int .i64 y.l, .int .u64 y.c, .int .i64 y.i] 24)) := hlow.trans (hNy.mono hlow.size)
      have HE := Lib.hid (And.intro (HL.out.2.2.1.more hlow2) (HL.out.2.2.2.1.more hlow2))
      have HNy := Lib.hid hNy
      clear hcs hy hbl hlow hlow2 hNy
      cases hu : (x.join y).under high with
      | true =>
        have HSt := Lib.hid (step_w (s := s) (w := wr.alloc (.cells #[.int .i64 y.l, .int .u64 y.c, .int .i64 y.i] 24)) HF.out.1 HYf.out.1 HL.out.2.2.2.2.2.1 (by rw [HF.out.2, HYf.out.2]; rfl) (upL_yes hu) HE.out.1 HE.out.2)
        have HUe := Lib.hid (ups_yes (r := zs.drop (k + 1)) hu)
        have hzf := HF.out.1.join HYf.out.1
        have hzr := Lab.right_join HF.out.2 HYf.out.2
        obtain ⟨z, hz⟩ : ∃ z, x.join y = z := ⟨_, rfl⟩
        rw [hz] at HSt HUe hzf hzr
        have HZ := Lib.hid (And.intro hzf hzr)
        clear hu hz hzf hzr
        gi_wp2_with (refine ⟨trivial, ?_⟩; gi_at_call 66; refine (callsIn_wide.2 HSt.out).mono ?_)
        rintro e w1 ⟨rfl, hb1⟩
        have hv : errU s true = .nilIface := rfl
        rw [hv]
        have hNf := Below.new w1 (.cells #[.int .i64 z.l, .int .u64 z.c, .int .i64 z.i] 42)
        have hbb := below_more (below_more HNy.out hb1) hNf
        have hWr := HK.out.size
        have hH : pre ++ [(z, true)] <+: ups high cur zs := by rw [← HU.out, HD.out, HUe.out]; exact ⟨ups high z (zs.drop (k + 1)), by simp⟩
        obtain ⟨fn, tmps, assign, body, hy, hR⟩ := HY.out pre (z, true) _ (HJ.out.1 pre wr _ HJ0.out (hbb.mono hWr)) hH
        simp only [encU, hv] at hy
        have HR := Lib.hid hR
        have HX1 := Lib.hid (HX.out.more hbb)
        have HFl := Lib.hid (BoxF.new w1 z)
        have HK1 := Lib.hid (HK.out.trans (KN.of_below hbb))
        have hz1 := (below_more HNy.out hb1).size
        obtain ⟨f0, f1, f2⟩ := HFl.out.lab
        have HH := Lib.hid hH
        clear hR hNf hbb hb1 hH
        gi_wp2
        refine HR.out.mono ?_
        rintro e W3 (⟨rfl, hJ3, hk3, _⟩ | ⟨rfl, hJ3, _⟩)
        · have hnf : ¬ p w1.heap.size := fun h => by have := HP.out.2.2 _ h; omega
          have HX3 := Lib.hid (HX1.out.kn hk3 HP.out.2.1)
          have HF3 := Lib.hid (HFl.out.kn hk3 hnf)
          have HJ3 := Lib.hid hJ3
          have HK3 := Lib.hid (HK1.out.trans hk3)
          clear hJ3 hk3 hy hz1 hWr hnf f0 f1 f2
          obtain ⟨f0, f1, f2⟩ := HF3.out.lab
          obtain ⟨⟨c0, c1, c2⟩, -⟩ := HX3.out.lab
          obtain ⟨g0, g1, g2⟩ := HX3.out.frozen
          gi_wp2
          go_roundw
          case rel => exact ⟨k + 1, z, pre ++ [(z, true)], by omega, by simp, Lib.hid (by rw [← HU.out, HD.out, HUe.out]; simp), Lib.hid (HJ.out.1 _ W3 _ HJ3.out (below_set3 (Below.refl W.heap.size W3) (Nat.le_refl _) _ _ _)), Lib.hid (HK3.out.new3 (Nat.le_refl _)), Lib.hid (HX3.out.set z), HZ⟩
          case measure => simp [intOf]; omega
        · have HJ3 := Lib.hid hJ3
          clear hJ3 hy hz1 hWr f0 f1 f2
          gi_wp2
          refine bodyPost_ret (results_none rfl _ _ _) rfl ?_
          exact ⟨⟨_, rfl⟩, .inr ⟨_, HH.out, HJ3.out⟩⟩
      | false =>
        have HSt := Lib.hid (step_w (s := s) (w := wr.alloc (.cells #[.int .i64 y.l, .int .u64 y.c, .int .i64 y.i] 24)) HF.out.1 HYf.out.1 HL.out.2.2.2.2.2.1 (by rw [HF.out.2, HYf.out.2]; rfl) (upL_no hu) HE.out.1 HE.out.2)
        have HUe := Lib.hid (ups_no (r := zs.drop (k + 1)) hu)
        clear hu
        gi_wp2_with (refine ⟨trivial, ?_⟩; gi_at_call 66; refine (callsIn_wide.2 HSt.out).mono ?_)
        rintro e w1 ⟨rfl, hb1⟩
        have hv : errU s false = .iface 116 (.pointer (some s.a)) := rfl
        rw [hv]
        have hNf := Below.new w1 (.cells #[.int .i64 x.l, .int .u64 x.c, .int .i64 x.i] 42)
        have hbb := below_more (below_more HNy.out hb1) hNf
        have hWr := HK.out.size
        have hH : pre ++ [(x, false)] <+: ups high cur zs := by rw [← HU.out, HD.out, HUe.out]; exact ⟨[], by simp⟩
        obtain ⟨fn, tmps, assign, body, hy, hR⟩ := HY.out pre (x, false) _ (HJ.out.1 pre wr _ HJ0.out (hbb.mono hWr)) hH
        simp only [encU, hv] at hy
        have HR := Lib.hid hR
        have HX1 := Lib.hid (HX.out.more hbb)
        have HFl := Lib.hid (BoxF.new w1 x)
        have HK1 := Lib.hid (HK.out.trans (KN.of_below hbb))
        have hz1 := (below_more HNy.out hb1).size
        obtain ⟨f0, f1, f2⟩ := HFl.out.lab
        have HH := Lib.hid hH
        clear hR hNf hbb hb1 hH
        gi_wp2
        refine HR.out.mono ?_
        rintro e W3 (⟨rfl, hJ3, hk3, _⟩ | ⟨rfl, hJ3, _⟩)
        · have HJ3 := Lib.hid hJ3
          clear hJ3 hk3 hy hz1 hWr f0 f1 f2
          gi_wp2
          refine bodyPost_ret (results_none rfl _ _ _) rfl ?_
          have h := HU.out
          rw [HD.out, HUe.out] at h
          exact ⟨⟨_, rfl⟩, .inl ⟨_, h, HJ3.out⟩⟩
        · have HJ3 := Lib.hid hJ3
          clear hJ3 hy hz1 hWr f0 f1 f2
          gi_wp2
          refine bodyPost_ret (results_none rfl _ _ _) rfl ?_
          exact ⟨⟨_, rfl⟩, .inr ⟨_, HH.out, HJ3.out⟩⟩
    · obtain rfl : k = len := by omega
      have hi1 : ¬ (k : Int) < (k : Int) := by omega
      gi_wp2
      go_end0
      have h := HU.out
      rw [List.drop_eq_nil_of_le (by have := HL.out.2.1; omega), ups, List.append_nil] at h
      exact ⟨⟨_, rfl⟩, .inl (by rw [← h]; exact HJ0.out)⟩
end Go.Proofs.YtciohfeifihobaaDoor
