/- change; Write, Read, Cut, Put, Take. -/
import Derived.Test.YtnbpfbmhheimbaaGreatDoorSpDone
namespace Go.Proofs.Spc
open Go.Proofs.Rng
theorem chg_err {l : List Ob} {q : Int} {n : It} {k : Int} {f : Ob → Int × Ob} {c : Int} (h : (doneR l n k f).1 = c) (hc : c ≠ 0) : chgR l q n k f = (c, []) := by
  unfold chgR
  rw [h, if_pos hc]
theorem chg_go {l : List Ob} {q : Int} {n : It} {k : Int} {f : Ob → Int × Ob} (h : (doneR l n k f).1 = 0) : chgR l q n k f = chR l q (doneR l n k f).2.1 ((doneR l n k f).2.1 + 1) [(doneR l n k f).2.2] := by
  unfold chgR
  rw [if_neg (by simp [h])]
theorem done_ok {l : List Ob} {n : It} {k : Int} {f : Ob → Int × Ob} (hf : Keep k f) (h : (doneR l n k f).1 = 0) : rightB l = true ∧ (doneR l n k f).2.1 < l.length ∧ isB (doneR l n k f).2.2 = true := by
  obtain ⟨h1, x, h2, h3, h4⟩ := done_code h
  rw [done_at h1 h2 h3 h4]
  have hx := good_get (rightB_iff.1 h1).2 h2
  obtain ⟨k1, k2⟩ := hf x hx h3 h4
  refine ⟨h1, find_lt h2, ?_⟩
  unfold isB at hx ⊢
  simp only at *
  rw [k1, k2]
  simp at hx
  rw [hx.1]
  rfl
end Go.Proofs.Spc
namespace Go.Proofs.YtnbpfbmhheimbaaGreatDoor
open Go.RowKit Go.Proofs.Fld Go.Proofs.Rng Go.Proofs.Spc Go.Shelf Go.Sort

/-- Objects are told, and an error; F may have been written. -/
def EgP (r : Int × List Ob) (kr : Nat) (G : Ob → World → Prop) (F : Nat) (l : List Ob) (n : It) (k : Int) (w : World) (e : Ending) (w' : World) : Prop :=
  ∃ vs va vc v, e = .returned (.tuple #[.slice va kr vc, v]) ∧ obs vs = r.2 ∧ Objs w' va kr vc vs ∧ Sp.ErrIs v r.1 ∧ (∀ o, reach l n k = some o → G o w') ∧ (reach l n k = none → Below w.heap.size w w') ∧ KA F w w'

theorem Objs.keep {A B : World} {ao : Option Addr} {len cap : Nat} {zs : List Ov} (h : Objs A ao len cap zs) (hr : ∀ x ∈ zs, Lv B x) (k : 0 < len → ∀ a, ao = some a → a.block < A.heap.size → B.heap[a.block]? = A.heap[a.block]?) : Objs B ao len cap zs :=
  ⟨h.hlen, h.hle, h.hmax, h.hnone, hr, fun hz => by
    obtain ⟨b, off, e, hc⟩ := h.hcells hz
    exact ⟨b, off, e, fun j x hj => (hc j x hj).of_block (k (by have := List.length_pos_iff.2 hz; have := h.hlen; omega) _ e (hc j x hj).lt)⟩⟩
set_option maxRecDepth 100000 in
set_option maxHeartbeats 4000000 in
theorem change_any {s : Sn} {r : Int × List Ob} {kr : Nat} {f : Ob → Int × Ob} {G : Ob → World → Prop} {FN F : Nat} {cs : Array Value} {ao : Option Addr} {len cap : Nat} {nm : It} {q k : Int} {zs : List Ov} {w : World} (hr : chgR (obs zs) q nm k f = r) (hkr : r.2.length = kr) (hkp : Keep k f) (eg : ∀ args W, (callFunc FN args).run Tryz.prog W = .ok (.enter FN args) W) (hG : ∀ o A B, G o A → B.heap[F]? = A.heap[F]? → G o B) (hFl : F < w.heap.size) (hrF : ∀ x ∈ zs, ∀ a, x.a = some a → x.o.l ≠ [] → a.block ≠ F) (haF : 0 < len → ∀ a, ao = some a → a.block ≠ F)
    (hdo : ∀ x ∈ zs, ∀ W, Below w.heap.size w W → Ev s W → Lv W x → Calls Tryz.prog FN (#[.agg #[.string (bs x.o.n), .int .i64 x.o.k, .string (bs x.o.d), .int .i64 x.o.m, .slice x.a x.o.l.length x.c]] ++ cs) W (DoP f G x F W))
    (hreach : len ≤ 100000) (hbd : ∀ x ∈ zs, Bd x.o) (hs : Ev s w) (hL : Objs w ao len cap zs) :
    Calls Tryz.prog 58 #[.agg #[.slice ao len cap, .string (bs nm), .int .i64 q], .int .i64 k, .func (.func FN) #[] cs] w (EgP r kr G F (obs zs) nm k w) := by
  have hB := Below.new w (.cells #[.slice ao len cap, .string (bs nm), .int .i64 q] 73)
  have HD := Lib.hid (done_any (nm := nm) (q := q) (k := k) (w := w.alloc (.cells #[.slice ao len cap, .string (bs nm), .int .i64 q] 73)) eg hG (by simp; omega) (fun x hx W hW hE hl => hdo x hx W (below_more hB hW) hE hl) hreach hbd (hs.more hB) (hL.more hB))
  have HE := Lib.hid (And.intro hB (And.intro (Ed.new w ao len cap nm q) (And.intro (hL.more hB) hbd)))
  have HR := Lib.hid (And.intro hr hkr)
  have HG := Lib.hid (And.intro hG (And.intro hkp (And.intro hrF haF)))
  have HLN := Lib.hid hL.hlen
  obtain ⟨e0, e1, e2⟩ := Ed.new w ao len cap nm q
  have hsz : (w.alloc (.cells #[.slice ao len cap, .string (bs nm), .int .i64 q] 73)).heap.size = w.heap.size + 1 := by simp
  clear hL hB hs hbd hdo hr hkr hG hkp hrF haF eg
  go_enter Tryz.func58, Tryz.ntmps58
  go_wp2_with (go_at_call 64; refine HD.out.mono ?_)
  rintro e w1 ⟨x', c, p, v, rfl, hv, hc, hok, hg, hrn, hka⟩
  have hN := Below.new w1 (.cells #[.string (bs x'.o.n), .int .i64 x'.o.k, .string (bs x'.o.d), .int .i64 x'.o.m, .slice x'.a x'.o.l.length x'.c] 55)
  have hO := ObAt.new w1 x' 55
  have hE1 := (HE.out.2.1.ka hka (by omega)).more hN
  have hL1 : Objs w1 ao len cap zs := HE.out.2.2.1.keep (fun x hx => (HE.out.2.2.1.hrows x hx).keep fun a ea hz hlt => hka.heap hlt (HG.out.2.2.1 x hx a ea hz)) (fun h0 a ea hlt => hka.heap hlt (HG.out.2.2.2 h0 a ea))
  have hL2 := hL1.more hN
  have hbN := KA.trans hka (KA.of_below hN)
  have hs1 := hka.size
  have hFN := hN.block F (by omega)
  obtain ⟨W1, hW1⟩ : ∃ W1, w1.alloc (.cells #[.string (bs x'.o.n), .int .i64 x'.o.k, .string (bs x'.o.d), .int .i64 x'.o.m, .slice x'.a x'.o.l.length x'.c] 55) = W1 := ⟨_, rfl⟩
  rw [hW1] at hN hO hE1 hL2 hbN hFN
  have hkaw : KA F w W1 := (KA.of_below HE.out.1).trans hbN
  have H1 := Lib.hid (And.intro hc (And.intro hok (And.intro (fun o ho => HG.out.1 o w1 W1 (hg o ho) hFN) (And.intro (fun h => below_more HE.out.1 (below_more (hrn h) hN)) (And.intro hkaw (And.intro hL2 hN))))))
  obtain ⟨f0, f1, f2⟩ := hE1
  obtain ⟨o0, o1, o2, o3, o4⟩ := hO.var
  have hsN := hN.size
  clear hc hok hg hrn hka hN hL1 hL2 hbN hFN hkaw e0 e1 e2 hO
  rcases hv with ⟨rfl, rfl⟩ | ⟨hc0, t, u, rfl, hev⟩
  · have hd0 : (doneR (obs zs) nm k f).1 = 0 := H1.out.1.symm
    obtain ⟨q1, q2, q3⟩ := done_ok HG.out.2.1 hd0
    obtain ⟨r1, r2, r3⟩ := H1.out.2.1 rfl
    rw [← r1, obs_length, HLN.out] at q2
    rw [← r2] at q3
    have hchr := chg_go (q := q) hd0
    rw [HR.out.1, ← r1, ← r2] at hchr
    have hw : IntKind.i64.wrap ((p : Int) + 1) = ((p + 1 : Nat) : Int) := by rw [IntKind.wrap_i64]; omega
    have hN2 := Below.new W1 (.cells #[.string (bs x'.o.n), .int .i64 x'.o.k, .string (bs x'.o.d), .int .i64 x'.o.m, .slice x'.a x'.o.l.length x'.c] 55)
    have hp : Objs (W1.alloc (.cells #[.string (bs x'.o.n), .int .i64 x'.o.k, .string (bs x'.o.d), .int .i64 x'.o.m, .slice x'.a x'.o.l.length x'.c] 55)) (some ⟨W1.heap.size, 0, none⟩) 1 1 [x'] :=
      ⟨rfl, Nat.le_refl _, by unfold maxLen; omega, (fun h => by cases h), (fun x hx => by
        obtain rfl : x = x' := by simpa using hx
        exact (r3.more H1.out.2.2.2.2.2.2).more hN2), fun _ => ⟨W1.heap.size, 0, rfl, fun j x hj => by
          match j, hj with
          | 0, hj =>
            obtain rfl := Option.some.inj hj
            exact ObAt.new W1 x' _
          | j + 1, hj => simp at hj⟩⟩
    have hbx : Bd x'.o := by
      obtain ⟨_, a1, a2, _, _, a3, _⟩ := isB_bounds q3
      exact ⟨by omega, by omega, by omega⟩
    have HCH := Lib.hid (changed_any (nm := nm) (q := q) (s := p) (e := p + 1) (os := [x'.o]) (pv := .slice (some ⟨W1.heap.size, 0, none⟩) 1 1) (k := p + 1 + (len - (p + 1))) hchr.symm HR.out.2 hreach (by omega) (fun x hx => fair_right q1 x.o (mem_obs hx)) (fun x hx => by
      rcases mem_withL hx with hx | hx
      · exact fair_right q1 x hx
      · obtain rfl : x = x'.o := by simpa using hx
        exact fair_isB q3) (H1.out.2.2.2.2.2.1.more hN2)
      (fun W hW => withO_one x' ⟨W1.heap.size, 0, none⟩ p (p + 1) ao len cap zs hreach (by omega) (by omega) HE.out.2.2.2 hbx W ((H1.out.2.2.2.2.2.1.more hN2).more hW) (hp.more hW)))
    have HN2 := Lib.hid hN2
    clear hd0 q1 q2 q3 r1 r2 r3 hchr hN2 hp hbx
    go_wp2_with (go_at_call 90; refine HCH.out.mono ?_)
    rintro e w6 ⟨vs, ra, rc, v, rfl, hvs, hOb, hv, hb6⟩
    have hb7 := below_more HN2.out hb6
    have HF := Lib.hid (And.intro hvs (And.intro hOb (And.intro hv (And.intro (fun o ho => HG.out.1 o W1 w6 (H1.out.2.2.1 o ho) (hb7.block F (by omega))) (And.intro (fun h => below_more (H1.out.2.2.2.1 h) hb7) (H1.out.2.2.2.2.1.trans (KA.of_below hb7)))))))
    clear hvs hOb hv hb6 hb7
    go_wp2
    refine bodyPost_ret (results_tmp2 rfl _ _ _) rfl ?_
    exact ⟨vs, ra, rc, v, rfl, HF.out.1, HF.out.2.1, HF.out.2.2.1, HF.out.2.2.2.1, HF.out.2.2.2.2.1, HF.out.2.2.2.2.2⟩
  · have HX := Lib.hid (show r = (c, []) by rw [← HR.out.1]; exact chg_err H1.out.1.symm hc0)
    have HK := Lib.hid (show kr = 0 by rw [← HR.out.2, HX.out]; rfl)
    have HV := Lib.hid hev
    clear hev hc0
    go_wp2
    refine bodyPost_ret (results_tmp2 rfl _ _ _) rfl ?_
    rw [HX.out, HK.out]
    exact ⟨[], none, 0, _, rfl, rfl, Objs.nil _, HV.out, H1.out.2.2.1, H1.out.2.2.2.1, H1.out.2.2.2.2.1⟩

theorem fin_below {F : Nat} {w0 w w' : World} (h : Below w0.heap.size w0 w) (k : KA F w w') (hF : w0.heap.size ≤ F) : Below w0.heap.size w0 w' := h.trans (k.low hF h.size)
set_option maxRecDepth 100000 in
set_option maxHeartbeats 4000000 in
theorem Write_s {s : Sn} {r : Int × List Ob} {kr : Nat} {ao : Option Addr} {len cap : Nat} {nm t : It} {q a : Int} {zs : List Ov} (hr : wrR (obs zs) q nm a t = r) (hkr : r.2.length = kr) (htl : t.length ≤ 1000000) (hreach : len ≤ 100000) (hbd : ∀ x ∈ zs, Bd x.o) {w : World} (hs : Ev s w) (hL : Objs w ao len cap zs) :
    Calls Tryz.prog 32 #[.slice ao len cap, .int .i64 q, .string (bs nm), .int .i64 a, .string (bs t)] w (ResP r kr w) := by
  have hB : Below w.heap.size w ((w.alloc (.cells #[.int .i64 a] 3)).alloc (.cells #[.string (bs t)] 9)) := (Below.new w _).alloc (by simp) _
  have c0 : ((w.alloc (.cells #[.int .i64 a] 3)).alloc (.cells #[.string (bs t)] 9)).cell? ⟨w.heap.size, 0, none⟩ = some (.int .i64 a) := cell_later (Below.new _ _) (by simp)
  have c1 : ((w.alloc (.cells #[.int .i64 a] 3)).alloc (.cells #[.string (bs t)] 9)).cell? ⟨w.heap.size + 1, 0, none⟩ = some (.string (bs t)) := by simp
  have hz : ((w.alloc (.cells #[.int .i64 a] 3)).alloc (.cells #[.string (bs t)] 9)).heap.size = w.heap.size + 2 := by simp
  obtain ⟨W0, hW0⟩ : ∃ W0, ((w.alloc (.cells #[.int .i64 a] 3)).alloc (.cells #[.string (bs t)] 9)) = W0 := ⟨_, rfl⟩
  rw [hW0] at hB c0 c1 hz
  have HC := Lib.hid (change_any (F := w.heap.size) (G := fun _ _ => True) (cs := #[.pointer (some ⟨w.heap.size, 0, none⟩), .pointer (some ⟨w.heap.size + 1, 0, none⟩)]) (nm := nm) (q := q) (k := 1) hr hkr (keep_wr a t) (enters_of Tryz.func59 (by kernel_rfl) rfl) (fun _ _ _ h _ => h) (by omega) (fun x hx a' ea hz' => by have := (hL.hrows x hx).lt a' ea hz'; omega) (fun h0 a' ea => by
    obtain ⟨b, off, e', hb, _⟩ := hL.at h0
    rw [ea] at e'
    obtain rfl := Option.some.inj e'
    simp only
    omega) (fun x hx W hW hE hl => write1_any hE hl (cell_later hW c0) (cell_later hW c1) htl) hreach hbd (hs.more hB) (hL.more hB))
  have HB := Lib.hid hB
  have HS := Lib.hid hs
  clear hL hs hbd hr hkr hB c0 hz c1
  go_enter Tryz.func32, Tryz.ntmps32
  go_wp2_with (go_at_call 58; refine HC.out.mono ?_)
  rintro e w1 ⟨vs, va, vc, v, rfl, hvs, hO, hv, _, _, hka⟩
  have hbw := fin_below HB.out hka (Nat.le_refl _)
  have H1 := Lib.hid (And.intro hvs (And.intro hO (And.intro hv (And.intro hbw (HS.out.more hbw).sp))))
  clear hvs hO hv hka hbw hW0
  go_wp2_with (go_at_call 55; refine (Sp.told_any H1.out.2.2.1 w1 H1.out.2.2.2.2).mono ?_)
  rintro e w2 ⟨rfl, hb2⟩
  have H2 := Lib.hid (And.intro (H1.out.2.1.more hb2) (below_more H1.out.2.2.2.1 hb2))
  clear hb2
  go_wp2
  refine bodyPost_ret (results_tmp2 rfl _ _ _) rfl ?_
  exact ⟨vs, va, vc, rfl, H1.out.1, H2.out.1, H2.out.2⟩

set_option maxRecDepth 100000 in
set_option maxHeartbeats 4000000 in
theorem Cut_s {s : Sn} {r : Int × List Ob} {kr : Nat} {ao : Option Addr} {len cap : Nat} {nm : It} {q a : Int} {zs : List Ov} (hr : cuR (obs zs) q nm a = r) (hkr : r.2.length = kr)  (hreach : len ≤ 100000) (hbd : ∀ x ∈ zs, Bd x.o) {w : World} (hs : Ev s w) (hL : Objs w ao len cap zs) :
    Calls Tryz.prog 37 #[.slice ao len cap, .int .i64 q, .string (bs nm), .int .i64 a] w (ResP r kr w) := by
  have hB : Below w.heap.size w (w.alloc (.cells #[.int .i64 a] 3)) := Below.new w _
  have c0 := Boxed.new w 3 (.int .i64 a)
  have hz : (w.alloc (.cells #[.int .i64 a] 3)).heap.size = w.heap.size + 1 := by simp
  obtain ⟨W0, hW0⟩ : ∃ W0, (w.alloc (.cells #[.int .i64 a] 3)) = W0 := ⟨_, rfl⟩
  rw [hW0] at hB c0 hz
  have HC := Lib.hid (change_any (F := w.heap.size) (G := fun _ _ => True) (cs := #[.pointer (some ⟨w.heap.size, 0, none⟩)]) (nm := nm) (q := q) (k := 1) hr hkr (keep_cut a) (enters_of Tryz.func68 (by kernel_rfl) rfl) (fun _ _ _ h _ => h) (by omega) (fun x hx a' ea hz' => by have := (hL.hrows x hx).lt a' ea hz'; omega) (fun h0 a' ea => by
    obtain ⟨b, off, e', hb, _⟩ := hL.at h0
    rw [ea] at e'
    obtain rfl := Option.some.inj e'
    simp only
    omega) (fun x hx W hW hE hl => cut1_any hE hl (cell_later hW c0.cell)) hreach hbd (hs.more hB) (hL.more hB))
  have HB := Lib.hid hB
  have HS := Lib.hid hs
  clear hL hs hbd hr hkr hB c0 hz
  go_enter Tryz.func37, Tryz.ntmps37
  go_wp2_with (go_at_call 58; refine HC.out.mono ?_)
  rintro e w1 ⟨vs, va, vc, v, rfl, hvs, hO, hv, _, _, hka⟩
  have hbw := fin_below HB.out hka (Nat.le_refl _)
  have H1 := Lib.hid (And.intro hvs (And.intro hO (And.intro hv (And.intro hbw (HS.out.more hbw).sp))))
  clear hvs hO hv hka hbw hW0
  go_wp2_with (go_at_call 55; refine (Sp.told_any H1.out.2.2.1 w1 H1.out.2.2.2.2).mono ?_)
  rintro e w2 ⟨rfl, hb2⟩
  have H2 := Lib.hid (And.intro (H1.out.2.1.more hb2) (below_more H1.out.2.2.2.1 hb2))
  clear hb2
  go_wp2
  refine bodyPost_ret (results_tmp2 rfl _ _ _) rfl ?_
  exact ⟨vs, va, vc, rfl, H1.out.1, H2.out.1, H2.out.2⟩

set_option maxRecDepth 100000 in
set_option maxHeartbeats 4000000 in
theorem Put_s {s : Sn} {r : Int × List Ob} {kr : Nat} {ao : Option Addr} {len cap : Nat} {nm t : It} {zs : List Ov} (hr : puR (obs zs) nm t = r) (hkr : r.2.length = kr) (htl : t.length ≤ 100000) (hreach : len ≤ 100000) (hbd : ∀ x ∈ zs, Bd x.o) {w : World} (hs : Ev s w) (hL : Objs w ao len cap zs) :
    Calls Tryz.prog 39 #[.slice ao len cap, .string (bs nm), .string (bs t)] w (ResP r kr w) := by
  have hB : Below w.heap.size w (w.alloc (.cells #[.string (bs t)] 9)) := Below.new w _
  have c0 := Boxed.new w 9 (.string (bs t))
  have hz : (w.alloc (.cells #[.string (bs t)] 9)).heap.size = w.heap.size + 1 := by simp
  obtain ⟨W0, hW0⟩ : ∃ W0, (w.alloc (.cells #[.string (bs t)] 9)) = W0 := ⟨_, rfl⟩
  rw [hW0] at hB c0 hz
  have HC := Lib.hid (change_any (F := w.heap.size) (G := fun _ _ => True) (cs := #[.pointer (some ⟨w.heap.size, 0, none⟩)]) (nm := nm) (q := 0) (k := 2) hr hkr (keep_put t) (enters_of Tryz.func71 (by kernel_rfl) rfl) (fun _ _ _ h _ => h) (by omega) (fun x hx a' ea hz' => by have := (hL.hrows x hx).lt a' ea hz'; omega) (fun h0 a' ea => by
    obtain ⟨b, off, e', hb, _⟩ := hL.at h0
    rw [ea] at e'
    obtain rfl := Option.some.inj e'
    simp only
    omega) (fun x hx W hW hE hl => put1_any (F := w.heap.size) (cell_later hW c0.cell) htl (by have := hW.size; omega) hE hl (hbd x hx)) hreach hbd (hs.more hB) (hL.more hB))
  have HB := Lib.hid hB
  have HS := Lib.hid hs
  clear hL hs hbd hr hkr hB c0 hz
  go_enter Tryz.func39, Tryz.ntmps39
  go_wp2_with (go_at_call 58; refine HC.out.mono ?_)
  rintro e w1 ⟨vs, va, vc, v, rfl, hvs, hO, hv, _, _, hka⟩
  have hbw := fin_below HB.out hka (Nat.le_refl _)
  have H1 := Lib.hid (And.intro hvs (And.intro hO (And.intro hv (And.intro hbw (HS.out.more hbw).sp))))
  clear hvs hO hv hka hbw hW0
  go_wp2_with (go_at_call 55; refine (Sp.told_any H1.out.2.2.1 w1 H1.out.2.2.2.2).mono ?_)
  rintro e w2 ⟨rfl, hb2⟩
  have H2 := Lib.hid (And.intro (H1.out.2.1.more hb2) (below_more H1.out.2.2.2.1 hb2))
  clear hb2
  go_wp2
  refine bodyPost_ret (results_tmp2 rfl _ _ _) rfl ?_
  exact ⟨vs, va, vc, rfl, H1.out.1, H2.out.1, H2.out.2⟩

/-- An item, objects, a number. -/
def ResX (t : It) (r : Int × List Ob) (kr : Nat) (w : World) (e : Ending) (w' : World) : Prop := ∃ vs va vc, e = .returned (.tuple #[.string (bs t), .slice va kr vc, .int .i64 r.1]) ∧ obs vs = r.2 ∧ Objs w' va kr vc vs ∧ Below w.heap.size w w'
theorem seen_box {F : Nat} {zs : List Ob} {nm : It} {k : Int} {g : Ob → It} {W0 w1 : World} (c0 : Boxed W0 F 9 (.string (bs []))) (hG : ∀ o, reach zs nm k = some o → Boxed w1 F 9 (.string (bs (g o)))) (hN : reach zs nm k = none → Below W0.heap.size W0 w1) : Boxed w1 F 9 (.string (bs (seenR zs nm k [] g))) := by
  rw [seen_reach]
  cases h : reach zs nm k with
  | none => exact boxed_more c0 (hN h)
  | some o => exact hG o h
set_option maxRecDepth 100000 in
set_option maxHeartbeats 4000000 in
theorem Take_s {s : Sn} {r : Int × List Ob} {kr : Nat} {ao : Option Addr} {len cap : Nat} {nm it : It} {zs : List Ov} (hit : tkX (obs zs) nm = it) (hr : tkR (obs zs) nm = r) (hkr : r.2.length = kr) (hreach : len ≤ 100000) (hbd : ∀ x ∈ zs, Bd x.o) {w : World} (hs : Ev s w) (hL : Objs w ao len cap zs) :
    Calls Tryz.prog 41 #[.slice ao len cap, .string (bs nm)] w (ResX it r kr w) := by
  have hB : Below w.heap.size w (w.alloc (.cells #[.string { data := #[] }] 9)) := Below.new w _
  have c0 := Boxed.new w 9 (.string { data := #[] })
  have hz : (w.alloc (.cells #[.string { data := #[] }] 9)).heap.size = w.heap.size + 1 := by simp
  obtain ⟨W0, hW0⟩ : ∃ W0, (w.alloc (.cells #[.string { data := #[] }] 9)) = W0 := ⟨_, rfl⟩
  rw [hW0] at hB c0 hz
  have HC := Lib.hid (change_any (F := w.heap.size) (G := fun o W => Boxed W w.heap.size 9 (.string (bs (takeX o.m o.l)))) (cs := #[.pointer (some ⟨w.heap.size, 0, none⟩)]) (nm := nm) (q := 0) (k := 2) hr hkr keep_tk (enters_of Tryz.func75 (by kernel_rfl) rfl) (fun _ _ _ h e => boxed_eq h e) (by omega) (fun x hx a' ea hz' => by have := (hL.hrows x hx).lt a' ea hz'; omega) (fun h0 a' ea => by
    obtain ⟨b, off, e', hb, _⟩ := hL.at h0
    rw [ea] at e'
    obtain rfl := Option.some.inj e'
    simp only
    omega) (fun x hx W hW hE hl => take1_any (F := w.heap.size) (boxed_more c0 hW) (by have := hW.size; omega) hE hl (hbd x hx)) hreach hbd (hs.more hB) (hL.more hB))
  have HB := Lib.hid (And.intro hB c0)
  have HS := Lib.hid hs
  have HI := Lib.hid hit
  clear hL hs hbd hr hkr hB c0 hz hit
  go_enter Tryz.func41, Tryz.ntmps41
  go_wp2_with (go_at_call 58; refine HC.out.mono ?_)
  rintro e w1 ⟨vs, va, vc, v, rfl, hvs, hO, hv, hg, hn, hka⟩
  have hbw := fin_below HB.out.1 hka (Nat.le_refl _)
  have hbx := seen_box (g := fun o => takeX o.m o.l) HB.out.2 hg hn
  rw [show seenR (obs zs) nm 2 [] (fun o => takeX o.m o.l) = it from HI.out] at hbx
  have hD : Below w1.heap.size w1 w1.drew := (Below.refl _ w1).drew
  have cb := hbx.cell
  have cb2 := cell_later hD cb
  have H1 := Lib.hid (And.intro hvs (And.intro (hO.more hD) (And.intro hv (And.intro (below_more hbw hD) (HS.out.more (below_more hbw hD)).sp))))
  clear hvs hO hv hka hbw hW0 hg hn hbx hD
  go_wp2
  go_region_held3 (fun w' => w'.cell? ⟨w.heap.size, 0, none⟩ = some (.string (bs it)))
    (first | (with_reducible exact cb2) | (with_reducible exact cell_later hb2 cb2))
    (first | (go_at_call 55; ((with_reducible refine (Sp.told_any H1.out.2.2.1 w1.drew H1.out.2.2.2.2).mono ?_); rintro e w2 ⟨rfl, hb2⟩)))
  all_goals
    have H2 := Lib.hid (And.intro (H1.out.2.1.more hb2) (below_more H1.out.2.2.2.1 hb2))
    clear hb2
    go_wp2
    refine bodyPost_ret (v := .tuple #[.string (bs it), .slice va kr vc, .int .i64 r.1]) (by simp [results, Tryz.results41, go_sem]) rfl ?_
    exact ⟨vs, va, vc, rfl, H1.out.1, H2.out.1, H2.out.2⟩
/-- Bytes, and a number. -/
def ResB (t : It) (c : Int) (w : World) (e : Ending) (w' : World) : Prop := e = .returned (.tuple #[.string (bs t), .int .i64 c]) ∧ Below w.heap.size w w'
set_option maxRecDepth 100000 in
set_option maxHeartbeats 4000000 in
theorem Read_s {s : Sn} {c a n : Int} {ao : Option Addr} {len cap : Nat} {nm it : It} {zs : List Ov} (hit : rdX (obs zs) nm a n = it) (hc : rdE (obs zs) nm a n = c) (hreach : len ≤ 100000) (hbd : ∀ x ∈ zs, Bd x.o) {w : World} (hs : Ev s w) (hL : Objs w ao len cap zs) :
    Calls Tryz.prog 35 #[.slice ao len cap, .string (bs nm), .int .i64 a, .int .i64 n] w (ResB it c w) := by
  have hB0 : Below w.heap.size w ((w.alloc (.cells #[.int .i64 a] 3)).alloc (.cells #[.int .i64 n] 3)) := (Below.new w _).alloc (by simp) _
  have c0 : ((w.alloc (.cells #[.int .i64 a] 3)).alloc (.cells #[.int .i64 n] 3)).cell? ⟨w.heap.size, 0, none⟩ = some (.int .i64 a) := cell_later (Below.new _ _) (by simp)
  have c1 : ((w.alloc (.cells #[.int .i64 a] 3)).alloc (.cells #[.int .i64 n] 3)).cell? ⟨w.heap.size + 1, 0, none⟩ = some (.int .i64 n) := by simp
  have hN := Below.new ((w.alloc (.cells #[.int .i64 a] 3)).alloc (.cells #[.int .i64 n] 3)) (.cells #[.string { data := #[] }] 9)
  have bF := Boxed.new ((w.alloc (.cells #[.int .i64 a] 3)).alloc (.cells #[.int .i64 n] 3)) 9 (.string { data := #[] })
  have hz1 : ((w.alloc (.cells #[.int .i64 a] 3)).alloc (.cells #[.int .i64 n] 3)).heap.size = w.heap.size + 2 := by simp
  rw [hz1] at bF
  have hB := below_more hB0 hN
  have d0 := cell_later hN c0
  have d1 := cell_later hN c1
  have hz : (((w.alloc (.cells #[.int .i64 a] 3)).alloc (.cells #[.int .i64 n] 3)).alloc (.cells #[.string { data := #[] }] 9)).heap.size = w.heap.size + 3 := by simp
  obtain ⟨W0, hW0⟩ : ∃ W0, ((w.alloc (.cells #[.int .i64 a] 3)).alloc (.cells #[.int .i64 n] 3)).alloc (.cells #[.string { data := #[] }] 9) = W0 := ⟨_, rfl⟩
  rw [hW0] at hB d0 d1 hz bF
  have HC := Lib.hid (done_any (F := w.heap.size + 2) (G := fun o W => Boxed W (w.heap.size + 2) 9 (.string (bs (Fil.txt (Fil.readR o.d a n))))) (f := rdF a n) (cs := #[.pointer (some ⟨w.heap.size, 0, none⟩), .pointer (some ⟨w.heap.size + 1, 0, none⟩), .pointer (some ⟨w.heap.size + 2, 0, none⟩)]) (nm := nm) (q := 0) (k := 1) (enters_of Tryz.func65 (by kernel_rfl) rfl) (fun _ _ _ h e => boxed_eq h e) (by omega) (fun x hx W hW hE hl => read1_any (F := w.heap.size + 2) hE hl (cell_later hW d0) (cell_later hW d1) (boxed_more bF hW) (fun b eb hz' => by have := (hL.hrows x hx).lt b eb hz'; omega)) hreach hbd (hs.more hB) (hL.more hB))
  have HB := Lib.hid (And.intro hB bF)
  have HS := Lib.hid hs
  have HI := Lib.hid (And.intro hit hc)
  clear hL hs hbd hc hB bF hz hit d0 d1 c0 c1 hN hB0 hz1
  go_enter Tryz.func35, Tryz.ntmps35
  go_wp2_with (go_at_call 64; refine HC.out.mono ?_)
  rintro e w1 ⟨x', c', p, v, rfl, hv, hc', _, hg, hn, hka⟩
  obtain rfl : c' = c := by rw [← HI.out.2]; exact hc'
  have hve : Sp.ErrIs v c' := by
    rcases hv with ⟨rfl, rfl⟩ | ⟨_, t, u, rfl, h⟩
    · exact .ok
    · exact h
  have hbw := fin_below HB.out.1 hka (by omega)
  have hbx := seen_box (g := fun o => Fil.txt (Fil.readR o.d a n)) HB.out.2 hg hn
  rw [show seenR (obs zs) nm 1 [] (fun o => Fil.txt (Fil.readR o.d a n)) = it from HI.out.1] at hbx
  have hNx := Below.new w1 (.cells #[.string (bs x'.o.n), .int .i64 x'.o.k, .string (bs x'.o.d), .int .i64 x'.o.m, .slice x'.a x'.o.l.length x'.c] 55)
  obtain ⟨W2, hW2⟩ : ∃ W2, w1.alloc (.cells #[.string (bs x'.o.n), .int .i64 x'.o.k, .string (bs x'.o.d), .int .i64 x'.o.m, .slice x'.a x'.o.l.length x'.c] 55) = W2 := ⟨_, rfl⟩
  rw [hW2] at hNx
  have hbw2 := below_more hbw hNx
  have hbx2 := boxed_more hbx hNx
  have hD : Below W2.heap.size W2 W2.drew := (Below.refl _ W2).drew
  have cb := hbx2.cell
  have cb2 := cell_later hD cb
  have H1 := Lib.hid (And.intro hve (And.intro (below_more hbw2 hD) (HS.out.more (below_more hbw2 hD)).sp))
  clear hve hv hka hbw hbw2 hW0 hg hn hbx hbx2 hD hNx hc'
  go_wp2
  go_region_held3 (fun w' => w'.cell? ⟨w.heap.size + 2, 0, none⟩ = some (.string (bs it)))
    (first | (with_reducible exact cb2) | (with_reducible exact cell_later hb2 cb2))
    (first | (go_at_call 55; ((with_reducible refine (Sp.told_any H1.out.1 W2.drew H1.out.2.2).mono ?_); rintro e w2 ⟨rfl, hb2⟩)))
  all_goals
    have H2 := Lib.hid (below_more H1.out.2.1 hb2)
    clear hb2
    go_wp2
    refine bodyPost_ret (results_tmp2 rfl _ _ _) rfl ?_
    exact ⟨rfl, H2.out⟩

end Go.Proofs.YtnbpfbmhheimbaaGreatDoor
