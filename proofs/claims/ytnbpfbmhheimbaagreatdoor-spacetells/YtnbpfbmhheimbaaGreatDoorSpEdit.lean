/- The editor: refuse, changed, emptyRing, create, place, drop. -/
import Derived.Test.YtnbpfbmhheimbaaGreatDoorSpWith
namespace Go.Proofs.YtnbpfbmhheimbaaGreatDoor
open Go.RowKit Go.Proofs.Fld Go.Proofs.Rng Go.Proofs.Spc Go.Shelf Go.Sort

/-- An editor in a box. -/
def Ed (W : World) (B : Nat) (ao : Option Addr) (len cap : Nat) (nm : It) (q : Int) : Prop := W.cell? ⟨B, 0, none⟩ = some (.slice ao len cap) ∧ W.cell? ⟨B, 1, none⟩ = some (.string (bs nm)) ∧ W.cell? ⟨B, 2, none⟩ = some (.int .i64 q)
theorem Ed.new (W : World) (ao : Option Addr) (len cap : Nat) (nm : It) (q : Int) : Ed (W.alloc (.cells #[.slice ao len cap, .string (bs nm), .int .i64 q] 73)) W.heap.size ao len cap nm q := ⟨by simp, by simp, by simp⟩
theorem Ed.more {W W' : World} {B : Nat} {ao : Option Addr} {len cap : Nat} {nm : It} {q : Int} (h : Ed W B ao len cap nm q) (k : Below W.heap.size W W') : Ed W' B ao len cap nm q := ⟨cell_later k h.1, cell_later k h.2.1, cell_later k h.2.2⟩
set_option maxHeartbeats 1000000 in
theorem refuse_any (ao : Option Addr) (len cap : Nat) (nm : It) (q c : Int) (s : ByteArray) (w : World) : Calls Tryz.prog 87 #[.agg #[.slice ao len cap, .string (bs nm), .int .i64 q], .int .i64 c, .string s] w (ValP (.iface 100 (.agg #[.string (bs nm), .iface 95 (.agg #[.int .i64 c, .string s])])) w) := by
  go_enter Tryz.func87, Tryz.ntmps87
  go_wp2
  go_ret
  exact ⟨rfl, Below.new _ _⟩
theorem abt_is (nm : ByteArray) (c : Int) (s : ByteArray) : Sp.ErrIs (.iface 100 (.agg #[.string nm, .iface 95 (.agg #[.int .i64 c, .string s])])) c := .abt nm c s
/-- Objects are told, and an error. -/
def EdP (r : Int × List Ob) (k : Nat) (w : World) (e : Ending) (w' : World) : Prop :=
  ∃ vs va vc v, e = .returned (.tuple #[.slice va k vc, v]) ∧ obs vs = r.2 ∧ Objs w' va k vc vs ∧ Sp.ErrIs v r.1 ∧ Below w.heap.size w w'
theorem edP_no {c : Int} {v : Value} {w w' : World} (h : Sp.ErrIs v c) (hb : Below w.heap.size w w') : EdP (c, []) 0 w (.returned (.tuple #[.slice none 0 0, v])) w' := ⟨[], none, 0, v, rfl, rfl, Objs.nil _, h, hb⟩

theorem chR_long {l : List Ob} {q : Int} {s e : Nat} {os : List Ob} (h : 20 < (withL l s e os).length) : chR l q s e os = (104, []) := by unfold chR; rw [if_pos h]
theorem chR_much {l : List Ob} {q : Int} {s e : Nat} {os : List Ob} (h : ¬ 20 < (withL l s e os).length) (h1 : q < costS (withL l s e os)) (h2 : costS l < costS (withL l s e os)) : chR l q s e os = (104, []) := by unfold chR; rw [if_neg h, if_pos ⟨h1, h2⟩]
theorem chR_good {l : List Ob} {q : Int} {s e : Nat} {os : List Ob} (h : ¬ 20 < (withL l s e os).length) (h1 : ¬ (q < costS (withL l s e os) ∧ costS l < costS (withL l s e os))) : chR l q s e os = (0, withL l s e os) := by unfold chR; rw [if_neg h, if_neg h1]

set_option maxRecDepth 100000 in
set_option maxHeartbeats 4000000 in
theorem changed_any {r : Int × List Ob} {kr k : Nat} {ao : Option Addr} {len cap : Nat} {nm : It} {q : Int} {s e : Nat} {zs : List Ov} {os : List Ob} {pv : Value} (hr : chR (obs zs) q s e os = r) (hkr : r.2.length = kr) (hreach : len ≤ 100000) (hk : k ≤ 200000) (hf : ∀ x ∈ zs, fair x.o) (hf2 : ∀ x ∈ withL (obs zs) s e os, fair x) {w : World} (hL : Objs w ao len cap zs)
    (hW : ∀ W, Below w.heap.size w W → Calls Tryz.prog 107 #[.slice ao len cap, .int .i64 (s : Int), .int .i64 (e : Int), pv] W (SeqO (withL (obs zs) s e os) k W)) :
    Calls Tryz.prog 90 #[.agg #[.slice ao len cap, .string (bs nm), .int .i64 q], .int .i64 (s : Int), .int .i64 (e : Int), pv] w (EdP r kr w) := by
  have hB := Below.new w (.cells #[.slice ao len cap, .string (bs nm), .int .i64 q] 73)
  have HC := Lib.hid (hW _ hB)
  have HE := Lib.hid (And.intro hB (And.intro (Ed.new w ao len cap nm q) (And.intro (hL.more hB) (And.intro hf hf2))))
  have HR := Lib.hid (And.intro hr hkr)
  obtain ⟨e0, e1, e2⟩ := Ed.new w ao len cap nm q
  clear hW hL hB hf hf2 hr hkr
  go_enter Tryz.func90, Tryz.ntmps90
  go_wp2_with (go_at_call 107; refine HC.out.mono ?_)
  rintro e1' w1 ⟨vs, va, vc, rfl, hvs, hO, hb1⟩
  have hfv : ∀ x ∈ vs, fair x.o := fun x hx => HE.out.2.2.2.2 x.o (hvs ▸ mem_obs hx)
  have hlv : (withL (obs zs) s e os).length = k := by rw [← hvs, obs_length, hO.hlen]
  have H1 := Lib.hid (And.intro hvs (And.intro hO (And.intro (below_more HE.out.1 hb1) (And.intro hfv hlv))))
  have E1 := Lib.hid (HE.out.2.1.more hb1)
  have L1 := Lib.hid (HE.out.2.2.1.more hb1)
  clear hvs hO hb1 hfv hlv
  go_wp2_with (go_at_call 47; refine (costS_any va k vc vs (by omega) H1.out.2.2.2.1 w1 H1.out.2.1).mono ?_)
  rintro e2' w2 ⟨rfl, hb2⟩
  rw [H1.out.1]
  have H2 := Lib.hid (And.intro (H1.out.2.1.more hb2) (below_more H1.out.2.2.1 hb2))
  have E2 := Lib.hid (E1.out.more hb2)
  have L2 := Lib.hid (L1.out.more hb2)
  obtain ⟨f0, f1, f2⟩ := E2.out
  obtain ⟨sum, hsum⟩ : ∃ sum, costS (withL (obs zs) s e os) = sum := ⟨_, rfl⟩
  rw [hsum]
  have HS := Lib.hid hsum
  clear hb2 e0 e1 e2 hsum
  by_cases h20 : 20 < k
  · have hd : decide ((k : Int) > 20) = true := decide_eq_true (by omega)
    have HX := Lib.hid (show r = (104, []) by rw [← HR.out.1]; exact chR_long (by rw [H1.out.2.2.2.2]; exact h20))
    have HK := Lib.hid (show kr = 0 by rw [← HR.out.2, HX.out]; rfl)
    clear h20
    go_wp2_with (go_at_call 87; refine (refuse_any ao len cap nm q 104 _ w2).mono ?_)
    rintro e3 w3 ⟨rfl, hb3⟩
    have HF := Lib.hid (below_more H2.out.2 hb3)
    clear hb3
    go_wp2
    refine bodyPost_ret (results_tmp2 rfl _ _ _) rfl ?_
    rw [HX.out, HK.out]
    exact edP_no (abt_is _ _ _) HF.out
  · have hd : decide ((k : Int) > 20) = false := decide_eq_false (by omega)
    by_cases hq : q < sum
    · have hd2 : decide (sum > q) = true := decide_eq_true hq
      by_cases hc : costS (obs zs) < sum
      · have hd3 : decide (sum > costS (obs zs)) = true := decide_eq_true hc
        have HX := Lib.hid (show r = (104, []) by rw [← HR.out.1]; exact chR_much (by rw [H1.out.2.2.2.2]; exact h20) (by rw [HS.out]; exact hq) (by rw [HS.out]; exact hc))
        have HK := Lib.hid (show kr = 0 by rw [← HR.out.2, HX.out]; rfl)
        clear h20 hq hc
        go_wp2_with (go_at_call 47; refine (costS_any ao len cap zs (by omega) HE.out.2.2.2.1 w2 L2.out).mono ?_)
        rintro e3 w3 ⟨rfl, hb3⟩
        have HF := Lib.hid (below_more H2.out.2 hb3)
        obtain ⟨g0, g1, g2⟩ := E2.out.more hb3
        clear hb3 f0 f1 f2
        go_wp2_with (go_at_call 87; refine (refuse_any ao len cap nm q 104 _ w3).mono ?_)
        rintro e4 w4 ⟨rfl, hb4⟩
        have HF4 := Lib.hid (below_more HF.out hb4)
        clear hb4
        go_wp2
        refine bodyPost_ret (results_tmp2 rfl _ _ _) rfl ?_
        rw [HX.out, HK.out]
        exact edP_no (abt_is _ _ _) HF4.out
      · have hd3 : decide (sum > costS (obs zs)) = false := decide_eq_false (by omega)
        have HX := Lib.hid (show r = (0, withL (obs zs) s e os) by rw [← HR.out.1]; exact chR_good (by rw [H1.out.2.2.2.2]; exact h20) (by rw [HS.out]; omega))
        have HK := Lib.hid (show kr = k by rw [← HR.out.2, HX.out]; exact H1.out.2.2.2.2)
        clear h20 hq hc
        go_wp2_with (go_at_call 47; refine (costS_any ao len cap zs (by omega) HE.out.2.2.2.1 w2 L2.out).mono ?_)
        rintro e3 w3 ⟨rfl, hb3⟩
        have HF := Lib.hid (And.intro (H2.out.1.more hb3) (below_more H2.out.2 hb3))
        clear hb3 f0 f1 f2
        go_wp2
        refine bodyPost_ret (results_tmp2 rfl _ _ _) rfl ?_
        rw [HX.out, HK.out]
        exact ⟨vs, va, vc, _, rfl, H1.out.1, HF.out.1, .ok, HF.out.2⟩
    · have hd2 : decide (sum > q) = false := decide_eq_false hq
      have HX := Lib.hid (show r = (0, withL (obs zs) s e os) by rw [← HR.out.1]; exact chR_good (by rw [H1.out.2.2.2.2]; exact h20) (by rw [HS.out]; omega))
      have HK := Lib.hid (show kr = k by rw [← HR.out.2, HX.out]; exact H1.out.2.2.2.2)
      clear h20 hq
      go_wp2
      refine bodyPost_ret (results_tmp2 rfl _ _ _) rfl ?_
      rw [HX.out, HK.out]
      exact ⟨vs, va, vc, _, rfl, H1.out.1, H2.out.1, .ok, H2.out.2⟩

/-- An empty ring is told, or none. -/
def EmP (c m : Int) (w : World) (e : Ending) (w' : World) : Prop := ∃ va vc, e = .returned (.tuple #[.agg #[.int .i64 m, .slice va 0 vc], .int .i64 c]) ∧ Txs w' va 0 vc [] ∧ Below w.heap.size w w'
def emE (k m : Int) : Int := if (k = 1 ∧ m ≠ 0) ∨ m < 0 ∨ 2000 < m then 2 else 0
theorem new_e (m : Int) : errN (newE m) = if m < 0 ∨ 2000 < m then 2 else 0 := by
  unfold newE
  rw [right_nil]
  by_cases h : m < 0 ∨ 2000 < m
  · rw [if_pos h]
    by_cases h0 : 0 ≤ m
    · have : ¬ m ≤ 2000 := by omega
      simp [h0, this, errN]
    · simp [h0, errN]
  · rw [if_neg h]
    have h0 : 0 ≤ m := by omega
    have h1 : m ≤ 2000 := by omega
    simp [h0, h1, errN]
theorem new_m {m : Int} (h : ¬ (m < 0 ∨ 2000 < m)) : newM m = m := by
  unfold newM
  rw [right_nil]
  have h0 : 0 ≤ m := by omega
  have h1 : m ≤ 2000 := by omega
  simp [h0, h1]
set_option maxRecDepth 100000 in
set_option maxHeartbeats 2000000 in
theorem emptyRing_any {s : Sn} (k m : Int) (w : World) (hs : Ev s w) : Calls Tryz.prog 88 #[.int .i64 k, .int .i64 m] w (fun e w' => ∃ m', (emE k m = 0 → m' = m) ∧ EmP (emE k m) m' w e w') := by
  have hB := Below.new w (.cells #[.int .i64 0, .slice none 0 0] 53)
  have hR := R2.new w (.int .i64 0) (.slice none 0 0) 53
  by_cases h1 : k = 1 ∧ m ≠ 0
  · have q1 : (k == 1) = true := by rw [beq_iff_eq]; exact h1.1
    have q2 : (m == 0) = false := by rw [beq_eq_false_iff_ne]; exact h1.2
    have q3 : ¬ m = 0 := h1.2
    have HX := Lib.hid (show emE k m = 2 by unfold emE; rw [if_pos (.inl h1)])
    have HB := Lib.hid hB
    obtain ⟨c0, c1, f0, f1⟩ := hR
    clear h1 hs hB
    go_enter Tryz.func88, Tryz.ntmps88
    go_wp2
    refine bodyPost_ret (v := .tuple #[.agg #[.int .i64 0, .slice none 0 0], .int .i64 2]) (by simp [results, Tryz.results88, go_sem]) rfl ?_
    rw [HX.out]
    exact ⟨0, fun h => absurd h (by decide), none, 0, rfl, Txs.nil _, HB.out⟩
  · have HN := Lib.hid (New_q (m := m) (pm := newM m) rfl (new_e m) (hs.sent.more hB))
    have HX := Lib.hid (show emE k m = if m < 0 ∨ 2000 < m then 2 else 0 by
      unfold emE
      by_cases h : m < 0 ∨ 2000 < m
      · rw [if_pos h, if_pos (.inr h)]
      · rw [if_neg h, if_neg (by rintro (q | q); exact h1 q; exact h q)])
    have HM := Lib.hid (fun h => new_m (m := m) h)
    have HP := Lib.hid (And.intro hB hR)
    have q : (k == 1) = false ∨ ((k == 1) = true ∧ (m == 0) = true) := by
      by_cases hk : k = 1
      · exact .inr ⟨by rw [beq_iff_eq]; exact hk, by rw [beq_iff_eq]; omega⟩
      · exact .inl (by rw [beq_eq_false_iff_ne]; exact hk)
    obtain ⟨c, hc⟩ : ∃ c : Int, (if m < 0 ∨ 2000 < m then (2 : Int) else 0) = c := ⟨_, rfl⟩
    have HC := Lib.hid hc
    rw [hc] at HN HX
    clear h1 hB hR hs hc
    have fin : ∀ (e : Ending) (w1 : World), TellR (newM m) [] 0 c (w.alloc (.cells #[.int .i64 0, .slice none 0 0] 53)) e w1 → ∃ va vc, e = .returned (.tuple #[.agg #[.int .i64 (newM m), .slice va 0 vc], .int .i64 c]) ∧ R2 w1 w.heap.size (.int .i64 0) (.slice none 0 0) ∧ Below w.heap.size w ((w1.setCell ⟨w.heap.size, 0, none⟩ (.int .i64 (newM m))).setCell ⟨w.heap.size, 1, none⟩ (.slice va 0 vc)) ∧ Txs ((w1.setCell ⟨w.heap.size, 0, none⟩ (.int .i64 (newM m))).setCell ⟨w.heap.size, 1, none⟩ (.slice va 0 vc)) va 0 vc [] := by
      rintro e w1 ⟨va, vc, rfl, ⟨ht, ho⟩, hb⟩
      have hne : ∀ a, va = some a → a.block ≠ w.heap.size := fun a ea => OwnT.apart ho (by simp) a ea
      exact ⟨va, vc, rfl, HP.out.2.more hb, set2B (below_more HP.out.1 hb) (Nat.le_refl _) _ _, (ht.set hne).set hne⟩
    have HF := Lib.hid fin
    clear fin
    have last : ∀ va vc w2, Txs w2 va 0 vc [] → Below w.heap.size w w2 → ∃ m', (emE k m = 0 → m' = m) ∧ EmP (emE k m) m' w (.returned (.tuple #[.agg #[.int .i64 (newM m), .slice va 0 vc], .int .i64 c])) w2 := by
      intro va vc w2 ht hb
      refine ⟨newM m, fun h => HM.out fun q => ?_, ?_⟩
      · rw [HX.out, ← HC.out, if_pos q] at h
        cases h
      · rw [HX.out]
        exact ⟨va, vc, rfl, ht, hb⟩
    have HL := Lib.hid last
    clear last
    rcases q with q1 | ⟨q1, q2⟩
    · go_enter Tryz.func88, Tryz.ntmps88
      go_wp2_with (go_at_call 105; refine HN.out.mono ?_)
      intro e w1 h
      obtain ⟨va, vc, rfl, hR, hB2, hT⟩ := HF.out e w1 h
      have HG := Lib.hid (And.intro hB2 hT)
      obtain ⟨c0, c1, f0, f1⟩ := hR
      obtain ⟨y0, y1, _, _⟩ := R2.set (W := w1) (b := w.heap.size) ⟨c0, c1, f0, f1⟩ (.int .i64 (newM m)) (.slice va 0 vc)
      clear h hB2 hT
      go_wp2
      generalize hWF : (w1.setCell ⟨w.heap.size, 0, none⟩ (.int .i64 (newM m))).setCell ⟨w.heap.size, 1, none⟩ (.slice va 0 vc) = WF at y0 y1 HG ⊢
      refine bodyPost_ret (v := .tuple #[.agg #[.int .i64 (newM m), .slice va 0 vc], .int .i64 c]) (by simp [results, Tryz.results88, go_sem, y0, y1]) rfl ?_
      exact HL.out _ _ _ HG.out.2 HG.out.1
    · have q3 : m = 0 := by rwa [beq_iff_eq] at q2
      subst q3
      clear q2
      go_enter Tryz.func88, Tryz.ntmps88
      go_wp2_with (go_at_call 105; refine HN.out.mono ?_)
      intro e w1 h
      obtain ⟨va, vc, rfl, hR, hB2, hT⟩ := HF.out e w1 h
      have HG := Lib.hid (And.intro hB2 hT)
      obtain ⟨c0, c1, f0, f1⟩ := hR
      obtain ⟨y0, y1, _, _⟩ := R2.set (W := w1) (b := w.heap.size) ⟨c0, c1, f0, f1⟩ (.int .i64 (newM 0)) (.slice va 0 vc)
      clear h hB2 hT
      go_wp2
      generalize hWF : (w1.setCell ⟨w.heap.size, 0, none⟩ (.int .i64 (newM 0))).setCell ⟨w.heap.size, 1, none⟩ (.slice va 0 vc) = WF at y0 y1 HG ⊢
      refine bodyPost_ret (v := .tuple #[.agg #[.int .i64 (newM 0), .slice va 0 vc], .int .i64 c]) (by simp [results, Tryz.results88, go_sem, y0, y1]) rfl ?_
      exact HL.out _ _ _ HG.out.2 HG.out.1

end Go.Proofs.YtnbpfbmhheimbaaGreatDoor
