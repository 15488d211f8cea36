/- The document's All. -/
import Derived.Test.YtbdhagilmdmpdaaDoorRgRef2
import Derived.Test.YtbdhagilmdmpdaaDoorLawOrder
import Derived.Deep.CutRange
import Derived.Deep.RegionWith
namespace Go.Proofs.Rng
theorem put_fit {m : Int} {zs ls : List It} {i : Nat} {x : It} (hr : rightR m zs = true) (hf : FitK m (takes zs) ls i) (hi : i ≤ ls.length) : (putE m (zs ++ ls.take i) x = 0 ↔ fitsB m (takes zs + takes (ls.take i)) x = true) := by
  have h := right_all hr hf hi
  rw [putE_iff, takes_append]
  unfold fitsB
  simp only [Bool.and_eq_true, decide_eq_true_eq]
  constructor
  · rintro ⟨_, a, b⟩; exact ⟨a, b⟩
  · rintro ⟨a, b⟩; exact ⟨h, a, b⟩
end Go.Proofs.Rng
namespace Go.Proofs.YtbdhagilmdmpdaaDoor
open Go.RowKit Go.Proofs.Fld Go.Proofs.Rng Go.Shelf Go.Sort

/-- A new variable, made ahead of a call or behind it, takes the ring that the call tells. -/
structure NvI (V wx : World) (Bn : Nat) (pm : Int) (va : Option Addr) (k vc : Nat) (pl : List It) : Prop where
  b : Below V.heap.size V wx
  v : Rv wx Bn pm va k vc pl
  ge : V.heap.size ≤ Bn
  wi : ∀ a, va = some a → V.heap.size ≤ a.block
theorem OwnT.inside {n0 : Nat} {W : World} {va : Option Addr} {k c : Nat} {l : List It} (h : OwnT n0 W (.slice va k c) l) : ∀ a, va = some a → n0 ≤ a.block := by
  intro a e
  rcases h.2 with ⟨e', _⟩ | ⟨g, cap, cur, e', hg, hb, _⟩
  · injection e' with e1
    rw [e1] at e
    cases e
  · injection e' with e1
    rw [e1] at e
    obtain rfl := Option.some.inj e
    exact hg
theorem NvI.late {V w9 : World} {pm : Int} {va : Option Addr} {k vc : Nat} {pl : List It} (ht : Txs w9 va k vc pl) (ho : OwnT V.drew.heap.size w9 (.slice va k vc) pl) (hb : Below V.drew.heap.size V.drew w9) : NvI V (w9.alloc (.cells #[.int .i64 pm, .slice va k vc] 24)) w9.heap.size pm va k vc pl := by
  have hD : Below V.heap.size V V.drew := (Below.refl _ V).drew
  have hz0 : V.drew.heap.size = V.heap.size := rfl
  refine ⟨below_more (below_more hD hb) (Below.new _ _), Rv.new _ _ _ _ _ _ ht, ?_, fun a e => ?_⟩
  · have := hb.size
    omega
  · have := ho.inside a e
    omega
theorem NvI.early {V w9 : World} {pm : Int} {va : Option Addr} {k vc : Nat} {pl : List It} (ht : Txs w9 va k vc pl) (ho : OwnT ((V.alloc (.cells #[.int .i64 0, .slice none 0 0] 24)).drew).heap.size w9 (.slice va k vc) pl) (hb : Below ((V.alloc (.cells #[.int .i64 0, .slice none 0 0] 24)).drew).heap.size ((V.alloc (.cells #[.int .i64 0, .slice none 0 0] 24)).drew) w9) : NvI V ((w9.setCell ⟨V.heap.size, 0, none⟩ (.int .i64 pm)).setCell ⟨V.heap.size, 1, none⟩ (.slice va k vc)) V.heap.size pm va k vc pl := by
  have hN := Below.new V (.cells #[.int .i64 0, .slice none 0 0] 24)
  have hD : Below (V.alloc (.cells #[.int .i64 0, .slice none 0 0] 24)).heap.size (V.alloc (.cells #[.int .i64 0, .slice none 0 0] 24)) ((V.alloc (.cells #[.int .i64 0, .slice none 0 0] 24)).drew) := (Below.refl _ _).drew
  have b := below_more (below_more hN hD) hb
  have hz0 : ((V.alloc (.cells #[.int .i64 0, .slice none 0 0] 24)).drew).heap.size = V.heap.size + 1 := by simp [World.drew]
  rw [hz0] at ho
  have r9 := (R2.new V (.int .i64 0) (.slice none 0 0) 24).more (below_more hD hb)
  refine ⟨set2B b (Nat.le_refl _) _ _, Rv.set r9 ht (ho.apart (Nat.lt_succ_self _)), Nat.le_refl _, fun a e => ?_⟩
  have := ho.inside a e
  omega
/-- The same, whatever is known of the row. -/
structure NvJ (V wx : World) (Bn : Nat) (pm : Int) (va : Option Addr) (k vc : Nat) (pl : List It) : Prop where
  b : Below V.heap.size V wx
  v : Rv wx Bn pm va k vc pl
theorem NvJ.late {V U w9 : World} {pm : Int} {va : Option Addr} {k vc : Nat} {pl : List It} (hU : Below V.heap.size V U) (ht : Txs w9 va k vc pl) (hb : Below U.heap.size U w9) : NvJ V (w9.alloc (.cells #[.int .i64 pm, .slice va k vc] 24)) w9.heap.size pm va k vc pl :=
  ⟨below_more (below_more hU hb) (Below.new _ _), Rv.new _ _ _ _ _ _ ht⟩
theorem NvJ.early {V U U2 w9 : World} {pm : Int} {va : Option Addr} {k vc : Nat} {pl : List It} (hU : Below V.heap.size V U) (h2 : Below (U.alloc (.cells #[.int .i64 0, .slice none 0 0] 24)).heap.size (U.alloc (.cells #[.int .i64 0, .slice none 0 0] 24)) U2) (ht : Txs w9 va k vc pl) (hb : Below U2.heap.size U2 w9) (hap : 0 < k → ∀ a, va = some a → a.block ≠ U.heap.size) : NvJ V ((w9.setCell ⟨U.heap.size, 0, none⟩ (.int .i64 pm)).setCell ⟨U.heap.size, 1, none⟩ (.slice va k vc)) U.heap.size pm va k vc pl := by
  have hN := Below.new U (.cells #[.int .i64 0, .slice none 0 0] 24)
  have r9 := (R2.new U (.int .i64 0) (.slice none 0 0) 24).more (below_more h2 hb)
  exact ⟨set2B (below_more hU (below_more (below_more hN h2) hb)) hU.size _ _, r9.set _ _, ht.set2 hap⟩
theorem own_apart {U U2 w9 : World} {va : Option Addr} {k c : Nat} {l : List It} (h2 : Below (U.alloc (.cells #[.int .i64 0, .slice none 0 0] 24)).heap.size (U.alloc (.cells #[.int .i64 0, .slice none 0 0] 24)) U2) (ho : OwnT U2.heap.size w9 (.slice va k c) l) : 0 < k → ∀ a, va = some a → a.block ≠ U.heap.size := fun _ a e q => by
  have h3 := ho.inside a e
  have h4 := h2.size
  simp at h4
  omega
theorem or_apart {V U U2 : World} {ra va : Option Addr} {rk rc k : Nat} {l : List It} (hV : V.heap.size ≤ U.heap.size) (h2 : Below (U.alloc (.cells #[.int .i64 0, .slice none 0 0] 24)).heap.size (U.alloc (.cells #[.int .i64 0, .slice none 0 0] 24)) U2) (hr : Txs V ra rk rc l) (h : 0 < k → (va = ra ∧ k = rk) ∨ ∀ a, va = some a → U2.heap.size ≤ a.block) : 0 < k → ∀ a, va = some a → a.block ≠ U.heap.size := fun hp a e q => by
  have h4 := h2.size
  simp at h4
  rcases h hp with h5 | h5
  · have := hr.below (h5.2 ▸ hp) a (h5.1 ▸ e)
    omega
  · have := h5 a e
    omega
/-- What the document's All tells. -/
def AllP (ao : Option Addr) (len : Nat) (m : Int) (l : List It) (k n : Nat) (c : Int) (w : World) (e : Ending) (w' : World) : Prop :=
  ∃ va vc, e = .returned (.tuple #[.agg #[.int .i64 m, .slice va k vc], .int .i64 (n : Int), .int .i64 c]) ∧ (Txs w' va k vc l ∧ (0 < k → (va = ao ∧ k = len) ∨ ∀ a, va = some a → w.heap.size ≤ a.block)) ∧ Below w.heap.size w w'
/-- All between two rounds. -/
structure AlI (w0 wr : World) (m : Int) (ao qa bo : Option Addr) (qc len kl kc i : Nat) (zs ls : List It) : Prop where
  d : Below w0.heap.size w0 wr
  r : Rv wr w0.heap.size m qa (len + i) qc (zs ++ ls.take i)
  z : R2 wr (w0.heap.size + 1) (.int .i64 0) (.slice none 0 0)
  l : Txs wr bo kl kc ls
  fit : FitK m (takes zs) ls i
  ap : 0 < len + i → ∀ a, qa = some a → a.block ≠ w0.heap.size + 1
  qo : (qa = ao ∧ i = 0) ∨ ∀ a, qa = some a → w0.heap.size ≤ a.block

set_option maxRecDepth 100000 in
set_option maxHeartbeats 4000000 in
theorem RAll_q {m : Int} {ao bo : Option Addr} {len cap kl kc : Nat} {zs ls : List It} {pm : Int} {pl : List It} {pn k : Nat} {c : Int} (hreach : len ≤ 100000) (hsum : takes zs ≤ 100000) (hr2 : kl ≤ 100000) (hs2 : takes ls ≤ 800000) (hpm : allM m zs = pm) (hpl : allL m zs ls = pl) (hpn : allN m zs ls = pn) (hc : errN (allE m zs) = c) (hk : pl.length = k) {w : World} (hL : Txs w ao len cap zs) (hM : Txs w bo kl kc ls) :
    Calls Tryd.prog 26 #[.agg #[.int .i64 m, .slice ao len cap], .slice bo kl kc] w (AllP ao len pm pl k pn c w) := by
  have hB1 := Below.new w (.cells #[.int .i64 m, .slice ao len cap] 24)
  have hN2 := Below.new (w.alloc (.cells #[.int .i64 m, .slice ao len cap] 24)) (.cells #[.int .i64 0, .slice none 0 0] 24)
  have hB2 := below_more hB1 hN2
  have R := (Rv.new w m ao len cap zs hL).more hN2
  have r2 := R2.new (w.alloc (.cells #[.int .i64 m, .slice ao len cap] 24)) (.int .i64 0) (.slice none 0 0) 24
  rw [World.size_alloc] at r2
  obtain ⟨W0, hW0⟩ : ∃ W0, (w.alloc (.cells #[.int .i64 m, .slice ao len cap] 24)).alloc (.cells #[.int .i64 0, .slice none 0 0] 24) = W0 := ⟨_, rfl⟩
  rw [hW0] at hB2 R r2
  have HX := Lib.hid (And.intro R (And.intro r2 (And.intro hB2 (hM.more hB2))))
  have HMB := Lib.hid (show 0 < kl → ∀ a, bo = some a → a.block ≠ w.heap.size from fun hp a e q => by have := hM.below hp a e; omega)
  have HLB := Lib.hid (show 0 < len → ∀ a, ao = some a → a.block < w.heap.size from hL.below)
  have c0 := R.r.c0
  have c1 := R.r.c1
  have hzl := hL.hlen
  have hll := hM.hlen
  have HW := Lib.hid (And.intro hpm (And.intro hpl (And.intro hpn (And.intro hc hk))))
  clear hB1 hB2 hN2 r2 hL R hM hpm hpl hpn hc hk
  have hsum6 : takes zs ≤ 1000000 := by omega
  have hr6 : len ≤ 1000000 := by omega
  go_enter Tryd.func26, Tryd.ntmps26
  cases hr : rightR m zs with
  | false =>
    obtain ⟨h1, h2, h3, h4, h5⟩ := HW.out
    unfold allM at h1
    unfold allL at h2
    unfold allN at h3
    unfold allE at h4
    rw [hr] at h1 h2 h3 h4
    simp only [Bool.false_eq_true, if_false] at h1 h2 h3 h4
    subst h1 h2 h3 h5
    obtain rfl : (2 : Int) = c := h4
    have HR := Lib.hid hr
    clear hr
    go_wp2_with (go_at_call 20; refine (RRight_p hr6 hsum6 HR.out HX.out.1.t).mono ?_)
    rintro e w1 ⟨rfl, hb⟩
    obtain ⟨y0, y1, _, _⟩ := (HX.out.2.1.more hb).set (.int .i64 0) (.slice none 0 0)
    obtain ⟨d0, d1, f0, f1⟩ := HX.out.2.1.more hb
    have HB3 := Lib.hid (set2B (below_more HX.out.2.2.1 hb) (b := w.heap.size + 1) (by omega) (.int .i64 0) (.slice none 0 0))
    clear hb
    go_wp2
    generalize hWF : ((w1.setCell ⟨w.heap.size + 1, 0, none⟩ (.int .i64 0)).setCell ⟨w.heap.size + 1, 1, none⟩ (.slice none 0 0)) = WF at y0 y1 HB3 ⊢
    refine bodyPost_ret (v := .tuple #[.agg #[.int .i64 0, .slice none 0 0], .int .i64 0, .int .i64 2]) (by simp [results, Tryd.results26, go_sem, y0, y1]) rfl ?_
    exact ⟨none, 0, rfl, ⟨Txs.nil _, fun h => absurd h (by simp)⟩, HB3.out⟩
  | true =>
    obtain ⟨h1, h2, h3, h4, h5⟩ := HW.out
    unfold allM at h1
    unfold allL at h2
    unfold allN at h3
    unfold allE at h4
    rw [hr] at h1 h2 h3 h4
    simp only [if_true] at h1 h2 h3 h4
    subst h1
    obtain rfl : (0 : Int) = c := h4
    rw [h3] at h2
    have HV := Lib.hid (And.intro h2 (And.intro h3 h5))
    have HR := Lib.hid hr
    clear hr h2 h3 h5 HW
    go_wp2_with (go_at_call 20; refine (RRight_p hr6 hsum6 HR.out HX.out.1.t).mono ?_)
    rintro e w1 ⟨rfl, hb⟩
    have HI := Lib.hid (show AlI w w1 m ao ao bo cap len kl kc 0 zs ls from ⟨below_more HX.out.2.2.1 hb, by
      have := HX.out.1.more hb
      rw [List.take_zero, List.append_nil, Nat.add_zero]
      exact this, HX.out.2.1.more hb, HX.out.2.2.2.more hb, FitK.zero _ _ _, fun hp a e q => by have := HLB.out (by omega) a e; omega, .inl ⟨rfl, rfl⟩⟩)
    clear hb c0 c1 HX
    go_wp2
    go_loopw [7] (fun v wr => ∃ (i : Nat) (qa : Option Addr) (qc : Nat), i ≤ kl ∧ v = .int .i64 i ∧ Hid (AlI w wr m ao qa bo qc len kl kc i zs ls)) (fun v _ => kl - (intOf v).toNat)
    case atStart => exact ⟨0, ao, cap, Nat.zero_le _, rfl, HI.out⟩
    case round =>
      obtain ⟨i, qa, qc, hi, rfl, HJ⟩ := hrel
      clear HI
      by_cases hlt : i < kl
      · obtain ⟨x, hx⟩ : ∃ x, ls[i]? = some x := ⟨_, List.getElem?_eq_getElem (by rw [hll]; exact hlt)⟩
        obtain ⟨b, off, rfl, hbl, hcs⟩ := HJ.out.l.at (by omega)
        have i0 := hcs i x hx
        have hd1 : decide ((i : Int) < (kl : Int)) = true := decide_eq_true (by omega)
        have htm := takes_mem hx
        obtain ⟨qs, hqs⟩ : ∃ qs, zs ++ ls.take i = qs := ⟨_, rfl⟩
        have hqt : takes qs ≤ 1000000 := by rw [← hqs, takes_append]; omega
        have hxl : x.length ≤ 900000 := by omega
        have hq6 : len + i ≤ 1000000 := by omega
        have hpf := put_fit (x := x) HR.out HJ.out.fit (by omega)
        rw [hqs] at hpf
        obtain ⟨am, ham⟩ : ∃ v, putM m qs x = v := ⟨_, rfl⟩
        obtain ⟨al, hal⟩ : ∃ v, putL m qs x = v := ⟨_, rfl⟩
        obtain ⟨ec, hec⟩ : ∃ v, errN (putE m qs x) = v := ⟨_, rfl⟩
        obtain ⟨ak, hak⟩ : ∃ v, al.length = v := ⟨_, rfl⟩
        have HQ := Lib.hid (And.intro ham (And.intro hal (And.intro hec (And.intro hak (And.intro hpf (And.intro hqs hx))))))
        have R1 : Rv wr w.heap.size m qa (len + i) qc qs := hqs ▸ HJ.out.r
        obtain ⟨qk, hqk⟩ : ∃ qk, len + i = qk := ⟨_, rfl⟩
        rw [hqk] at R1 hq6
        have HRV := Lib.hid R1
        have HQK := Lib.hid hqk
        have c0 := R1.r.c0
        have c1 := R1.r.c1
        have c0a : ∀ o, (wr.alloc o).cell? ⟨w.heap.size, 0, none⟩ = some (.int .i64 m) := fun o => cell_later (Below.new _ _) c0
        have c1a : ∀ o, (wr.alloc o).cell? ⟨w.heap.size, 1, none⟩ = some (.slice qa qk qc) := fun o => cell_later (Below.new _ _) c1
        have i0a : ∀ o, (wr.alloc o).cell? ⟨b, off + i, none⟩ = some (.string (bs x)) := fun o => cell_later (Below.new _ _) i0
        have HPl := Lib.hid (RPut_q (w := wr.drew) hxl hq6 hqt ham hal hec hak (R1.more (Below.refl _ _).drew).t)
        have HPa := Lib.hid (RPut_q (w := (wr.alloc (.cells #[.int .i64 0, .slice none 0 0] 24)).drew) hxl hq6 hqt ham hal hec hak (R1.more (Below.new _ _).drew).t)
        have HQ9 := Lib.hid (fun w9 (hb : Below ((wr.alloc (.cells #[.int .i64 0, .slice none 0 0] 24)).drew).heap.size ((wr.alloc (.cells #[.int .i64 0, .slice none 0 0] 24)).drew) w9) => (R2.new wr (.int .i64 0) (.slice none 0 0) 24).more (below_more ((Below.refl _ (wr.alloc (.cells #[.int .i64 0, .slice none 0 0] 24))).drew) hb))
        clear hcs hx htm hpf ham hal hec hak hqs R1 hqk
        go_upto_region 6 with fail
        go_cut [8, 9] from 14 to 33 (fun p e wx => ∃ (Bn : Nat) (va : Option Addr) (vc : Nat), p = .pointer (some ⟨Bn, 0, none⟩) ∧ e = .int .i64 ec ∧ Hid (NvI wr wx Bn am va ak vc al))
        case first =>
          go_region_with (first | (go_at_call 15; (with_reducible refine HPa.out.mono ?_); rintro e w9 ⟨va9, vc9, rfl, ⟨ht9, ho9⟩, hb9⟩; obtain ⟨e0, e1, g0, g1⟩ := HQ9.out _ hb9) | (go_at_call 15; (with_reducible refine HPl.out.mono ?_); rintro e w9 ⟨va9, vc9, rfl, ⟨ht9, ho9⟩, hb9⟩))
          all_goals go_wp2_with fail
          all_goals go_meet
          all_goals first | exact ⟨_, _, _, rfl, rfl, NvI.late ht9 ho9 hb9⟩ | exact ⟨_, _, _, rfl, rfl, NvI.early ht9 ho9 hb9⟩
        case rest =>
          obtain ⟨Bn, va, vc, rfl, rfl, HN⟩ := hcut
          clear c0 c1 c0a c1a i0 i0a HPl HPa HQ9
          have K1 := Lib.hid (show AlI w wc m ao qa (some ⟨b, off, none⟩) qc len kl kc i zs ls from ⟨below_more HJ.out.d HN.out.b, HJ.out.r.more HN.out.b, HJ.out.z.more HN.out.b, HJ.out.l.more HN.out.b, HJ.out.fit, HJ.out.ap, HJ.out.qo⟩)
          have RX := HRV.out.more HN.out.b
          by_cases hfit : fitsB m (takes zs + takes (ls.take i)) x = true
          · have e0 := HQ.out.2.2.2.2.1.2 hfit
            obtain ⟨e1, e2⟩ := put_0 e0
            have e3 : ec = 0 := by rw [← HQ.out.2.2.1, e0]; rfl
            have e4 : am = m := HQ.out.1.symm.trans e1
            have e5 : al = zs ++ ls.take (i + 1) := by
              rw [← HQ.out.2.1, e2, ← HQ.out.2.2.2.2.2.1, List.append_assoc, take_next ls i x HQ.out.2.2.2.2.2.2]
            have e6 : ak = len + (i + 1) := by rw [← HQ.out.2.2.2.1, e5, List.length_append, List.length_take, hzl, hll]; omega
            subst e3 e4 e5 e6
            have hrl := HJ.out.r.r.lt
            have hge := HN.out.ge
            have HK := Lib.hid (show AlI w ((wc.setCell ⟨w.heap.size, 0, none⟩ (.int .i64 am)).setCell ⟨w.heap.size, 1, none⟩ (.slice va (len + (i + 1)) vc)) am ao va (some ⟨b, off, none⟩) vc len kl kc (i + 1) zs ls from ⟨set2B K1.out.d (Nat.le_refl _) _ _, Rv.set RX.r HN.out.v.t (fun a e q => by have := HN.out.wi a e; omega), K1.out.z.other (by omega), K1.out.l.set2 HMB.out, HJ.out.fit.next HQ.out.2.2.2.2.2.2 hfit, fun hp a e q => by have := HN.out.wi a e; have := HJ.out.z.lt; omega, .inr fun a e => by have := HN.out.wi a e; have := HJ.out.z.lt; omega⟩)
            have x0 := HN.out.v.r.c0
            have x1 := HN.out.v.r.c1
            obtain ⟨d0, d1, f0, f1⟩ := RX.r
            clear RX e0 e1 e2 K1 hrl hge
            go_wp2
            go_roundw
            case rel => exact ⟨i + 1, va, vc, by omega, by simp, HK.out⟩
            case measure => simp [intOf]; omega
          · have hfit' : fitsB m (takes zs + takes (ls.take i)) x = false := by
              cases h : fitsB m (takes zs + takes (ls.take i)) x
              · rfl
              · exact absurd h hfit
            have e3 : ¬ ec = 0 := fun h => hfit (HQ.out.2.2.2.2.1.1 (errN_0 (HQ.out.2.2.1.trans h)))
            have e4 : (ec != 0) = true := by simp [e3]
            have hn := (room_stop HJ.out.fit HQ.out.2.2.2.2.2.2 hfit').1
            have hpn : pn = i := HV.out.2.1.symm.trans hn
            subst hpn
            have hpl : qs = pl := HQ.out.2.2.2.2.2.1.symm.trans HV.out.1
            have hkk : qk = k := by rw [← HV.out.2.2, ← hpl, ← HQ.out.2.2.2.2.2.1, List.length_append, List.length_take, hzl, hll, ← HQK.out]; omega
            subst hpl hkk
            have x0 := RX.r.c0
            have x1 := RX.r.c1
            obtain ⟨y0, y1, _, _⟩ := K1.out.z.set (.int .i64 m) (.slice qa qk qc)
            obtain ⟨d0, d1, f0, f1⟩ := K1.out.z
            have hrb := RX.t
            have HB3 := Lib.hid (And.intro (set2B K1.out.d (b := w.heap.size + 1) (by omega) (.int .i64 m) (.slice qa qk qc)) (RX.t.set2 (b := w.heap.size + 1) (u := .int .i64 m) (v := .slice qa qk qc) (fun hp a e => HJ.out.ap (by rw [HQK.out]; exact hp) a e)))
            clear RX hn hrb
            go_wp2
            generalize hWF : ((wc.setCell ⟨w.heap.size + 1, 0, none⟩ (.int .i64 m)).setCell ⟨w.heap.size + 1, 1, none⟩ (.slice qa qk qc)) = WF at y0 y1 HB3 ⊢
            refine bodyPost_ret (v := .tuple #[.agg #[.int .i64 m, .slice qa qk qc], .int .i64 (pn : Int), .int .i64 0]) (by simp [results, Tryd.results26, go_sem, y0, y1]) rfl ?_
            exact ⟨qa, qc, rfl, ⟨HB3.out.2, fun _ => HJ.out.qo.imp (fun h => ⟨h.1, by rw [← HQK.out, h.2, Nat.add_zero]⟩) id⟩, HB3.out.1⟩
      · obtain rfl : i = kl := by omega
        have hd1 : decide ((i : Int) < (i : Int)) = false := decide_eq_false (by omega)
        have hn := (room_all (m := m) (u := takes zs) (l := ls) (by rw [hll]; exact HJ.out.fit)).1
        rw [hll] at hn
        have hpn : pn = i := HV.out.2.1.symm.trans hn
        subst hpn
        obtain ⟨qs, hqs⟩ : ∃ qs, zs ++ ls.take pn = qs := ⟨_, rfl⟩
        have hpl : qs = pl := hqs.symm.trans HV.out.1
        obtain ⟨qk, hqk⟩ : ∃ qk, len + pn = qk := ⟨_, rfl⟩
        have hkk : qk = k := by rw [← HV.out.2.2, ← hpl, ← hqs, List.length_append, List.length_take, hzl, hll, ← hqk]; omega
        subst hpl hkk
        have RX : Rv wr w.heap.size m qa qk qc qs := by have := HJ.out.r; rw [hqs, hqk] at this; exact this
        have x0 := RX.r.c0
        have x1 := RX.r.c1
        obtain ⟨y0, y1, _, _⟩ := HJ.out.z.set (.int .i64 m) (.slice qa qk qc)
        obtain ⟨d0, d1, f0, f1⟩ := HJ.out.z
        have HB3 := Lib.hid (And.intro (set2B HJ.out.d (b := w.heap.size + 1) (by omega) (.int .i64 m) (.slice qa qk qc)) (RX.t.set2 (b := w.heap.size + 1) (u := .int .i64 m) (v := .slice qa qk qc) (fun hp a e => HJ.out.ap (by rw [hqk]; exact hp) a e)))
        have HQK := Lib.hid hqk
        clear RX hn hqs hqk
        go_wp2
        generalize hWF : ((wr.setCell ⟨w.heap.size + 1, 0, none⟩ (.int .i64 m)).setCell ⟨w.heap.size + 1, 1, none⟩ (.slice qa qk qc)) = WF at y0 y1 HB3 ⊢
        refine bodyPost_ret (v := .tuple #[.agg #[.int .i64 m, .slice qa qk qc], .int .i64 (pn : Int), .int .i64 0]) (by simp [results, Tryd.results26, go_sem, y0, y1]) rfl ?_
        exact ⟨qa, qc, rfl, ⟨HB3.out.2, fun _ => HJ.out.qo.imp (fun h => ⟨h.1, by rw [← HQK.out, h.2, Nat.add_zero]⟩) id⟩, HB3.out.1⟩

end Go.Proofs.YtbdhagilmdmpdaaDoor
