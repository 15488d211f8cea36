/- Merged texts: WdCut, WdHere, WdWith, WdPut, WdSameP, WdApi, WwHead -/
import Derived.Test.YtlafcplcjpcikaaGreatDoorWdD
import Derived.Test.YtlafcplcjpcikaaGreatDoorSpE
import Derived.Test.YtlafcplcjpcikaaGreatDoorWdC
import Derived.Test.YtlafcplcjpcikaaGreatDoorWdA
import Derived.ScopeJumps
import Derived.Test.YtlafcplcjpcikaaGreatDoorWdB
import Derived.Test.YtlafcplcjpcikaaGreatDoorLbA
/- cut: what is ahead of the mark, the mark's own, and what is behind. -/
namespace Go.Proofs.YtlafcplcjpcikaaGreatDoor
open Go.RowKit Go.Proofs.Fld Go.Proofs.Rng Go.Proofs.Spc Go.Proofs.Cats Go.Proofs.Wld Go.Shelf Go.Sort

theorem elemP : Tryz.prog.elem 58 = 44 := by kernel_rfl
theorem sizeP (w : World) : (sizeOf 44).run Tryz.prog w = .ok 4 w := by
  obtain ⟨i0, hi, hz0, hz1, hz2⟩ := info_parts infoP
  simp [sizeOf, typeInfo, hi, hz1]
/-- The address of what is from lo on, up to hi. -/
def fromP (ao : Option Addr) (lo hi : Nat) : Option Addr := if hi = lo then ao else ao.map (·.add (lo * 4))
theorem slice_uptoP (ao : Option Addr) (len cap k : Nat) (hk : k ≤ cap) (W : World) : (Instr.slice 58 (.slice ao len cap) none (some (.int .i64 (k : Int))) (some (.int .i64 (k : Int)))).run Tryz.prog W = .ok (.slice ao k k) W := by
  rw [run_slice_hm W _ ao len cap (by kernel_rfl) .i64 .i64 (k : Int) (k : Int) (by omega) (by omega) (by omega), elemP, sizeP]
  simp only [Result.andThen, sliced, Int.toNat_natCast, Nat.sub_zero, Nat.zero_mul]
  split
  · rfl
  · cases ao with
    | none => rfl
    | some x => simp [add_zero']
theorem slice_midP (ao : Option Addr) (len cap lo hi : Nat) (h1 : lo ≤ hi) (h2 : hi ≤ cap) (W : World) : (Instr.slice 58 (.slice ao len cap) (some (.int .i64 (lo : Int))) (some (.int .i64 (hi : Int))) (some (.int .i64 (hi : Int)))).run Tryz.prog W = .ok (.slice (fromP ao lo hi) (hi - lo) (hi - lo)) W := by
  rw [run_slice_lhm W _ ao len cap (by kernel_rfl) .i64 .i64 .i64 (lo : Int) (hi : Int) (hi : Int) (by omega) (by omega) (by omega) (by omega), elemP, sizeP]
  simp only [Result.andThen, sliced, Int.toNat_natCast, fromP]
theorem Parts.mid {W : World} {ao : Option Addr} {len cap : Nat} {zs : List Pv} (h : Parts W ao len cap zs) (lo hi : Nat) (h1 : lo ≤ hi) (h2 : hi ≤ len) : Parts W (fromP ao lo hi) (hi - lo) (hi - lo) ((zs.drop lo).take (hi - lo)) := by
  have hm := h.hmax
  have hle := h.hle
  refine ⟨by rw [List.length_take, List.length_drop, h.hlen]; omega, Nat.le_refl _, by omega, fun q => ?_, fun x hx => h.hrows x (List.mem_of_mem_drop (List.mem_of_mem_take hx)), fun hz => ?_⟩
  · unfold fromP at q
    by_cases e1 : hi = lo
    · omega
    · rw [if_neg e1] at q
      cases ao with
      | none => have := h.hnone rfl; omega
      | some x => simp at q
  · have hlt : lo < hi := by
      rcases Nat.lt_or_ge lo hi with q | q
      · exact q
      · exact absurd (by rw [show hi - lo = 0 by omega, List.take_zero]) hz
    obtain ⟨b, off, rfl, hc⟩ := h.hcells (fun q => hz (by rw [q]; simp))
    refine ⟨b, off + lo * 4, ?_, fun j x hj => ?_⟩
    · unfold fromP
      rw [if_neg (by omega)]
      simp [add_at]
    · rw [List.getElem?_take] at hj
      split at hj
      · rw [List.getElem?_drop] at hj
        have := hc _ x hj
        rw [show off + lo * 4 + j * 4 = off + (lo + j) * 4 by omega]
        exact this
      · cases hj
/-- What cut tells. -/
def CutW (ao : Option Addr) (s t n : Nat) (w : World) (e : Ending) (w' : World) : Prop :=
  e = .returned (.tuple #[.slice ao s s, .slice (fromP ao s t) (t - s) (t - s), .slice (fromP ao t n) (n - t) (n - t)]) ∧ Below w.heap.size w w'

set_option maxRecDepth 100000 in
set_option maxHeartbeats 4000000 in
theorem cutW_any (a : Lab) {ao : Option Addr} {len cap : Nat} {zs : List Pv} {l : List Pt} {w : World} (hL : SP w ao len cap zs l) :
    Calls Tryz.prog 53 #[.agg #[.slice ao len cap, .int .i64 a.l, .int .u64 a.c, .int .i64 a.i]] w (CutW ao (befW l a) (endW l a) len w) := by
  have hB := Below.new w (.cells #[.slice ao len cap, .int .i64 a.l, .int .u64 a.c, .int .i64 a.i] 65)
  have hbe := bef_end l a
  have hel := bef_le l a
  rw [hL.len] at hel
  have hle := hL.o.hle
  have hC := ChAt.new w ao len cap a 65
  have HC := Lib.hid (place_any a (hL.more hB))
  obtain ⟨s, hs⟩ : ∃ s, befW l a = s := ⟨_, rfl⟩
  obtain ⟨t, ht⟩ : ∃ t, endW l a = t := ⟨_, rfl⟩
  rw [hs, ht] at HC hbe
  rw [ht] at hel
  rw [hs, ht]
  have u1 := slice_uptoP ao len cap s (by omega)
  have u2 := slice_midP ao len cap s t hbe (by omega)
  have u3 := slice_midP ao len cap t len hel hle
  have HB := Lib.hid (And.intro hB hC)
  obtain ⟨c0, c1, c2, c3⟩ := hC
  clear hB hL hs ht
  go_enter Tryz.func53, Tryz.ntmps53
  go_wp2_with (go_at_call 73; refine HC.out.mono ?_)
  rintro e w1 ⟨rfl, hb1⟩
  have HB1 := Lib.hid (below_more HB.out.1 hb1)
  obtain ⟨d0, d1, d2, d3⟩ := HB.out.2.more hb1
  clear hb1 c0 c1 c2 c3
  go_wp2
  go_quiet (fail)
  go_wp2
  refine bodyPost_ret (results_tmp3 rfl _ _ _) rfl ⟨rfl, below_drewN HB1.out _⟩

end Go.Proofs.YtlafcplcjpcikaaGreatDoor

/- here, Get: the mark's space. -/
namespace Go.Proofs.YtlafcplcjpcikaaGreatDoor
open Go.RowKit Go.Proofs.Fld Go.Proofs.Rng Go.Proofs.Spc Go.Proofs.Cats Go.Proofs.Wld Go.Shelf Go.Sort

attribute [local go_sem] Oper.semAt_some

theorem SO.set {n0 L : Nat} {W : World} {va : Option Addr} {k vc : Nat} {vs : List Ov} {l : List Ob} (h : SO W va k vc vs l) (hs : softO n0 W va vs) (hL : L < n0) (v : Value) : SO (W.setCell ⟨L, 0, none⟩ v) va k vc vs l :=
  ⟨h.e, h.o.kept2 (fun a e hz _ => Below.heap_setCell _ ⟨L, 0, none⟩ _ _ (fun q => by have := (hs.1 a e hz).1; have : a.block = L := q; omega)) (fun x hx a e hl _ => Below.heap_setCell _ ⟨L, 0, none⟩ _ _ (fun q => by have := (hs.2 x hx a e hl).1; have : a.block = L := q; omega)), h.s⟩
theorem softO.set {n0 : Nat} {W : World} {va : Option Addr} {vs : List Ov} {p : Addr} {v : Value} (h : softO n0 W va vs) : softO n0 (W.setCell p v) va vs :=
  ⟨fun a e hz => ⟨(h.1 a e hz).1, fun i => by rw [World.frozen?_setCell]; exact (h.1 a e hz).2 i⟩, fun z hz => (h.2 z hz).set⟩
/-- Objects of the call's own, in a box. -/
def HoB (L : Nat) (w : World) (l : List Ob) (W : World) : Prop := ∃ vs va vc k, Boxed W L 30 (.slice va k vc) ∧ SO W va k vc vs l ∧ softO w.heap.size W va vs
/-- Between two rounds. -/
def HeI (L : Nat) (w : World) (pre : List Pv) (W : World) : Prop := HoB L w (lastO (pts pre)) W ∧ L + 1 ≤ W.heap.size ∧ Below w.heap.size w W
theorem HoB.kc {L : Nat} {w : World} {l : List Ob} {A B : World} (h : HoB L w l A) (k : KC A B) : HoB L w l B := by
  obtain ⟨vs, va, vc, m, h1, h2, h3⟩ := h
  exact ⟨vs, va, vc, m, (k _ _ _ h1.cell).trans h1, h2.kc k, h3.kc h2.o k⟩
theorem HoB.more {L : Nat} {w : World} {l : List Ob} {A B : World} (h : HoB L w l A) (k : Below A.heap.size A B) : HoB L w l B := by
  obtain ⟨vs, va, vc, m, h1, h2, h3⟩ := h
  exact ⟨vs, va, vc, m, boxed_more h1 k, h2.more k, h3.more h2.o k⟩
theorem HeI.own {L : Nat} {w : World} {n0 : Nat} (hn : w.heap.size ≤ n0) : OwnFrom n0 (HeI L w) := by
  rintro pre A W row ⟨h1, hz, hb⟩ hg hr
  have hb2 := ownFrom_below (β := List Pv) (n₀ := w.heap.size) (w₀ := w) (Nat.le_refl _) hn pre A W row hb hg hr
  exact ⟨h1.kc (KC.grown hg (fun r e => (hr r e).2)), Nat.le_trans hz hg.size, hb2⟩
theorem get_right {l : List Pt} {a : Lab} (h : rightW l = true) : getW l a = lookW l a := by
  unfold getW
  rw [if_pos h]
theorem get_wrong {l : List Pt} {a : Lab} (h : rightW l = false) : getW l a = [] := by
  unfold getW
  rw [h]
  rfl

set_option maxRecDepth 100000 in
set_option maxHeartbeats 4000000 in
theorem here_in (n : Nat) (hn : 3 ≤ n) {s0 : Sn} (a : Lab) {ao : Option Addr} {len cap kr : Nat} {zs : List Pv} {l : List Pt} {os : List Ob} (ho : getW l a = os) (hkr : os.length = kr) {w : World} (hs : Ev s0 w) (hL : SP w ao len cap zs l) :
    CallsIn Fence.wide n Tryz.prog 36 #[.agg #[.slice ao len cap, .int .i64 a.l, .int .u64 a.c, .int .i64 a.i]] w (SeqU os kr w) := by
  have hn1 : 1 ≤ n := by omega
  refine callsIn_of_wp_marks Tryz.func36 rfl trivial ?_ rfl
  simp only [Tryz.ntmps36, List.size_toArray, List.length_cons, List.length_nil, Nat.reduceAdd, Nat.reduceSub, Array.replicate_succ, Array.replicate_zero, List.push_toArray, List.append_toArray, List.nil_append, List.cons_append]
  have hB := Below.new w (.cells #[.slice ao len cap, .int .i64 a.l, .int .u64 a.c, .int .i64 a.i] 65)
  have hC := ChAt.new w ao len cap a 65
  cases hr : rightW l with
  | false =>
    have HK := Lib.hid (checkW_any hr (hL.more hB) (hs.more hB))
    have HB := Lib.hid hB
    obtain rfl : os = [] := ho.symm.trans (get_wrong hr)
    obtain rfl : kr = 0 := hkr.symm
    obtain ⟨c0, c1, c2, c3⟩ := hC
    clear hL hs hB hr ho hkr
    gi_wp2_with (refine ⟨trivial, ?_⟩; gi_at_call 31; refine (callsIn_wide.2 HK.out).mono ?_)
    rintro e w1 ⟨⟨hf, _⟩ | ⟨_, s1, rfl⟩, hb1⟩
    · cases hf
    have HU := Lib.hid (show SeqU ([] : List Ob) 0 w (.returned (.slice none 0 0)) w1 from ⟨[], none, 0, rfl, SO.nil w1, ⟨(fun _ e _ => (by cases e)), (fun z hz => (by cases hz))⟩, below_more HB.out hb1⟩)
    clear hb1
    gi_wp2
    exact ⟨.slice none 0 0, by simp [results, Tryz.results36, go_sem], HU.out⟩
  | true =>
    have HK := Lib.hid (checkW_any hr (hL.more hB) (hs.more hB))
    have hbe := bef_end l a
    have hel := bef_le l a
    rw [hL.len] at hel
    have hlen := hL.le
    have hlook := look_cut hr a
    rw [← get_right hr, ho] at hlook
    obtain ⟨s, hs'⟩ : ∃ s, befW l a = s := ⟨_, rfl⟩
    obtain ⟨t, ht⟩ : ∃ t, endW l a = t := ⟨_, rfl⟩
    have HCu := Lib.hid (fun W (h : Below w.heap.size w W) => cutW_any a (hL.more h))
    rw [hs', ht] at HCu hbe hlook
    rw [ht] at hel
    have hM := hL.o.mid s t hbe hel
    obtain ⟨fa, hfa⟩ : ∃ fa, fromP ao s t = fa := ⟨_, rfl⟩
    obtain ⟨m, hm⟩ : ∃ m, t - s = m := ⟨_, rfl⟩
    obtain ⟨ys, hys⟩ : ∃ ys, (zs.drop s).take m = ys := ⟨_, rfl⟩
    have hmb : m ≤ 10 := by omega
    have hysl : ∀ x ∈ ys, Small (obs x.os) := fun x hx => by
      rw [← hys] at hx
      exact hL.s.b _ (hL.e ▸ mem_pts (List.mem_of_mem_drop (List.mem_of_mem_take hx)))
    have hyo : lastO (pts ys) = os := by
      rw [hlook, ← hL.e, ← hys, ← hm]
      unfold pts
      rw [List.map_take, List.map_drop]
    unfold CutW at HCu
    rw [hm] at hM HCu
    rw [hfa] at hM HCu
    rw [hys] at hM
    have HL := Lib.hid (And.intro hB (And.intro hM (And.intro hysl (And.intro hyo (And.intro hkr hC)))))
    obtain ⟨c0, c1, c2, c3⟩ := hC
    clear hL hs hB hr ho hkr hlook hM hysl hyo hfa hys hs' ht
    gi_wp2_with (refine ⟨trivial, ?_⟩; gi_at_call 31; refine (callsIn_wide.2 HK.out).mono ?_)
    rintro e w1 ⟨hv, hb1⟩
    obtain rfl : e = .returned .nilIface := by
      rcases hv with ⟨_, h⟩ | ⟨hf, _⟩
      · exact h
      · cases hf
    clear hv
    have hb01 := below_more HL.out.1 hb1
    have hN2 := Below.new w1 (.cells #[.slice none 0 0] 30)
    have b0 := Boxed.new w1 30 (.slice none 0 0)
    obtain ⟨d0, d1, d2, d3⟩ := (HL.out.2.2.2.2.2.more hb1).more hN2
    have hb02 := below_more hb01 hN2
    have HB2 := Lib.hid (And.intro hb02 (And.intro b0 hb01.size))
    clear hb1 hb01 hN2 b0 hb02 c0 c1 c2 c3
    gi_wp2_with (refine ⟨trivial, ?_⟩; gi_at_call 53; refine (callsIn_wide.2 (HCu.out _ HB2.out.1)).mono ?_)
    rintro e w3 ⟨rfl, hb3⟩
    have b3 := boxed_more HB2.out.2.1 hb3
    have hb03 := below_more HB2.out.1 hb3
    have HB3 := Lib.hid (And.intro hb03 (And.intro b3 hb3.size))
    clear hb3 b3 hb03 d0 d1 d2 d3
    gi_wp2_with (refine ⟨trivial, ?_⟩; gi_at_call 54; refine (callsIn_wide.2 (allP_any fa m m _)).mono ?_)
    rintro e W0 ⟨rfl, rfl⟩
    have hN4 := Below.new w3 (.cells #[.slice fa m m] 58)
    have hc : (w3.alloc (.cells #[.slice fa m m] 58)).cell? ⟨w3.heap.size, 0, none⟩ = some (.slice fa m m) := by simp
    have hz : (w3.alloc (.cells #[.slice fa m m] 58)).heap.size = w3.heap.size + 1 := by simp
    obtain ⟨W0, hW0⟩ : ∃ W0, w3.alloc (.cells #[.slice fa m m] 58) = W0 := ⟨_, rfl⟩
    rw [hW0] at hN4 hc hz ⊢
    have hw1 : w.heap.size ≤ w1.heap.size := HB2.out.2.2
    have hw3 : w1.heap.size + 1 ≤ w3.heap.size := by have := HB3.out.2.2; simp at this; omega
    have HA := Lib.hid (And.intro (boxed_more HB3.out.2.1 hN4) (And.intro (below_more HB3.out.1 hN4) hc))
    clear hN4 hc hW0
    gi_wp2
    refine wpIn_rangeY hn1 (gf := 89) (lb := #[.pointer (some ⟨w3.heap.size, 0, none⟩)]) rfl (enters_of Tryz.func89 (by kernel_rfl) rfl)
      (valsP1 (n - 1) (by omega) (fun k => k < w.heap.size) w3.heap.size m m fa ys (by omega) W0 (fun k hk => by omega) HA.out.2.2 (HL.out.2.1.more HA.out.2.1) ?hap) KS.trans (fun V o o' _ _ _ => KS.put _ _ _ (by omega)) (fun _ => rfl)
      (HeI w1.heap.size w) (fun _ _ _ => False) ?hI ?hIx ?h0
      (fun x a' W => ∃ Bx v12 v14, PtAt W Bx 0 x ∧ a' = { tmps := #[.agg #[.slice ao len cap, .int .i64 a.l, .int .u64 a.c, .int .i64 a.i], .pointer (some ⟨w.heap.size, 0, none⟩), .slice none 0 0, .pointer (some ⟨w1.heap.size, 0, none⟩), .slice ao s s, .slice fa m m, .slice (fromP ao t len) (len - t) (len - t), .pointer (some ⟨Bx, 0, none⟩), .pointer (some ⟨w.heap.size, 0, none⟩), .slice ao len cap, .nilIface, .bool false, v12, .agg #[.slice ao len cap, .int .i64 a.l, .int .u64 a.c, .int .i64 a.i], v14, .slice ao s s, .slice fa m m, .slice (fromP ao t len) (len - t) (len - t), .slice fa m m, .func (.func 89) #[] #[.pointer (some ⟨w3.heap.size, 0, none⟩)], .agg #[.int .i64 x.a.l, .int .u64 x.a.c, .int .i64 x.a.i, .slice x.va x.os.length x.vc], undef, undef, undef, undef], defers := [] })
      ?hAx ?assign ?body ?done ?stop
    case hap =>
      intro hp ad e
      obtain ⟨b, off, e', hbl, _⟩ := HL.out.2.1.at hp
      rw [e] at e'
      obtain rfl := Option.some.inj e'
      exact hbl
    case hI => exact HeI.own (by omega)
    case hIx => intro c s A B row hs; exact hs.elim
    case hAx =>
      rintro x a' _ A B row ⟨Bx, v12, v14, h1, rfl⟩ hg hr
      exact ⟨Bx, v12, v14, ptat_keep h1 hg (fun r e => (hr r e).2), rfl⟩
    case h0 => exact ⟨⟨[], none, 0, 0, HA.out.1, SO.nil W0, ⟨(fun _ e _ => (by cases e)), (fun z hz => (by cases hz))⟩⟩, by omega, HA.out.2.1⟩
    case assign =>
      rintro l pre x W K ⟨h1, hz1', hB1⟩ hH hK
      have HK := Lib.hid hK
      have hn := Below.new W (.cells #[.int .i64 x.a.l, .int .u64 x.a.c, .int .i64 x.a.i, .slice x.va x.os.length x.vc] 44)
      have hsz := hB1.size
      have HP := Lib.hid (And.intro (h1.more hn) (And.intro (below_more hB1 hn) hn))
      clear hK h1 hB1 hn
      simp only [pv]
      gi_wp2
      exact HK.out _ _ ((KeepsOthers.alloc _ _).from _) (KS.of_below (m := W.heap.size) HP.out.2.2 (fun k hk => by omega)) ⟨HP.out.1, by simp; omega, HP.out.2.1⟩ ⟨W.heap.size, _, _, PtAt.new W x _, rfl⟩
    case body =>
      rintro l pre x a' W ⟨h1, hz1', hB1⟩ hH ⟨Bx, v12, v14, hx, rfl⟩
      have hm' : x ∈ ys := hH.subset (by simp)
      obtain ⟨y0, y1, y2, y3⟩ := hx.var
      have hSO : SO W x.va x.os.length x.vc x.os (obs x.os) := ⟨rfl, ((HL.out.2.1.hrows x hm').more hB1).o, HL.out.2.2.1 x hm'⟩
      obtain ⟨vs1, va1, vc1, k1, hq1, _, _⟩ := h1
      have HX := Lib.hid (And.intro hSO (And.intro hB1 hq1))
      have hdp : 1 ≤ n - 1 - 1 := by omega
      have hsz := hB1.size
      clear hx hH hB1 hq1 hSO hm'
      gi_wp2_with (refine ⟨trivial, ?_⟩; gi_at_call 55; refine (CallsIn.inRound l (callsIn_wide.2 (objects_any HX.out.1))).mono ?_)
      rintro e w5 ⟨vs, va, vc, rfl, hS5, hs5, hb5⟩
      have b5 := boxed_more HX.out.2.2 hb5
      have c5 := b5.cell
      have f5 := b5.frozen
      have hbs : Below w.heap.size W (w5.setCell ⟨w1.heap.size, 0, none⟩ (.slice va x.os.length vc)) := (hb5.mono (by omega)).setCell (p := ⟨w1.heap.size, 0, none⟩) hw1 _
      have HU := Lib.hid (show KeepsFrom W0.heap.size W (w5.setCell ⟨w1.heap.size, 0, none⟩ (.slice va x.os.length vc)) ∧ KS (fun k => k < w.heap.size) W (w5.setCell ⟨w1.heap.size, 0, none⟩ (.slice va x.os.length vc)) ∧ HeI w1.heap.size w (pre ++ [x]) (w5.setCell ⟨w1.heap.size, 0, none⟩ (.slice va x.os.length vc)) from by
        refine ⟨((keeps_below hb5).trans (KeepsOthers.setCell _ _ _)).from _, KS.of_below hbs (fun k hk => hk), ⟨vs, va, vc, x.os.length, b5.set _, ?_, softO.set (hs5.mono hsz)⟩, Nat.le_trans hz1' hbs.size, HX.out.2.1.trans hbs⟩
        rw [pts_snoc, lastO_snoc]
        exact hS5.set hs5 (by omega) _)
      clear hS5 hs5 hb5 b5 hbs
      gi_wp2
      exact HU.out
    case done =>
      rintro D us W hD hu ⟨⟨vs, va, vc, k1, hq1, hq2, hq3⟩, hz1', hB1⟩ hK
      have c5 := hq1.cell
      rw [hu, HL.out.2.2.2.1] at hq2
      obtain rfl : k1 = kr := by rw [← HL.out.2.2.2.2.1, hq2.len]
      have HU := Lib.hid (show SeqU os k1 w (.returned (.slice va k1 vc)) (W.putObj D (.deferred none)) from SeqU.put (w0 := w) (.deferred none) ⟨vs, va, vc, rfl, hq2, hq3, hB1⟩ (Below.refl _ _) hK rfl (by omega))
      have HK2 := Lib.hid hK
      clear hq1 hq2 hq3 hB1 hK
      gi_wp2
      refine ⟨by simp, .inl ⟨_, _, rfl, run_takeDeferred HK2.out, ?_⟩⟩
      exact ⟨.slice va k1 vc, by simp [results, Tryz.results36, go_sem], HU.out⟩
    case stop =>
      rintro D c pre W _ _ h _
      exact h.elim

set_option maxHeartbeats 1000000 in
theorem GGet_w {s : Sn} {w0 w : World} {ao : Option Addr} {k0 cap kr : Nat} {zs : List Pv} {l : List Pt} {os : List Ob} {a : Lab} (_hf : a.fits) (ho : getW l a = os) (hkr : os.length = kr) (hL : SP w ao k0 cap zs l) (hs : WE s w0 w) :
    Calls Tryz.prog 15 #[.slice ao k0 cap, .agg #[.int .i64 a.l, .int .u64 a.c, .int .i64 a.i]] w (SeqU os kr w) := by
  have hN1 := Below.new w (.cells #[.int .i64 a.l, .int .u64 a.c, .int .i64 a.i] 25)
  have HC := Lib.hid ((callsIn_wide (n := 3)).1 (here_in 3 (by omega) a ho hkr (hs.ev.more hN1) (hL.more hN1)))
  have HB := Lib.hid hN1
  clear hL hN1 ho hkr
  go_enter Tryz.func15, Tryz.ntmps15
  go_wp2_with (go_at_call 36; refine HC.out.mono ?_)
  rintro e w1 ⟨vs, va, vc, rfl, h2, h3, h4⟩
  have HR := Lib.hid (show SeqU os kr w (.returned (.slice va kr vc)) w1 from ⟨vs, va, vc, rfl, h2, h3.mono HB.out.size, below_more HB.out h4⟩)
  clear h2 h3 h4
  go_wp2
  go_ret
  exact HR.out

end Go.Proofs.YtlafcplcjpcikaaGreatDoor

/- with: the world in which the mark's space has these objects. -/
namespace Go.Proofs.YtlafcplcjpcikaaGreatDoor
open Go.RowKit Go.Proofs.Fld Go.Proofs.Rng Go.Proofs.Spc Go.Proofs.Cats Go.Proofs.Wld Go.Shelf Go.Sort

/-- An append that has no room: a row of its own. -/
theorem parts_grow {t tx : TypeId} (ht : Tryz.prog.underlying t = some (.slice 44)) (hk : Tryz.prog.underlying tx = some (.slice 44)) {W : World} {a1 : Option Addr} {n c1 m c2 : Nat} {ad : Addr} {vs1 : List Pv} {news : List Value} (h1 : Parts W a1 n c1 vs1) (hl2 : news.length = m * 4) (h2 : ∀ j u, news[j]? = some u → W.cell? (ad.add j) = some u) (h2c : ∀ u ∈ news, u.oneCell' = true) (hg : c1 < n + m) (hn : n + m ≤ 2000000) :
    ∃ g cap w', (∀ ty, (Builtin.append_ #[t, tx] ty #[.slice a1 n c1, .slice (some ad) m c2]).run Tryz.prog W = .ok (.slice (some ⟨g, 0, none⟩) (n + m) cap) w') ∧ w'.ownsRow W.heap.size 44 4 (.slice (some ⟨g, 0, none⟩) (n + m) cap) (n + m) (pcl vs1 ++ news) ∧ Below W.heap.size W w' := by
  obtain ⟨i0, hi, hz0, hz1, hz2⟩ := info_parts infoP
  have l1 : (pcl vs1).length = n * 4 := by rw [pcl_length, h1.hlen]
  have hold : (Builtin.firstCells i0.size n (.slice a1 n c1)).run Tryz.prog W.drew = .ok (pcl vs1).toArray W.drew := by
    rw [hz1]
    cases a1 with
    | none =>
      obtain ⟨rfl, rfl⟩ := h1.nones rfl
      obtain rfl : vs1 = [] := List.eq_nil_of_length_eq_zero h1.hlen
      exact run_firstCells_none W.drew 4 0 0 0
    | some b => exact run_firstCells_some W.drew 4 n b n c1 (pcl vs1) l1 (by simpa using h1.news b rfl)
  have hs : Src Tryz.prog i0.size tx (.slice (some ad) m c2) m news W := by
    rw [hz1]
    exact Src.ofSlice W hk ad m c2 news hl2 h2 h2c
  have hr := fun ty => run_append_grow_src (P := Tryz.prog) W t tx ty 44 i0 _ ht hi hz0 a1 n c1 (pcl vs1) hold (.slice (some ad) m c2) m news hs hg (by omega) (growslice_fits hg (by rw [hz2]; omega))
  have hge := grownCap_ge W (n + m) c1 44
  have hcm := grownCap_le_maxLen W (n + m) c1 44 (by unfold maxLen; omega)
  refine ⟨_, _, _, hr, ?_, (Below.refl _ W).drew.alloc (Nat.le_refl _) _⟩
  refine ⟨by rw [List.length_append, l1, hl2]; omega, .inr ⟨W.heap.size, _, _, rfl, Nat.le_refl _, World.alloc_heap_new W.drew _, hge, hcm, ?_, ?_⟩⟩
  · simp only [Array.size_append, List.size_toArray, size_zeroCells, l1, hl2, List.length_append]
    show n * 4 + m * 4 + (grownCap W (n + m) c1 44 - (n + m)) * 4 = _
    omega
  · simp only [Array.toList_append]
    rw [show (n + m) * 4 = (pcl vs1 ++ news).length by rw [List.length_append, l1, hl2]; omega]
    exact List.take_left
theorem parts_nothing {t tx : TypeId} (ht : Tryz.prog.underlying t = some (.slice 44)) (hk : Tryz.prog.underlying tx = some (.slice 44)) {W : World} {a1 a2 : Option Addr} {n c1 c2 : Nat} (h : n ≤ c1) (h2 : a2 = none → c2 = 0) : ∀ ty, (Builtin.append_ #[t, tx] ty #[.slice a1 n c1, .slice a2 0 c2]).run Tryz.prog W = .ok (.slice a1 n c1) W := by
  obtain ⟨i0, hi, hz0, hz1, hz2⟩ := info_parts infoP
  intro ty
  refine run_append_nothing W t tx ty 44 i0 ht hi a1 n c1 h (.slice a2 0 c2) ?_
  rw [hz1]
  cases a2 with
  | none => exact Src.ofNil W hk c2
  | some ad => exact Src.ofSlice W hk ad 0 c2 [] rfl (fun j u hu => by cases hu) (fun u hu => by cases hu)
theorem pts_drop (l : List Pv) (k : Nat) : pts (l.drop k) = (pts l).drop k := List.map_drop
theorem small_put {l : List Pt} {a : Lab} {lo : List Ob} (hn : l.length ≤ 9) (h : SmallW l) (ho : Small lo) : SmallW (putW l a lo) :=
  ⟨Nat.le_trans (put_length l a lo) (by omega), fun x hx => by
    rcases put_mem x hx with q | rfl
    · exact h.b x q
    · exact ho⟩

set_option maxRecDepth 100000 in
set_option maxHeartbeats 4000000 in
theorem withW_some {a : Lab} (ha : a.fits) {ao : Option Addr} {len cap : Nat} {zs : List Pv} {l : List Pt} {oo : Option Addr} {oc : Nat} {os : List Ov} {lo : List Ob} {kr : Nat} {y : List Pt} {w : World} (hne : 0 < os.length) (hg : rightW l = true) (hn : l.length ≤ 9) (hy : putW l a lo = y) (hkr : y.length = kr) (hL : SP w ao len cap zs l) (hO : SO w oo os.length oc os lo) :
    Calls Tryz.prog 66 #[.agg #[.slice ao len cap, .int .i64 a.l, .int .u64 a.c, .int .i64 a.i], .slice oo os.length oc] w (SeqV y kr w) := by
  obtain ⟨i0, hi, hz0, hz1, hz2⟩ := info_parts infoP
  have hB := Below.new w (.cells #[.slice ao len cap, .int .i64 a.l, .int .u64 a.c, .int .i64 a.i] 65)
  have hbe := bef_end l a
  have hel := bef_le l a
  rw [hL.len] at hel
  have hlen := hL.le
  have hlc := hL.o.hle
  have HC := Lib.hid (cutW_any a (hL.more hB))
  have hcut := put_cut hg a lo
  rw [show lo.isEmpty = false by rw [← hO.e]; cases os with | nil => simp at hne | cons x r => rfl, hy] at hcut
  obtain ⟨s, hs⟩ : ∃ s, befW l a = s := ⟨_, rfl⟩
  obtain ⟨t, ht⟩ : ∃ t, endW l a = t := ⟨_, rfl⟩
  rw [hs, ht] at HC hbe hcut
  rw [ht] at hel
  have HS := Lib.hid (show SmallW y from hy ▸ small_put hn hL.s hO.s)
  have HH := Lib.hid (And.intro hB (And.intro (ChAt.new w ao len cap a 65) (And.intro hL (And.intro hO (And.intro hcut (And.intro hkr ha))))))
  have hd : decide (((os.length : Nat) : Int) > 0) = true := decide_eq_true (by omega)
  clear hB hL hO hcut hs ht hg hn hy hkr ha
  go_enter Tryz.func66, Tryz.ntmps66
  obtain ⟨c0, c1, c2, c3⟩ := HH.out.2.1
  go_wp2_with (go_at_call 53; refine HC.out.mono ?_)
  rintro e w1 ⟨rfl, hb1⟩
  have hb01 := below_more HH.out.1 hb1
  obtain ⟨d0, d1, d2, d3⟩ := HH.out.2.1.more hb1
  have hN := Below.new w1 (.cells #[.int .i64 a.l, .int .u64 a.c, .int .i64 a.i, .slice oo os.length oc] 44)
  have hb2 := below_more hb01 hN
  have hL2 := (HH.out.2.2.1.o.more hb2)
  obtain ⟨g, gc, w3, hr, hown, hb3⟩ := parts_grow (t := 58) (tx := 58) (c2 := 1) (m := 1) (ad := ⟨w1.heap.size, 0, none⟩) (news := cells4 ⟨a, os, oo, oc⟩) Tryz.underlying58 Tryz.underlying58 (hL2.take s s (by omega) (Nat.le_refl _) (by omega)) rfl (pt_new w1 ⟨a, os, oo, oc⟩ 44) (by simp [cells4, Value.oneCell']) (by omega) (by omega)
  have HR := Lib.hid hr
  have hb03 := below_more hb2 hb3
  have hM := (HH.out.2.2.1.o.more hb03).mid t len hel (Nat.le_refl _)
  obtain ⟨a2, ha2⟩ : ∃ a2, fromP ao t len = a2 := ⟨_, rfl⟩
  obtain ⟨m, hm⟩ : ∃ m, len - t = m := ⟨_, rfl⟩
  have htd : (zs.drop t).take (len - t) = zs.drop t := List.take_of_length_le (by rw [List.length_drop, HH.out.2.2.1.o.hlen]; exact Nat.le_refl _)
  rw [htd] at hM
  rw [ha2, hm] at hM
  have H2 := Lib.hid (And.intro hown (And.intro hM.news (And.intro hM.nones (And.intro (show (pcl (zs.drop t)).length = m * 4 by rw [pcl_length, hM.hlen]) (And.intro hM.hlen (And.intro hb03 (show w.heap.size ≤ (w1.alloc (.cells #[.int .i64 a.l, .int .u64 a.c, .int .i64 a.i, .slice oo os.length oc] 44)).heap.size from hb2.size)))))))
  have H3 := Lib.hid hb3.size
  have hmb : m ≤ 10 := by omega
  have hsb : s ≤ 10 := by omega
  rw [ha2, hm]
  clear hb1 hb01 hN hb2 hL2 hr hown hb3 hb03 hM htd ha2 c0 c1 c2 c3
  go_wp2_with (first
    | (at_builtin; refine wpList_append_some _ rfl _ _ 58 rfl (w1.alloc (.cells #[.int .i64 a.l, .int .u64 a.c, .int .i64 a.i, .slice oo os.length oc] 44)).heap.size 44 i0 (.agg #[.int .i64 0, .int .u64 0, .int .i64 0, .slice none 0 0]) 4 48 Tryz.underlying58 hi hz0 hz1 hz2 rfl (by decide) (.slice (some ⟨g, 0, none⟩) (s + 1) gc) (s + 1) (pcl (zs.take s) ++ cells4 ⟨a, os, oo, oc⟩) rfl H2.out.1 a2 m m (pcl (zs.drop t)) rfl H2.out.2.2.2.1 H2.out.2.2.1 H2.out.2.1 (pcl_cells _) (by unfold maxLen; omega) (by omega) H3.out ?_; intro v2 w2 hq; obtain ⟨va, vc, rfl⟩ := row_slice hq.1; have HQ := Lib.hid hq; clear hq)
    | (at_builtin; refine Lib.wpList_append_run _ rfl _ _ 58 58 rfl _ _ rfl rfl _ _ (HR.out _) ?_))
  obtain ⟨hown2, hgrow2⟩ := HQ.out
  have b2 : Below w.heap.size w w2 := H2.out.2.2.2.2.2.1.grown hgrow2 H2.out.2.2.2.2.2.1.size (fun k e => Nat.le_trans H2.out.2.2.2.2.2.2 (World.ownsRow.lt H2.out.1 k e).1)
  have hl2 : (zs.take s ++ [(⟨a, os, oo, oc⟩ : Pv)] ++ zs.drop t).length = s + 1 + m := by
    rw [List.length_append, List.length_append, List.length_take, H2.out.2.2.2.2.1, HH.out.2.2.1.o.hlen]
    simp only [List.length_cons, List.length_nil]
    omega
  have hpy : pts (zs.take s ++ [(⟨a, os, oo, oc⟩ : Pv)] ++ zs.drop t) = y := by
    rw [HH.out.2.2.2.2.1, pts_append, pts_append, pts_take, pts_drop, HH.out.2.2.1.e, List.append_assoc]
    show l.take s ++ ([(⟨a, obs os⟩ : Pt)] ++ l.drop t) = _
    rw [HH.out.2.2.2.1.e]
    rfl
  have hkl : kr = s + 1 + m := by rw [← HH.out.2.2.2.2.2.1, ← hpy, pts_length, hl2]
  have hO2 : OwnP (w1.alloc (.cells #[.int .i64 a.l, .int .u64 a.c, .int .i64 a.i, .slice oo os.length oc] 44)).heap.size w2 (.slice va (s + 1 + m) vc) (zs.take s ++ [(⟨a, os, oo, oc⟩ : Pv)] ++ zs.drop t) := by
    unfold OwnP
    rw [hl2, pcl_append, pcl_append, pcl_one]
    exact hown2
  have hSP : SP w2 va (s + 1 + m) vc (zs.take s ++ [(⟨a, os, oo, oc⟩ : Pv)] ++ zs.drop t) y := ⟨hpy, hO2.parts hl2 (fun x hx => by
    rcases List.mem_append.1 hx with hx | hx
    · rcases List.mem_append.1 hx with hx | hx
      · exact (HH.out.2.2.1.o.hrows x (List.mem_of_mem_take hx)).more b2
      · obtain rfl : x = ⟨a, os, oo, oc⟩ := by simpa using hx
        exact ⟨HH.out.2.2.2.1.o.more b2, HH.out.2.2.2.2.2.2⟩
    · exact (HH.out.2.2.1.o.hrows x (List.mem_of_mem_drop hx)).more b2), HS.out⟩
  have HW := Lib.hid (ownW_any hSP)
  have HB := Lib.hid (And.intro b2 hkl)
  clear hown2 hgrow2 b2 hl2 hpy hkl hO2 hSP d0 d1 d2 d3
  refine HW.out.mono ?_
  intro e1 w4 h4
  have HF := Lib.hid (SeqV.trans h4 HB.out.1)
  obtain ⟨vs, ra, rc, rfl, q1, q2, q3⟩ := h4
  clear q1 q2 q3
  go_wp2
  go_ret
  rw [HB.out.2]
  exact HF.out

set_option maxRecDepth 100000 in
set_option maxHeartbeats 4000000 in
theorem withW_none {a : Lab} {ao : Option Addr} {len cap : Nat} {zs : List Pv} {l : List Pt} {oo : Option Addr} {oc : Nat} {kr : Nat} {y : List Pt} {w : World} (hg : rightW l = true) (hn : l.length ≤ 9) (hy : putW l a [] = y) (hkr : y.length = kr) (hL : SP w ao len cap zs l) :
    Calls Tryz.prog 66 #[.agg #[.slice ao len cap, .int .i64 a.l, .int .u64 a.c, .int .i64 a.i], .slice oo 0 oc] w (SeqV y kr w) := by
  have hB := Below.new w (.cells #[.slice ao len cap, .int .i64 a.l, .int .u64 a.c, .int .i64 a.i] 65)
  have hbe := bef_end l a
  have hel := bef_le l a
  rw [hL.len] at hel
  have hlen := hL.le
  have hlc := hL.o.hle
  have HC := Lib.hid (cutW_any a (hL.more hB))
  have hcut := put_cut hg a []
  rw [show ([] : List Ob).isEmpty = true from rfl, hy] at hcut
  obtain ⟨s, hs⟩ : ∃ s, befW l a = s := ⟨_, rfl⟩
  obtain ⟨t, ht⟩ : ∃ t, endW l a = t := ⟨_, rfl⟩
  rw [hs, ht] at HC hbe hcut
  rw [ht] at hel
  have HS := Lib.hid (show SmallW y from hy ▸ small_put hn hL.s small_nil)
  have HH := Lib.hid (And.intro hB (And.intro (ChAt.new w ao len cap a 65) (And.intro hL (And.intro hcut hkr))))
  clear hB hL hcut hs ht hg hn hy hkr
  go_enter Tryz.func66, Tryz.ntmps66
  obtain ⟨c0, c1, c2, c3⟩ := HH.out.2.1
  go_wp2_with (go_at_call 53; refine HC.out.mono ?_)
  rintro e w1 ⟨rfl, hb1⟩
  have hb01 := below_more HH.out.1 hb1
  obtain ⟨d0, d1, d2, d3⟩ := HH.out.2.1.more hb1
  have hL1 := HH.out.2.2.1.o.more hb01
  have hT := hL1.take s s (by omega) (Nat.le_refl _) (by omega)
  have hF := hL1.mid t len hel (Nat.le_refl _)
  have htd : (zs.drop t).take (len - t) = zs.drop t := List.take_of_length_le (by rw [List.length_drop, HH.out.2.2.1.o.hlen]; exact Nat.le_refl _)
  rw [htd] at hF
  have H2 : ∃ va vc w2, (∀ ty, (Builtin.append_ #[58, 58] ty #[.slice ao s s, .slice (fromP ao t len) (len - t) (len - t)]).run Tryz.prog w1 = .ok (.slice va (s + (len - t)) vc) w2) ∧ Parts w2 va (s + (len - t)) vc (zs.take s ++ zs.drop t) ∧ Below w1.heap.size w1 w2 := by
    by_cases hm : len - t = 0
    · have hd : zs.drop t = [] := List.eq_nil_of_length_eq_zero (by rw [hF.hlen]; exact hm)
      rw [hm] at hF
      rw [hd, List.append_nil, hm]
      exact ⟨ao, s, w1, parts_nothing Tryz.underlying58 Tryz.underlying58 (Nat.le_refl _) (fun _ => rfl), hT, Below.refl _ _⟩
    · obtain ⟨b, off, ea, _⟩ := hF.at (by omega)
      rw [ea] at hF ⊢
      obtain ⟨g, gc, w3, hr, hO, hb3⟩ := parts_grow (t := 58) (tx := 58) (c2 := len - t) (m := len - t) (ad := ⟨b, off, none⟩) (news := pcl (zs.drop t)) Tryz.underlying58 Tryz.underlying58 hT (by rw [pcl_length, hF.hlen]) (hF.news _ rfl) (pcl_cells _) (by omega) (by omega)
      have hlz : (zs.take s ++ zs.drop t).length = s + (len - t) := by rw [List.length_append, hT.hlen, hF.hlen]
      have hO2 : OwnP w1.heap.size w3 (.slice (some ⟨g, 0, none⟩) (s + (len - t)) gc) (zs.take s ++ zs.drop t) := by
        unfold OwnP
        rw [hlz, pcl_append]
        exact hO
      refine ⟨_, gc, w3, hr, hO2.parts hlz (fun x hx => ?_), hb3⟩
      rcases List.mem_append.1 hx with hx | hx
      · exact (hL1.hrows x (List.mem_of_mem_take hx)).more hb3
      · exact (hL1.hrows x (List.mem_of_mem_drop hx)).more hb3
  obtain ⟨va, vc, w2, hr2, hP2, hb2⟩ := H2
  have hpy : pts (zs.take s ++ zs.drop t) = y := by
    rw [HH.out.2.2.2.1, pts_append, pts_take, pts_drop, HH.out.2.2.1.e]
    rfl
  have hkl : kr = s + (len - t) := by rw [← HH.out.2.2.2.2, ← hpy, pts_length, hP2.hlen]
  have HW := Lib.hid (ownW_any ⟨hpy, hP2, HS.out⟩)
  have HR := Lib.hid hr2
  have HB := Lib.hid (And.intro (below_more hb01 hb2) hkl)
  obtain ⟨a2, ha2⟩ : ∃ a2, fromP ao t len = a2 := ⟨_, rfl⟩
  obtain ⟨m, hm⟩ : ∃ m, len - t = m := ⟨_, rfl⟩
  rw [ha2, hm] at HR
  rw [hm] at HW HB
  rw [ha2, hm]
  clear hb1 hb01 hL1 hT hF htd hr2 hP2 hb2 hpy hkl ha2 c0 c1 c2 c3
  go_wp2_with (first
    | (at_builtin; refine Lib.wpList_append_run _ rfl _ _ 58 58 rfl _ _ rfl rfl _ _ (HR.out _) ?_)
    | (go_at_call 56; refine HW.out.mono ?_))
  intro e1 w4 h4
  have HF := Lib.hid (SeqV.trans h4 HB.out.1)
  obtain ⟨vs, ra, rc, rfl, q1, q2, q3⟩ := h4
  clear q1 q2 q3
  go_wp2
  go_ret
  rw [HB.out.2]
  exact HF.out

theorem withW_any {a : Lab} (ha : a.fits) {ao : Option Addr} {len cap : Nat} {zs : List Pv} {l : List Pt} {oo : Option Addr} {ko oc : Nat} {os : List Ov} {lo : List Ob} {kr : Nat} {y : List Pt} {w : World} (hg : rightW l = true) (hn : l.length ≤ 9) (hy : putW l a lo = y) (hkr : y.length = kr) (hL : SP w ao len cap zs l) (hO : SO w oo ko oc os lo) :
    Calls Tryz.prog 66 #[.agg #[.slice ao len cap, .int .i64 a.l, .int .u64 a.c, .int .i64 a.i], .slice oo ko oc] w (SeqV y kr w) := by
  obtain rfl := hO.o.hlen
  by_cases h0 : os.length = 0
  · obtain rfl : os = [] := List.eq_nil_of_length_eq_zero h0
    obtain rfl : lo = [] := hO.e.symm
    exact withW_none hg hn hy hkr hL
  · exact withW_some ha (by omega) hg hn hy hkr hL hO

end Go.Proofs.YtlafcplcjpcikaaGreatDoor

/- set, Set: a label's space is set. -/
namespace Go.Proofs.YtlafcplcjpcikaaGreatDoor
open Go.RowKit Go.Proofs.Fld Go.Proofs.Rng Go.Proofs.Spc Go.Proofs.Cats Go.Proofs.Wld Go.Shelf Go.Sort

/-- What holds at the way out. -/
def OutSet (w : World) (c : Int) (a : Act) (W : World) : Prop := ∃ (v : Value) (u0 u1 u2 u3 u4 u5 u7 u8 u9 u10 u11 u12 u13 u14 u15 u16 u17 u18 u19 u20 u21 u22 u23 u24 u25 u26 : Value), a = { tmps := #[u0, u1, u2, u3, u4, u5, v, u7, u8, u9, u10, u11, u12, u13, u14, u15, u16, u17, u18, u19, u20, u21, u22, u23, u24, u25, u26], defers := [] } ∧ (∃ s, v = .iface 97 (.agg #[.int .i64 c, .string s])) ∧ Below w.heap.size w W
/-- What set tells. -/
def StP (c : Int) (y : List Pt) (kr : Nat) (w : World) (e : Ending) (w' : World) : Prop :=
  ∃ vs va vc v, e = .returned (.tuple #[.slice va kr vc, v]) ∧ SP w' va kr vc vs y ∧ (∀ x ∈ vs, softP w.heap.size w' x) ∧ Wt.ErrIs v c ∧ Below w.heap.size w w'
theorem StP.no {c : Int} {s : ByteArray} {w w' : World} (h : Below w.heap.size w w') : StP c [] 0 w (.returned (.tuple #[.slice none 0 0, .iface 97 (.agg #[.int .i64 c, .string s])])) w' :=
  ⟨[], none, 0, _, rfl, SP.nil w', (fun x hx => (by cases hx)), .flt c s, h⟩
theorem set_110a {l : List Pt} {a : Lab} {lo : List Ob} (h : rightW l = false) : setW l a lo = (110, []) := by
  unfold setW
  rw [if_pos (.inl h)]
theorem set_110b {l : List Pt} {a : Lab} {lo : List Ob} (h : rightB lo = false) : setW l a lo = (110, []) := by
  unfold setW
  rw [if_pos (.inr h)]
theorem set_20 {l : List Pt} {a : Lab} {lo : List Ob} (h1 : rightW l = true) (h2 : rightB lo = true) (h3 : a.right = false) : setW l a lo = (20, []) := by
  unfold setW
  rw [if_neg (by simp [h1, h2]), if_pos h3]

set_option maxRecDepth 100000 in
set_option maxHeartbeats 4000000 in
theorem setW_any {s0 : Sn} {a : Lab} (ha : a.fits) {ao : Option Addr} {len cap : Nat} {zs : List Pv} {l : List Pt} {oo : Option Addr} {ko oc : Nat} {os : List Ov} {lo : List Ob} {c : Int} {y : List Pt} {kr : Nat} {w : World} (hn : l.length ≤ 9) (hr : setW l a lo = (c, y)) (hkr : y.length = kr) (hL : SP w ao len cap zs l) (hO : SO w oo ko oc os lo) (hs : Ev s0 w) :
    Calls Tryz.prog 47 #[.agg #[.slice ao len cap, .int .i64 a.l, .int .u64 a.c, .int .i64 a.i], .slice oo ko oc] w (StP c y kr w) := by
  have hB := Below.new w (.cells #[.slice ao len cap, .int .i64 a.l, .int .u64 a.c, .int .i64 a.i] 65)
  have hC := ChAt.new w ao len cap a 65
  have HH := Lib.hid (And.intro hB (And.intro hC (And.intro (hL.more hB) (And.intro (hO.more hB) (And.intro (hs.more hB) ha)))))
  obtain ⟨c0, c1, c2, c3⟩ := hC
  cases h1 : rightW l with
  | false =>
    rw [set_110a h1] at hr
    obtain ⟨rfl, rfl⟩ := Prod.mk.inj hr
    obtain rfl : kr = 0 := hkr.symm
    have HK := Lib.hid (checkW_any h1 HH.out.2.2.1 HH.out.2.2.2.2.1)
    clear hB hL hO hs ha hr hkr h1 hn
    go_enter Tryz.func47, Tryz.ntmps47
    go_wp2
    refine wp_scope_jumps 0 (OutSet w 110) (fun _ _ => 0) rfl ?first ?pass
    case first =>
      go_wp2_with (go_at_call 31; refine HK.out.mono ?_)
      rintro e w1 ⟨hv, hb1⟩
      obtain ⟨s1, rfl⟩ : ∃ s, e = .returned (.iface 97 (.agg #[.int .i64 110, .string s])) := by
        rcases hv with ⟨hf, _⟩ | ⟨_, h⟩
        · cases hf
        · exact h
      have HB1 := Lib.hid (below_more HH.out.1 hb1)
      clear hv hb1
      go_wp2
      apply wp_goto
      exact ⟨rfl, _, _, _, _, _, _, _, _, _, _, _, _, _, _, _, _, _, _, _, _, _, _, _, _, _, _, _, rfl, ⟨_, rfl⟩, HB1.out⟩
    case pass =>
      rintro a W ⟨v, u0, u1, u2, u3, u4, u5, u7, u8, u9, u10, u11, u12, u13, u14, u15, u16, u17, u18, u19, u20, u21, u22, u23, u24, u25, u26, rfl, ⟨q, rfl⟩, hb⟩
      go_wp2
      refine bodyPost_ret (results_tmp2 rfl _ _ _) rfl ?_
      exact StP.no hb
  | true =>
    have HK := Lib.hid (checkW_any h1 HH.out.2.2.1 HH.out.2.2.2.2.1)
    cases h2 : rightB lo with
    | false =>
      rw [set_110b h2] at hr
      obtain ⟨rfl, rfl⟩ := Prod.mk.inj hr
      obtain rfl : kr = 0 := hkr.symm
      have H2 := Lib.hid h2
      clear hB hL hO hs ha hr hkr h1 h2 hn
      go_enter Tryz.func47, Tryz.ntmps47
      go_wp2
      refine wp_scope_jumps 0 (OutSet w 110) (fun _ _ => 0) rfl ?first ?pass
      case first =>
        go_wp2_with (go_at_call 31; refine HK.out.mono ?_)
        rintro e w1 ⟨hv, hb1⟩
        obtain rfl : e = .returned .nilIface := by
          rcases hv with ⟨_, h⟩ | ⟨hf, _⟩
          · exact h
          · cases hf
        have HB1 := Lib.hid (And.intro (below_more HH.out.1 hb1) (And.intro (HH.out.2.2.2.1.more hb1) (HH.out.2.2.2.2.1.more hb1)))
        clear hv hb1
        go_wp2_with (go_at_call 60; refine (Right_w H2.out HB1.out.2.1 (WE.of HB1.out.2.2)).mono ?_)
        rintro e w2 ⟨rfl, hb2⟩
        have HB2 := Lib.hid (below_more HB1.out.1 hb2)
        clear hb2
        go_wp2
        apply wp_goto
        exact ⟨rfl, _, _, _, _, _, _, _, _, _, _, _, _, _, _, _, _, _, _, _, _, _, _, _, _, _, _, _, rfl, ⟨_, rfl⟩, HB2.out⟩
      case pass =>
        rintro a W ⟨v, u0, u1, u2, u3, u4, u5, u7, u8, u9, u10, u11, u12, u13, u14, u15, u16, u17, u18, u19, u20, u21, u22, u23, u24, u25, u26, rfl, ⟨q, rfl⟩, hb⟩
        go_wp2
        refine bodyPost_ret (results_tmp2 rfl _ _ _) rfl ?_
        exact StP.no hb
    | true =>
      have H2 := Lib.hid h2
      cases h3 : a.right with
      | false =>
        rw [set_20 h1 h2 h3] at hr
        obtain ⟨rfl, rfl⟩ := Prod.mk.inj hr
        obtain rfl : kr = 0 := hkr.symm
        have H3 := Lib.hid h3
        clear hB hL hO hs ha hr hkr h1 h2 h3 hn
        go_enter Tryz.func47, Tryz.ntmps47
        go_wp2
        refine wp_scope_jumps 0 (OutSet w 20) (fun _ _ => 0) rfl ?first ?pass
        case first =>
          go_wp2_with (go_at_call 31; refine HK.out.mono ?_)
          rintro e w1 ⟨hv, hb1⟩
          obtain rfl : e = .returned .nilIface := by
            rcases hv with ⟨_, h⟩ | ⟨hf, _⟩
            · exact h
            · cases hf
          have HB1 := Lib.hid (And.intro (below_more HH.out.1 hb1) (And.intro (HH.out.2.2.2.1.more hb1) (And.intro (HH.out.2.2.2.2.1.more hb1) (And.intro (HH.out.2.1.more hb1) (HH.out.2.2.1.more hb1)))))
          clear hv hb1 c0 c1 c2 c3
          go_wp2_with (go_at_call 60; refine (Right_w H2.out HB1.out.2.1 (WE.of HB1.out.2.2.1)).mono ?_)
          rintro e w2 ⟨rfl, hb2⟩
          have HB2 := Lib.hid (And.intro (below_more HB1.out.1 hb2) (And.intro (HB1.out.2.2.2.2.more hb2) (And.intro (HB1.out.2.1.more hb2) (HB1.out.2.2.2.1.more hb2))))
          clear hb2
          obtain ⟨d0, d1, d2, d3⟩ := HB2.out.2.2.2
          go_wp2_with (go_at_call 49; refine (rightW_any a HH.out.2.2.2.2.2 H3.out w2).mono ?_)
          rintro e w3 ⟨rfl, hb3⟩
          have HB3 := Lib.hid (And.intro (below_more HB2.out.1 hb3) (And.intro (HB2.out.2.1.more hb3) (And.intro (HB2.out.2.2.1.more hb3) (HB2.out.2.2.2.more hb3))))
          clear hb3
          go_wp2
          apply wp_goto
          exact ⟨rfl, _, _, _, _, _, _, _, _, _, _, _, _, _, _, _, _, _, _, _, _, _, _, _, _, _, _, _, rfl, ⟨_, rfl⟩, HB3.out.1⟩
        case pass =>
          rintro a W ⟨v, u0, u1, u2, u3, u4, u5, u7, u8, u9, u10, u11, u12, u13, u14, u15, u16, u17, u18, u19, u20, u21, u22, u23, u24, u25, u26, rfl, ⟨q, rfl⟩, hb⟩
          go_wp2
          refine bodyPost_ret (results_tmp2 rfl _ _ _) rfl ?_
          exact StP.no hb
      | true =>
        rw [set_ok h1 h2 h3] at hr
        obtain ⟨rfl, hy⟩ := Prod.mk.inj hr
        have H3 := Lib.hid h3
        have HY := Lib.hid (And.intro h1 (And.intro hn (And.intro hy hkr)))
        clear hB hL hO hs ha hr hkr h1 h2 h3 hn hy
        go_enter Tryz.func47, Tryz.ntmps47
        go_wp2
        refine wp_scope_jumps 0 (fun _ _ => False) (fun _ _ => 0) rfl ?first ?pass
        case pass => exact fun _ _ h => h.elim
        case first =>
          go_wp2_with (go_at_call 31; refine HK.out.mono ?_)
          rintro e w1 ⟨hv, hb1⟩
          obtain rfl : e = .returned .nilIface := by
            rcases hv with ⟨_, h⟩ | ⟨hf, _⟩
            · exact h
            · cases hf
          have HB1 := Lib.hid (And.intro (below_more HH.out.1 hb1) (And.intro (HH.out.2.2.2.1.more hb1) (And.intro (HH.out.2.2.2.2.1.more hb1) (And.intro (HH.out.2.1.more hb1) (HH.out.2.2.1.more hb1)))))
          clear hv hb1 c0 c1 c2 c3
          go_wp2_with (go_at_call 60; refine (Right_w H2.out HB1.out.2.1 (WE.of HB1.out.2.2.1)).mono ?_)
          rintro e w2 ⟨rfl, hb2⟩
          have HB2 := Lib.hid (And.intro (below_more HB1.out.1 hb2) (And.intro (HB1.out.2.2.2.2.more hb2) (And.intro (HB1.out.2.1.more hb2) (HB1.out.2.2.2.1.more hb2))))
          clear hb2
          obtain ⟨d0, d1, d2, d3⟩ := HB2.out.2.2.2
          go_wp2_with (go_at_call 49; refine (rightW_any a HH.out.2.2.2.2.2 H3.out w2).mono ?_)
          rintro e w3 ⟨rfl, hb3⟩
          have HB3 := Lib.hid (And.intro (below_more HB2.out.1 hb3) (And.intro (HB2.out.2.1.more hb3) (And.intro (HB2.out.2.2.1.more hb3) (HB2.out.2.2.2.more hb3))))
          clear hb3
          have HW := Lib.hid (withW_any HH.out.2.2.2.2.2 HY.out.1 HY.out.2.1 HY.out.2.2.1 HY.out.2.2.2 HB3.out.2.1 HB3.out.2.2.1)
          obtain ⟨f0, f1, f2, f3⟩ := HB3.out.2.2.2
          clear d0 d1 d2 d3
          go_wp2_with (go_at_call 66; refine HW.out.mono ?_)
          rintro e w4 h4
          have HR := Lib.hid (SeqV.trans h4 HB3.out.1)
          obtain ⟨vs, va, vc, rfl, q1, q2, q3⟩ := h4
          clear q1 q2 q3
          go_wp2
          refine bodyPost_ret (results_tmp2 rfl _ _ _) rfl ?_
          obtain ⟨vs', va', vc', he, r1, r2, r3⟩ := HR.out
          injection he with he1
          injection he1 with e1 e2 e3
          subst e1 e3
          exact ⟨vs', _, _, .nilIface, rfl, r1, r2, .ok, r3⟩

set_option maxHeartbeats 2000000 in
theorem GSet_w {s : Sn} {w0 w : World} {ao : Option Addr} {k0 cap : Nat} {zs : List Pv} {l : List Pt} {a : Lab} {oo : Option Addr} {ko oc : Nat} {os : List Ov} {lo : List Ob} {c : Int} {y : List Pt} {kr : Nat} (hn : l.length ≤ 9) (hf : a.fits) (hr : setW l a lo = (c, y)) (hkr : y.length = kr) (hL : SP w ao k0 cap zs l) (hO : SO w oo ko oc os lo) (hs : WE s w0 w) :
    Calls Tryz.prog 24 #[.slice ao k0 cap, .agg #[.int .i64 a.l, .int .u64 a.c, .int .i64 a.i], .slice oo ko oc] w (ResV c y kr w) := by
  have hN1 := Below.new w (.cells #[.int .i64 a.l, .int .u64 a.c, .int .i64 a.i] 25)
  have HC := Lib.hid (setW_any hf hn hr hkr (hL.more hN1) (hO.more hN1) (hs.ev.more hN1))
  have HB := Lib.hid (And.intro hN1 (hs.ev.more hN1))
  clear hL hN1 hO hr hkr hn hs
  go_enter Tryz.func24, Tryz.ntmps24
  go_wp2_with (go_at_call 47; refine HC.out.mono ?_)
  rintro e w1 ⟨vs, va, vc, v, rfl, h2, h3, hv, h4⟩
  have HV := Lib.hid hv
  have HB1 := Lib.hid (And.intro (below_more HB.out.1 h4) (And.intro (HB.out.2.more h4) (And.intro h2 (fun x hx => (h3 x hx).mono HB.out.1.size))))
  clear h2 h3 h4 hv
  go_wp2_with (go_at_call 48; refine (Wt.told_any HV.out w1 HB1.out.2.1.et).mono ?_)
  rintro e w2 ⟨rfl, hb2⟩
  have HR := Lib.hid (show ResV c y kr w (.returned (.tuple #[.slice va kr vc, .int .i64 c])) w2 from ⟨vs, va, vc, rfl, HB1.out.2.2.1.more hb2, fun x hx => softP.more (HB1.out.2.2.2 x hx) (HB1.out.2.2.1.o.hrows x hx) hb2, below_more HB1.out.1 hb2⟩)
  clear hb2
  go_wp2
  refine bodyPost_ret (results_tmp2 rfl _ _ _) rfl ?_
  exact HR.out

end Go.Proofs.YtlafcplcjpcikaaGreatDoor

/- Same. -/
namespace Go.Proofs.YtlafcplcjpcikaaGreatDoor
open Go.RowKit Go.Proofs.Fld Go.Proofs.Rng Go.Proofs.Spc Go.Proofs.Cats Go.Proofs.Wld Go.Shelf Go.Sort

/-- So far they are the same. -/
def EqP (l m : List Pv) (k : Nat) : Prop := ∀ (j : Nat) (x y : Pv), j < k → l[j]? = some x → m[j]? = some y → samePt (pt x) (pt y) = true
theorem EqP.next {l m : List Pv} {k : Nat} {x y : Pv} (h : EqP l m k) (hx : l[k]? = some x) (hy : m[k]? = some y) (hs : samePt (pt x) (pt y) = true) : EqP l m (k + 1) := by
  intro j a b hj ha hb
  by_cases hjk : j < k
  · exact h j a b hjk ha hb
  · obtain rfl : j = k := by omega
    rw [hx] at ha
    rw [hy] at hb
    cases ha
    cases hb
    exact hs
theorem EqP.all {l m : List Pv} {k : Nat} (h : EqP l m k) (h1 : l.length = k) (h2 : m.length = k) : sameW (pts l) (pts m) = true := by
  refine sameW_all (by rw [pts_length, pts_length, h1, h2]) fun j x y hx hy => ?_
  have hj := (List.getElem?_eq_some_iff.1 hx).1
  obtain ⟨x', hx', rfl⟩ := pts_at hx
  obtain ⟨y', hy', rfl⟩ := pts_at hy
  exact h j x' y' (by rw [pts_length] at hj; omega) hx' hy'

set_option maxRecDepth 100000 in
set_option maxHeartbeats 4000000 in
theorem one_sameP (x y : Pv) (hx : Small (obs x.os)) (hy : Small (obs y.os)) {b : Bool} (hb : samePt (pt x) (pt y) = b) (w : World) (h1 : Pl w x) (h2 : Pl w y) :
    Calls Tryz.prog 42 #[.agg #[.int .i64 x.a.l, .int .u64 x.a.c, .int .i64 x.a.i, .slice x.va x.os.length x.vc], .agg #[.int .i64 y.a.l, .int .u64 y.a.c, .int .i64 y.a.i, .slice y.va y.os.length y.vc]] w (BoolP b w) := by
  have hB1 := Below.new w (.cells #[.int .i64 x.a.l, .int .u64 x.a.c, .int .i64 x.a.i, .slice x.va x.os.length x.vc] 44)
  have hN := Below.new (w.alloc (.cells #[.int .i64 x.a.l, .int .u64 x.a.c, .int .i64 x.a.i, .slice x.va x.os.length x.vc] 44)) (.cells #[.int .i64 y.a.l, .int .u64 y.a.c, .int .i64 y.a.i, .slice y.va y.os.length y.vc] 44)
  have hB2 := below_more hB1 hN
  obtain ⟨p0, p1, p2, p3⟩ := ((PtAt.new w x 44).more hN).var
  have r2 := PtAt.new (w.alloc (.cells #[.int .i64 x.a.l, .int .u64 x.a.c, .int .i64 x.a.i, .slice x.va x.os.length x.vc] 44)) y 44
  rw [World.size_alloc] at r2
  obtain ⟨q0, q1, q2, q3⟩ := r2.var
  obtain ⟨W0, hW0⟩ : ∃ W0, (w.alloc (.cells #[.int .i64 x.a.l, .int .u64 x.a.c, .int .i64 x.a.i, .slice x.va x.os.length x.vc] 44)).alloc (.cells #[.int .i64 y.a.l, .int .u64 y.a.c, .int .i64 y.a.i, .slice y.va y.os.length y.vc] 44) = W0 := ⟨_, rfl⟩
  rw [hW0] at hB2 p0 p1 p2 p3 q0 q1 q2 q3
  have e1 := Lb.eqL x.a y.a
  have e2 := Lb.eqInL x.a y.a
  have HE := Lib.hid (Same_w (b := sameL (obs x.os) (obs y.os)) rfl ⟨rfl, (h1.more hB2).o, hx⟩ ⟨rfl, (h2.more hB2).o, hy⟩)
  have HB := Lib.hid (And.intro hB2 hb)
  clear hB1 hB2 hN h1 h2 hb r2 hx hy
  have fin : ∀ {c : Bool}, samePt (pt x) (pt y) = c → b = c := fun h => by rw [← HB.out.2]; exact h
  cases hs : x.a.same y.a with
  | true =>
    rw [hs] at e1 e2
    have HV := Lib.hid (fin (show samePt (pt x) (pt y) = sameL (obs x.os) (obs y.os) from by
      show (x.a.same y.a && sameL (obs x.os) (obs y.os)) = _
      rw [hs]
      rfl))
    clear fin hs
    go_enter Tryz.func42, Tryz.ntmps42
    go_wp2_with (go_at_call 43; refine HE.out.mono ?_)
    rintro e w1 ⟨rfl, hb1⟩
    have HB1 := Lib.hid (below_more HB.out.1 hb1)
    clear hb1
    go_wp2
    go_ret
    exact ⟨by rw [HV.out]; rfl, HB1.out⟩
  | false =>
    rw [hs] at e1 e2
    have HV := Lib.hid (fin (show samePt (pt x) (pt y) = false from by
      show (x.a.same y.a && sameL (obs x.os) (obs y.os)) = _
      rw [hs]
      rfl))
    clear fin hs
    go_enter Tryz.func42, Tryz.ntmps42
    go_wp2
    go_ret
    exact ⟨by rw [HV.out]; rfl, HB.out.1⟩

set_option maxRecDepth 100000 in
set_option maxHeartbeats 4000000 in
theorem equalP_any (a1 a2 : Option Addr) (len1 len2 c1 c2 : Nat) (l m : List Pv) (hr1 : len1 ≤ 1000000) (hr2 : len2 ≤ 1000000) (hbl : ∀ x ∈ l, Small (obs x.os)) (hbm : ∀ x ∈ m, Small (obs x.os)) (w : World) (h1 : Parts w a1 len1 c1 l) (h2 : Parts w a2 len2 c2 m) :
    Calls Tryz.prog 41 #[.slice a1 len1 c1, .slice a2 len2 c2, .func (.func 42) #[] #[]] w (BoolP (sameW (pts l) (pts m)) w) := by
  have e1 := h1.hlen
  have e2 := h2.hlen
  by_cases hne : len1 = len2
  · subst hne
    have HH := Lib.hid (And.intro h1 (And.intro h2 (And.intro e1 e2)))
    have HD := Lib.hid (And.intro hbl hbm)
    clear h1 h2 e1 e2 hbl hbm
    go_enter Tryz.func41, Tryz.ntmps41
    go_wp2
    go_loopw [17] (fun v wr => ∃ k : Nat, k ≤ len1 ∧ v = .int .i64 k ∧ Hid (EqP l m k) ∧ Below w.heap.size w wr) (fun v _ => len1 - (intOf v).toNat)
    case atStart => exact ⟨0, Nat.zero_le _, rfl, (fun j x y hj => absurd hj (by omega)), Below.refl _ _⟩
    case round =>
      obtain ⟨k, hk, rfl, HI, hB⟩ := hrel
      by_cases hlt : k < len1
      · obtain ⟨x, hx⟩ : ∃ x, l[k]? = some x := ⟨_, List.getElem?_eq_getElem (by rw [HH.out.2.2.1]; exact hlt)⟩
        obtain ⟨y, hy⟩ : ∃ y, m[k]? = some y := ⟨_, List.getElem?_eq_getElem (by rw [HH.out.2.2.2]; exact hlt)⟩
        obtain ⟨b1, o1, rfl, hb1, hc1⟩ := HH.out.1.at (by omega)
        obtain ⟨b2, o2, rfl, hb2, hc2⟩ := HH.out.2.1.at (by omega)
        have hd1 : decide ((k : Int) < (len1 : Int)) = true := decide_eq_true (by omega)
        obtain ⟨q0, q1, q2, q3⟩ := (hc1 k x hx).of_block (hB.block b1 hb1)
        have hN1 := Below.new wr (.cells #[.int .i64 x.a.l, .int .u64 x.a.c, .int .i64 x.a.i, .slice x.va x.os.length x.vc] 44)
        obtain ⟨p0, p1, p2, p3⟩ := ((hc2 k y hy).of_block (hB.block b2 hb2)).more hN1
        have hN2 := Below.new (wr.alloc (.cells #[.int .i64 x.a.l, .int .u64 x.a.c, .int .i64 x.a.i, .slice x.va x.os.length x.vc] 44)) (.cells #[.int .i64 y.a.l, .int .u64 y.a.c, .int .i64 y.a.i, .slice y.va y.os.length y.vc] 44)
        have hO1 := (PtAt.new wr x 44).more hN2
        have hO2 := PtAt.new (wr.alloc (.cells #[.int .i64 x.a.l, .int .u64 x.a.c, .int .i64 x.a.i, .slice x.va x.os.length x.vc] 44)) y 44
        have hNN := below_more hN1 hN2
        have hBB := hB.trans (hNN.mono hB.size)
        rw [World.size_alloc] at hO2
        have HC := Lib.hid (one_sameP x y (HD.out.1 x (List.mem_of_getElem? hx)) (HD.out.2 y (List.mem_of_getElem? hy)) rfl ((wr.alloc (.cells #[.int .i64 x.a.l, .int .u64 x.a.c, .int .i64 x.a.i, .slice x.va x.os.length x.vc] 44)).alloc (.cells #[.int .i64 y.a.l, .int .u64 y.a.c, .int .i64 y.a.i, .slice y.va y.os.length y.vc] 44)) (((HH.out.1.row hx).more (hB.mono (Nat.le_refl _))).more hNN) (((HH.out.2.1.row hy).more (hB.mono (Nat.le_refl _))).more hNN))
        have HB2 := Lib.hid hBB
        have HX := Lib.hid (And.intro hx hy)
        obtain ⟨u0, u1, u2, u3⟩ := hO1.var
        obtain ⟨v0, v1, v2, v3⟩ := hO2.var
        clear hx hy hc1 hc2 hN1 hN2 hNN hO1 hO2 hBB
        go_wp2_with (go_at_call 42; refine HC.out.mono ?_)
        rintro e w1 ⟨rfl, hb3⟩
        have HB3 := Lib.hid (HB2.out.trans (hb3.mono HB2.out.size))
        clear hb3
        cases hs : samePt (pt x) (pt y) with
        | true =>
          have HN := Lib.hid (HI.out.next HX.out.1 HX.out.2 hs)
          clear hs
          go_wp2
          go_roundw
          case rel => exact ⟨k + 1, by omega, by simp, HN.out, HB3.out⟩
          case measure => simp [intOf]; omega
        | false =>
          have HN := Lib.hid (sameW_at (pts_get HX.out.1) (pts_get HX.out.2) hs)
          clear hs
          go_wp2
          go_ret
          exact ⟨by rw [HN.out]; rfl, HB3.out⟩
      · obtain rfl : k = len1 := by omega
        have hd1 : decide ((k : Int) < (k : Int)) = false := decide_eq_false (by omega)
        have HN := Lib.hid (HI.out.all HH.out.2.2.1 HH.out.2.2.2)
        go_wp2
        go_ret
        exact ⟨by rw [HN.out]; rfl, hB⟩
  · have HN := Lib.hid (sameW_len (l := pts l) (m := pts m) (by rw [pts_length, pts_length]; omega))
    have hd : (((len1 : Nat) : Int) != ((len2 : Nat) : Int)) = true := by simp; omega
    clear h1 h2 e1 e2 hbl hbm
    go_enter Tryz.func41, Tryz.ntmps41
    go_wp2
    go_ret
    exact ⟨by rw [HN.out]; rfl, Below.refl _ _⟩

set_option maxHeartbeats 2000000 in
theorem GSame_w {s : Sn} {w0 w : World} {ao bo : Option Addr} {k0 k1 cap cap1 : Nat} {zs ys : List Pv} {l m : List Pt} {b : Bool} (hb : sameW l m = b) (hL : SP w ao k0 cap zs l) (hM : SP w bo k1 cap1 ys m) (_hs : WE s w0 w) :
    Calls Tryz.prog 22 #[.slice ao k0 cap, .slice bo k1 cap1] w (BoolP b w) := by
  have HE := Lib.hid (equalP_any ao bo k0 k1 cap cap1 zs ys (by have := hL.le; omega) (by have := hM.le; omega) (fun x hx => hL.s.b _ (hL.e ▸ mem_pts hx)) (fun x hx => hM.s.b _ (hM.e ▸ mem_pts hx)) w hL.o hM.o)
  rw [hL.e, hM.e, hb] at HE
  clear hL hM hb
  go_enter Tryz.func22, Tryz.ntmps22
  go_wp2_with (go_at_call 41; refine HE.out.mono ?_)
  rintro e w1 ⟨rfl, hb1⟩
  have HB1 := Lib.hid hb1
  clear hb1
  go_wp2
  go_ret
  exact ⟨rfl, HB1.out⟩

end Go.Proofs.YtlafcplcjpcikaaGreatDoor

/- The contracts of package world: GRight_w, GGet_w, GSet_w, GSeen_w, GWithin_w, GSame_w. -/
namespace Go.Proofs.YtlafcplcjpcikaaGreatDoor
end Go.Proofs.YtlafcplcjpcikaaGreatDoor

/- What is known: shown. -/
namespace Go.Proofs.YtlafcplcjpcikaaGreatDoor
open Go.RowKit Go.Proofs.Fld Go.Proofs.Rng Go.Proofs.Spc Go.Proofs.Cats Go.Proofs.Wld Go.Shelf Go.Sort

def oF : Ob := ⟨[97], 1, [], 0, []⟩
def pF : Pt := ⟨Lab.bot, [oF]⟩
theorem small_one : Small [oF] := small_right (by decide)
/-- The literal's one object. -/
theorem so_lit (W : World) : SO (W.alloc (.cells #[.string { data := #[97] }, .int .i64 1, .string { data := #[] }, .int .i64 0, .slice none 0 0] 51)) (some ⟨W.heap.size, 0, none⟩) 1 1 [⟨oF, none, 0⟩] [oF] := by
  refine ⟨rfl, ⟨rfl, Nat.le_refl _, by unfold maxLen; omega, fun e => (by cases e), fun x hx => ?_, fun _ => ⟨_, _, rfl, fun j x hj => ?_⟩⟩, small_one⟩
  · obtain rfl := List.mem_singleton.1 hx
    exact ⟨Txs.nil _, by decide, by decide⟩
  · cases j with
    | zero =>
      obtain rfl : (⟨oF, none, 0⟩ : Ov) = x := Option.some.inj hj
      exact ⟨by simp; rfl, by simp; rfl, by simp; rfl, by simp; rfl, by simp; rfl⟩
    | succ j => cases hj
section
variable {s : Sn} {w0 w : World} {ao : Option Addr} {cap : Nat} {zs : List Pv} {bo : Option Addr} {c1 : Nat} {os : List Ov}
theorem wsh1 (hO : SO w bo 1 c1 os [oF]) (hs : WE s w0 w) : Calls Tryz.prog 24 #[.slice none 0 0, .agg #[.int .i64 0, .int .u64 0, .int .i64 7], .slice bo 1 c1] w (ResV 0 [pF] 1 w) := GSet_w (a := Lab.bot) (by simp) Lab.fits_bot (by rfl) rfl (SP.nil w) hO hs
theorem wsh2 (hL : SP w ao 1 cap zs [pF]) (hs : WE s w0 w) : Calls Tryz.prog 24 #[.slice ao 1 cap, .agg #[.int .i64 0, .int .u64 0, .int .i64 7], .slice none 0 0] w (ResV 0 [] 0 w) := GSet_w (a := Lab.bot) (by simp) Lab.fits_bot (by rfl) rfl hL (SO.nil w) hs
theorem wsh3 (hO : SO w bo 1 c1 os [oF]) (hs : WE s w0 w) : Calls Tryz.prog 24 #[.slice none 0 0, .agg #[.int .i64 16, .int .u64 0, .int .i64 0], .slice bo 1 c1] w (ResV 20 [] 0 w) := GSet_w (a := ⟨16, 0, 0⟩) (by simp) (by unfold Lab.fits U64; decide) (by rfl) rfl (SP.nil w) hO hs
theorem wsh4 (hL : SP w ao 1 cap zs [pF]) (hs : WE s w0 w) : Calls Tryz.prog 15 #[.slice ao 1 cap, .agg #[.int .i64 0, .int .u64 0, .int .i64 7]] w (SeqU [oF] 1 w) := GGet_w (a := Lab.bot) Lab.fits_bot (by rfl) rfl hL hs
theorem wsh5 (hL : SP w ao 1 cap zs [pF]) (hs : WE s w0 w) : Calls Tryz.prog 20 #[.slice ao 1 cap, .int .i64 11] w (BoolP true w) := GWithin_w (by rfl) hL hs
theorem wsh6 (hL : SP w ao 1 cap zs [pF]) (hs : WE s w0 w) : Calls Tryz.prog 20 #[.slice ao 1 cap, .int .i64 10] w (BoolP false w) := GWithin_w (by rfl) hL hs
end
set_option maxRecDepth 100000 in
set_option maxHeartbeats 4000000 in
theorem shown_w (s : Sn) (w : World) (hs : Ev s w) : Calls Tryz.prog 10 #[] w (BoolP true w) := by
  have D := Lib.hid (WE.of hs)
  clear hs
  have hN := Below.new w (.cells #[.string { data := #[97] }, .int .i64 1, .string { data := #[] }, .int .i64 0, .slice none 0 0] 51)
  have O := Lib.hid (so_lit w)
  replace D := Lib.hid (D.out.more hN)
  clear hN
  go_enter Tryz.func10, Tryz.ntmps10
  go_wp2_with (go_at_call 30; refine (Lb.bottom_any _).mono ?_)
  rintro e w1 ⟨rfl, hb⟩
  replace D := Lib.hid (D.out.more hb)
  replace O := Lib.hid (O.out.more hb)
  clear hb
  go_wp2_with (go_at_call 24; refine (wsh1 O.out D.out).mono ?_)
  rintro e w2 ⟨vs2, va2, vc2, rfl, hA, _, hb⟩
  replace D := Lib.hid (D.out.more hb)
  replace O := Lib.hid (O.out.more hb)
  have A := Lib.hid hA
  clear hA hb
  go_wp2_with (go_at_call 30; refine (Lb.bottom_any _).mono ?_)
  rintro e w3 ⟨rfl, hb⟩
  replace D := Lib.hid (D.out.more hb)
  replace O := Lib.hid (O.out.more hb)
  replace A := Lib.hid (A.out.more hb)
  clear hb
  go_wp2_with (go_at_call 24; refine (wsh2 A.out D.out).mono ?_)
  rintro e w4 ⟨vs4, va4, vc4, rfl, _, _, hb⟩
  replace D := Lib.hid (D.out.more hb)
  replace O := Lib.hid (O.out.more hb)
  replace A := Lib.hid (A.out.more hb)
  clear hb
  go_wp2_with (go_at_call 24; refine (wsh3 O.out D.out).mono ?_)
  rintro e w5 ⟨vs5, va5, vc5, rfl, _, _, hb⟩
  replace D := Lib.hid (D.out.more hb)
  replace A := Lib.hid (A.out.more hb)
  clear hb O
  go_wp2_with (go_at_call 30; refine (Lb.bottom_any _).mono ?_)
  rintro e w6 ⟨rfl, hb⟩
  replace D := Lib.hid (D.out.more hb)
  replace A := Lib.hid (A.out.more hb)
  clear hb
  go_wp2_with (go_at_call 15; refine (wsh4 A.out D.out).mono ?_)
  rintro e w7 ⟨vs7, va7, vc7, rfl, _, _, hb⟩
  replace D := Lib.hid (D.out.more hb)
  replace A := Lib.hid (A.out.more hb)
  clear hb
  go_wp2_with (go_at_call 20; refine (wsh5 A.out D.out).mono ?_)
  rintro e w8 ⟨rfl, hb⟩
  replace D := Lib.hid (D.out.more hb)
  replace A := Lib.hid (A.out.more hb)
  clear hb
  go_wp2_with (go_at_call 20; refine (wsh6 A.out D.out).mono ?_)
  rintro e w9 ⟨rfl, hb⟩
  replace D := Lib.hid (D.out.more hb)
  clear hb A
  go_wp2
  go_ret
  exact ⟨rfl, D.out.below⟩
end Go.Proofs.YtlafcplcjpcikaaGreatDoor
