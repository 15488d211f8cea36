/- cut, few, Few: the first items, cut; what is known: shown. -/
import Derived.Test.YtbdhagilmdmpdaaDoorRgSame
namespace Go.Proofs.Rng
/-- The first forty, of at most two hundred and ten bytes. -/
def fewK (l : List It) (k : Nat) : List It := (l.take k).map fun x => x.take 210
def fewI (l : List It) : List It := fewK l 40
theorem fewI_length (l : List It) : (fewI l).length ≤ 40 := by
  unfold fewI fewK
  rw [List.length_map, List.length_take]
  omega
theorem fewI_item {l : List It} {x : It} (h : x ∈ fewI l) : x.length ≤ 210 := by
  unfold fewI fewK at h
  obtain ⟨y, _, rfl⟩ := List.mem_map.1 h
  rw [List.length_take]
  omega
theorem takes_bound {l : List It} (h : ∀ x ∈ l, x.length ≤ 210) : takes l ≤ l.length * 211 := by
  induction l with
  | nil => simp [takes]
  | cons a r ih =>
    have h1 := h a (by simp)
    have h2 := ih fun x hx => h x (by simp [hx])
    simp only [takes, List.length_cons]
    omega
theorem fewI_takes (l : List It) : takes (fewI l) ≤ 8440 := by
  have h1 := takes_bound (l := fewI l) fun x hx => fewI_item hx
  have h2 := fewI_length l
  omega
theorem fewI_next {l : List It} {k : Nat} {x : It} (h : l[k]? = some x) : fewK l (k + 1) = fewK l k ++ [x.take 210] := by
  unfold fewK
  have e : l.take (k + 1) = l.take k ++ [x] := by
    rw [List.take_add_one, h]
    rfl
  rw [e, List.map_append]
  rfl
end Go.Proofs.Rng
namespace Go.Proofs.YtbdhagilmdmpdaaDoor
open Go.RowKit Go.Proofs.Fld Go.Proofs.Rng Go.Shelf Go.Sort

/-- It tells a text, and leaves all as it was. -/
def CutP (x : It) (w : World) (e : Ending) (w' : World) : Prop := e = .returned (.string (bs x)) ∧ w = w'
set_option maxHeartbeats 1000000 in
theorem cut_any (x : It) (hx : x.length ≤ 9223372036854775807) (w : World) : Calls Tryd.prog 14 #[.string (bs x)] w (CutP (x.take 210) w) := by
  have hz := bs_size x
  by_cases h : x.length ≤ 210
  · have hs := str_upto x x.length (Nat.le_refl _)
    rw [List.take_of_length_le (Nat.le_refl _)] at hs
    rw [List.take_of_length_le h]
    have h1 : min (x.length : Int) 210 = x.length := by omega
    have h2 : ¬ ((210 : Int) < (x.length : Int)) := by omega
    go_enter Tryd.func14, Tryd.ntmps14
    go_wp2
    go_ret
    exact ⟨rfl, rfl⟩
  · have hs := str_upto x 210 (by omega)
    have h1 : min (x.length : Int) 210 = 210 := by omega
    have h2 : ((210 : Int) < (x.length : Int)) := by omega
    rw [show ((210 : Nat) : Int) = 210 from rfl] at hs
    go_enter Tryd.func14, Tryd.ntmps14
    go_wp2
    go_ret
    exact ⟨rfl, rfl⟩

/-- Out, grown by appends: a row of the call's own. -/
structure OutW (n0 : Nat) (w0 : World) (v : Value) (k : Nat) (l : List It) (w : World) : Prop where
  row : w.ownsRow n0 9 1 v k (tcl l)
  len : l.length = k
  below : Below n0 w0 w
  le : n0 ≤ w0.heap.size
theorem OutW.more {n0 : Nat} {w0 : World} {v : Value} {k : Nat} {l : List It} {w w' : World} (h : OutW n0 w0 v k l w) (hb : Below w.heap.size w w') : OutW n0 w0 v k l w' := by
  have hr : OwnT n0 w v l := by unfold OwnT; rw [h.len]; exact h.row
  have := hr.more hb
  unfold OwnT at this
  rw [h.len] at this
  exact ⟨this, h.len, h.below.trans (hb.mono (Nat.le_trans h.le h.below.size)), h.le⟩
theorem OutW.snoc {n0 : Nat} {w0 : World} {v v' : Value} {k : Nat} {l : List It} {w w' : World} {x : It} (h : OutW n0 w0 v k l w) (hown : w'.ownsRow n0 9 1 v' (k + 1) (tcl l ++ [.string (bs x)])) (hg : w.grownBy w' v.ownBlock) : OutW n0 w0 v' (k + 1) (l ++ [x]) w' := by
  refine ⟨?_, by rw [List.length_append, h.len]; rfl, h.below.grown hg (Nat.le_trans h.le h.below.size) (fun k e => (World.ownsRow.lt h.row k e).1), h.le⟩
  rw [tcl_append]
  exact hown
theorem it_new (W : World) (x : It) : ∀ j u, [Value.string (bs x)][j]? = some u → (W.alloc (.cells #[.string (bs x)] 9)).cell? ((⟨W.heap.size, 0, none⟩ : Addr).add j) = some u := by
  intro j u hu
  rw [add_at, World.cell?_alloc_at _ _ _ _ rfl]
  simpa using hu
/-- A slice is told, its row the call's own. -/
def SeqP (l : List It) (k : Nat) (w : World) (e : Ending) (w' : World) : Prop :=
  ∃ va vc, e = .returned (.slice va k vc) ∧ (Txs w' va k vc l ∧ OwnT w.heap.size w' (.slice va k vc) l) ∧ Below w.heap.size w w'

set_option maxRecDepth 100000 in
set_option maxHeartbeats 4000000 in
theorem few_p {ao : Option Addr} {len cap k0 : Nat} {l l' : List It} (hl' : fewI l = l') (hk0 : l'.length = k0) {w : World} (hL : Txs w ao len cap l) :
    Calls Tryd.prog 25 #[.slice ao len cap] w (SeqP l' k0 w) := by
  obtain ⟨i0, hi, hz0, hz1, hz2⟩ := info_parts infoS
  have hll := hL.hlen
  have hcm : cap ≤ 9223372036854775807 := by have := hL.hmax; unfold maxLen at this; exact this
  have hlc := hL.hle
  have HL := Lib.hid (And.intro hL (And.intro hl' hk0))
  clear hL hl' hk0
  go_enter Tryd.func25, Tryd.ntmps25
  go_wp2
  go_loopw [3, 4] (fun o v wr => ∃ (k : Nat) (va : Option Addr) (vc : Nat), k ≤ len ∧ k ≤ 40 ∧ o = .slice va k vc ∧ v = .int .i64 k ∧ Hid (OutW w.heap.size w (.slice va k vc) k (fewK l k) wr)) (fun _ v _ => 40 - (intOf v).toNat)
  case atStart => exact ⟨0, none, 0, Nat.zero_le _, Nat.zero_le _, rfl, rfl, ⟨World.ownsRow_nil _ _ _ _, by simp [fewK], Below.refl _ _, Nat.le_refl _⟩⟩
  case round =>
    obtain ⟨k, va, vc, hk, hk40, rfl, rfl, HO⟩ := hrel
    by_cases hlt : k < len
    · by_cases hlt4 : k < 40
      · obtain ⟨x, hx⟩ : ∃ x, l[k]? = some x := ⟨_, List.getElem?_eq_getElem (by rw [hll]; exact hlt)⟩
        obtain ⟨b, off, rfl, hb, hcs⟩ := HL.out.1.at (by omega)
        have hfx := HL.out.1.hfits x (List.mem_of_getElem? hx)
        have q0 := (World.cell?_of_block (a := ⟨b, off + k, none⟩) (HO.out.below.block b hb)).trans (hcs k x hx)
        have HX := Lib.hid (fewI_next hx)
        have hd1 : decide ((k : Int) < (len : Int)) = true := decide_eq_true (by omega)
        have hd2 : decide ((k : Int) < 40) = true := decide_eq_true (by omega)
        have HN := Lib.hid (it_new wr (x.take 210))
        have hO2 := HO.out.more (Below.new wr (.cells #[.string (bs (x.take 210))] 9))
        have HO2 := Lib.hid hO2
        have HSZ := Lib.hid hO2.below.size
        have HC := Lib.hid (cut_any x hfx wr)
        obtain ⟨y, hy⟩ : ∃ y, x.take 210 = y := ⟨_, rfl⟩
        rw [hy] at HX HN HO2 HSZ HC
        clear hx hcs hO2 hy
        go_wp2_with (go_at_call 14; refine HC.out.mono ?_)
        rintro e w1 ⟨rfl, rfl⟩
        go_wp2_with (at_builtin; go_loud (refine wpList_append_own _ rfl _ _ 22 rfl w.heap.size 9 i0 (.string { data := #[] }) 1 16 Tryd.underlying22 hi hz0 hz1 hz2 rfl (by decide) (.slice va k vc) k _ rfl HO2.out.row ⟨wr.heap.size, 0, none⟩ 1 1 [.string (bs y)] rfl rfl HN.out (by simp [Value.oneCell']) (by unfold maxLen; omega) (by omega) HSZ.out ?_))
        intro v' w5 hown hgrow _
        obtain ⟨g', cap', rfl⟩ := ownsRow_succ hown
        have HF := Lib.hid (HO2.out.snoc hown hgrow)
        clear hown hgrow
        go_wp2
        go_roundw
        case rel => exact ⟨k + 1, _, cap', by omega, by omega, rfl, by simp, by rw [HX.out]; exact HF.out⟩
        case measure => simp [intOf]; omega
      · obtain rfl : k = 40 := by omega
        have hd1 : decide (((40 : Nat) : Int) < (len : Int)) = true := decide_eq_true (by omega)
        have ho := HO.out
        rw [show fewK l 40 = l' from HL.out.2.1] at ho
        have hkk : 40 = k0 := ho.len.symm.trans HL.out.2.2
        subst hkk
        have hO : OwnT w.heap.size wr (.slice va 40 vc) l' := by unfold OwnT; rw [ho.len]; exact ho.row
        have HF := Lib.hid (And.intro (hO.txs ho.len (fun x hx => by have := fewI_item (l := l) (HL.out.2.1 ▸ hx); omega)) (And.intro hO ho.below))
        clear ho hO
        go_wp2
        go_ret
        exact ⟨va, vc, rfl, ⟨HF.out.1, HF.out.2.1⟩, HF.out.2.2⟩
    · obtain rfl : k = len := by omega
      have ho := HO.out
      have hd1 : decide ((k : Int) < (k : Int)) = false := decide_eq_false (by omega)
      rw [show fewK l k = l' by rw [← HL.out.2.1]; unfold fewI fewK; rw [List.take_of_length_le (Nat.le_of_eq hll), List.take_of_length_le (by omega)]] at ho
      have hkk : k = k0 := ho.len.symm.trans HL.out.2.2
      have hO : OwnT w.heap.size wr (.slice va k vc) l' := by unfold OwnT; rw [ho.len]; exact ho.row
      have HF := Lib.hid (And.intro (hO.txs ho.len (fun x hx => by have := fewI_item (l := l) (HL.out.2.1 ▸ hx); omega)) (And.intro hO (And.intro ho.below hkk)))
      clear ho hO hkk
      go_wp2
      go_ret
      exact ⟨va, vc, by rw [← HF.out.2.2.2]; rfl, by rw [← HF.out.2.2.2]; exact ⟨HF.out.1, HF.out.2.1⟩, HF.out.2.2.1⟩

/-- A ring is told. -/
def FewP (m : Int) (l : List It) (k : Nat) (w : World) (e : Ending) (w' : World) : Prop :=
  ∃ va vc, e = .returned (.agg #[.int .i64 m, .slice va k vc]) ∧ (Txs w' va k vc l ∧ OwnT w.heap.size w' (.slice va k vc) l) ∧ Below w.heap.size w w'
set_option maxRecDepth 100000 in
set_option maxHeartbeats 4000000 in
theorem Few_p {m : Int} {ao : Option Addr} {len cap k0 : Nat} {l l' : List It} (hl' : fewI l = l') (hk0 : l'.length = k0) {w : World} (hL : Txs w ao len cap l) :
    Calls Tryd.prog 10 #[.agg #[.int .i64 m, .slice ao len cap]] w (FewP m l' k0 w) := by
  have hB1 := Below.new w (.cells #[.int .i64 m, .slice ao len cap] 24)
  have hB2 := below_more hB1 (Below.new _ (.cells #[.int .i64 0, .slice none 0 0] 24))
  have r1 := (R2.new w (.int .i64 m) (.slice ao len cap) 24).more (Below.new _ (.cells #[.int .i64 0, .slice none 0 0] 24))
  have r2 := R2.new (w.alloc (.cells #[.int .i64 m, .slice ao len cap] 24)) (.int .i64 0) (.slice none 0 0) 24
  rw [World.size_alloc] at r2
  obtain ⟨W0, hW0⟩ : ∃ W0, (w.alloc (.cells #[.int .i64 m, .slice ao len cap] 24)).alloc (.cells #[.int .i64 0, .slice none 0 0] 24) = W0 := ⟨_, rfl⟩
  rw [hW0] at hB2 r1 r2
  have hD : Below W0.heap.size W0 W0.drew := (Below.refl _ W0).drew
  have HC := Lib.hid (few_p hl' hk0 ((hL.more hB2).more hD))
  have HF := Lib.hid (And.intro (below_more hB2 hD) (And.intro (r2.more hD) (And.intro hk0 (show ∀ x ∈ l', x.length ≤ 9223372036854775807 from fun x hx => by have := fewI_item (l := l) (hl' ▸ hx); omega))))
  have c0 := r1.c0
  have c1 := r1.c1
  have x0 := cell_later hD c0
  have x1 := cell_later hD c1
  have hlt := r2.lt
  clear hB1 hB2 r1 r2 hL hD hl' hk0
  go_enter Tryd.func10, Tryd.ntmps10
  go_wp2
  go_region_held3 (fun w' => w'.cell? ⟨w.heap.size, 0, none⟩ = some (.int .i64 m) ∧ w'.cell? ⟨w.heap.size, 1, none⟩ = some (.slice ao len cap))
    (first | (simp only [World.cell?_drew, c0, c1, and_self]; done) | (with_reducible exact ⟨cell_later hb x0, cell_later hb x1⟩) | (with_reducible exact ⟨set2O (cell_later hb x0) (by omega), set2O (cell_later hb x1) (by omega)⟩))
    (first | (go_at_call 25; ((with_reducible refine HC.out.mono ?_); rintro e w1 ⟨va, vc, rfl, ⟨hT, hO⟩, hb⟩; obtain ⟨d0, d1, f0, f1⟩ := HF.out.2.1.more hb)))
  all_goals
    obtain ⟨y0, y1, _, _⟩ := R2.set ⟨d0, d1, f0, f1⟩ (.int .i64 m) (.slice va k0 vc)
    have hz : W0.drew.heap.size = W0.heap.size := rfl
    have HB3 := Lib.hid (set2B (below_more HF.out.1 hb) (b := w.heap.size + 1) (by omega) (.int .i64 m) (.slice va k0 vc))
    have HO := Lib.hid (((hO.set1 (b := w.heap.size + 1) (i := 0) (x := .int .i64 m) (by omega)).set1 (b := w.heap.size + 1) (i := 1) (x := .slice va k0 vc) (by omega)).mono (n1 := w.heap.size) (by omega))
    clear hO hb hT
    go_wp2
    generalize hWF : ((w1.setCell ⟨w.heap.size + 1, 0, none⟩ (.int .i64 m)).setCell ⟨w.heap.size + 1, 1, none⟩ (.slice va k0 vc)) = WF at y0 y1 HB3 HO ⊢
    refine bodyPost_ret (v := .agg #[.int .i64 m, .slice va k0 vc]) (by simp [results, Tryd.results10, go_sem, y0, y1]) rfl ?_
    exact ⟨_, _, rfl, ⟨HO.out.txs HF.out.2.2.1 HF.out.2.2.2, HO.out⟩, HB3.out⟩

end Go.Proofs.YtbdhagilmdmpdaaDoor
