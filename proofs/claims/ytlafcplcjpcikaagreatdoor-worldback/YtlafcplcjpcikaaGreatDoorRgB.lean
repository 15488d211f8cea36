/- Merged texts: RgPut, RgTop, RgSame, RgShown, RgHead, LawTurns, RgRef, RgRef2 -/
import Derived.Test.YtlafcplcjpcikaaGreatDoorRgA
import Derived.Deep.RegionLaw
/- put, take: by a goto out of each. -/
namespace Go.Proofs.YtlafcplcjpcikaaGreatDoor
open Go.RowKit Go.Proofs.Fld Go.Proofs.Rng Go.Shelf Go.Sort
























































end Go.Proofs.YtlafcplcjpcikaaGreatDoor

/- New, Right, Used, Put, Take, All. -/
namespace Go.Proofs.YtlafcplcjpcikaaGreatDoor
open Go.RowKit Go.Proofs.Fld Go.Proofs.Rng Go.Shelf Go.Sort













set_option maxHeartbeats 2000000 in
theorem Right_p {s : Sn} {m : Int} {ao : Option Addr} {len cap : Nat} {zs : List It} {b : Bool} (hreach : len ≤ 1000000) (hsum : takes zs ≤ 1000000) (hb : rightR m zs = b) {w : World} (hL : Txs w ao len cap zs) (hs : Sent s w) :
    Calls Tryz.prog 103 #[.agg #[.int .i64 m, .slice ao len cap]] w (BoolP b w) := by
  have hB2 := Below.new w (.cells #[.int .i64 m, .slice ao len cap] 49)
  obtain ⟨c0, c1, _, _⟩ := R2.new w (.int .i64 m) (.slice ao len cap) 49
  have HP := Lib.hid (open_any s m ao len cap zs hreach hsum _ (hL.more hB2) (hs.more hB2))
  have HB := Lib.hid (And.intro hB2 hb)
  clear hB2 hL hs hb
  go_enter Tryz.func103, Tryz.ntmps103
  go_wp2_with (go_at_call 105; refine HP.out.mono ?_)
  rintro e w1 ⟨⟨hr, t, ht, rfl⟩ | ⟨hr, rfl⟩, hb1⟩
  · have HZ := Lib.hid (And.intro (below_more (below_more HB.out.1 hb1) (Below.new w1 (.cells #[.int .i64 m, .slice ao len cap, .int .i64 (t : Int)] 159))) (HB.out.2.symm.trans hr))
    clear hb1 hr ht
    go_wp2
    go_ret
    exact ⟨by rw [HZ.out.2]; rfl, HZ.out.1⟩
  · have HZ := Lib.hid (And.intro (below_more (below_more HB.out.1 hb1) (Below.new w1 (.cells #[.int .i64 0, .slice none 0 0, .int .i64 0] 159))) (HB.out.2.symm.trans hr))
    have qq := eql_err s.w
    clear hb1 hr
    go_wp2
    go_ret
    exact ⟨by rw [HZ.out.2]; rfl, HZ.out.1⟩

end Go.Proofs.YtlafcplcjpcikaaGreatDoor

/- Same: the same, field by field? The program's, and the document's. -/
namespace Go.Proofs.Rng
theorem sameT_iff {l m : List It} : sameT l m = true ↔ l = m := by simp [sameT]
theorem sameT_len {l m : List It} (h : l.length ≠ m.length) : sameT l m = false := by
  cases e : sameT l m
  · rfl
  · rw [sameT_iff] at e; rw [e] at h; exact absurd rfl h
theorem sameT_at {l m : List It} {k : Nat} {x y : It} (hx : l[k]? = some x) (hy : m[k]? = some y) (h : decide (x = y) = false) : sameT l m = false := by
  cases e : sameT l m
  · rfl
  · rw [sameT_iff] at e
    subst e
    rw [hx] at hy
    obtain rfl := Option.some.inj hy
    simp at h
theorem sameT_all {l m : List It} (hl : l.length = m.length) (h : ∀ j x y, j < l.length → l[j]? = some x → m[j]? = some y → decide (x = y) = true) : sameT l m = true := by
  rw [sameT_iff]
  refine List.ext_getElem hl fun j h1 h2 => ?_
  exact of_decide_eq_true (h j _ _ h1 (List.getElem?_eq_getElem h1) (List.getElem?_eq_getElem h2))
/-- Are two rings the same? -/
def sameR (m : Int) (l : List It) (m' : Int) (l' : List It) : Bool := decide (m = m') && sameT l l'
theorem sameR_iff {m m' : Int} {l l' : List It} : sameR m l m' l' = true ↔ m = m' ∧ l = l' := by simp [sameR, sameT]
end Go.Proofs.Rng
namespace Go.Proofs.YtlafcplcjpcikaaGreatDoor
open Go.RowKit Go.Proofs.Fld Go.Proofs.Rng Go.Shelf Go.Sort

theorem str_same (x y : It) : ((bs x).toList == (bs y).toList) = decide (x = y) := by
  rw [bs_toList, bs_toList]
  by_cases h : x = y <;> simp [h]
/-- Equal between two rounds. -/
def EqI (l m : List It) (k : Nat) : Prop := ∀ j x y, j < k → l[j]? = some x → m[j]? = some y → decide (x = y) = true
theorem EqI.next {l m : List It} {k : Nat} {x y : It} (h : EqI l m k) (hx : l[k]? = some x) (hy : m[k]? = some y) (hs : decide (x = y) = true) : EqI l m (k + 1) := fun j x' y' hj h1 h2 => by
  by_cases e : j = k
  · subst e
    rw [hx] at h1
    rw [hy] at h2
    obtain rfl := Option.some.inj h1
    obtain rfl := Option.some.inj h2
    exact hs
  · exact h j x' y' (by omega) h1 h2

set_option maxRecDepth 100000 in
set_option maxHeartbeats 4000000 in
theorem equal_any (a1 a2 : Option Addr) (len1 len2 c1 c2 : Nat) (l m : List It) (hr1 : len1 ≤ 1000000) (hr2 : len2 ≤ 1000000) (w : World) (h1 : Txs w a1 len1 c1 l) (h2 : Txs w a2 len2 c2 m) :
    Calls Tryz.prog 81 #[.slice a1 len1 c1, .slice a2 len2 c2] w (BoolP (sameT l m) w) := by
  have e1 := h1.hlen
  have e2 := h2.hlen
  by_cases hne : len1 = len2
  · subst hne
    have HH := Lib.hid (And.intro h1 (And.intro h2 (And.intro e1 e2)))
    clear h1 h2 e1 e2
    go_enter Tryz.func81, Tryz.ntmps81
    go_wp2
    go_loopw [13] (fun v wr => ∃ k : Nat, k ≤ len1 ∧ v = .int .i64 k ∧ Hid (EqI l m k) ∧ Below w.heap.size w wr) (fun v _ => len1 - (intOf v).toNat)
    case atStart => exact ⟨0, Nat.zero_le _, rfl, (fun j x y hj => absurd hj (by omega)), Below.refl _ _⟩
    case round =>
      obtain ⟨k, hk, rfl, HI, hB⟩ := hrel
      by_cases hlt : k < len1
      · obtain ⟨x, hx⟩ : ∃ x, l[k]? = some x := ⟨_, List.getElem?_eq_getElem (by rw [HH.out.2.2.1]; exact hlt)⟩
        obtain ⟨y, hy⟩ : ∃ y, m[k]? = some y := ⟨_, List.getElem?_eq_getElem (by rw [HH.out.2.2.2]; exact hlt)⟩
        obtain ⟨b1, o1, rfl, hb1, hc1⟩ := HH.out.1.at (by omega)
        obtain ⟨b2, o2, rfl, hb2, hc2⟩ := HH.out.2.1.at (by omega)
        have q0 := (World.cell?_of_block (a := ⟨b1, o1 + k, none⟩) (hB.block b1 hb1)).trans (hc1 k x hx)
        have p0 := (World.cell?_of_block (a := ⟨b2, o2 + k, none⟩) (hB.block b2 hb2)).trans (hc2 k y hy)
        have hq : ((bs x).toList == (bs y).toList) = decide (x = y) := str_same x y
        have HX := Lib.hid (And.intro hx hy)
        clear hx hy hc1 hc2
        cases hs : decide (x = y) with
        | true =>
          rw [hs] at hq
          have HN := Lib.hid (HI.out.next HX.out.1 HX.out.2 hs)
          clear hs
          go_wp2
          go_quiet (fail)
          go_wp2
          go_roundw
          case rel => exact ⟨k + 1, by omega, by simp, HN.out, below_drewN hB _⟩
          case measure => simp [intOf]; omega
        | false =>
          rw [hs] at hq
          have HN := Lib.hid (sameT_at HX.out.1 HX.out.2 hs)
          clear hs
          go_wp2
          go_quiet (fail)
          go_wp2
          go_ret
          exact ⟨by rw [HN.out]; rfl, below_drewN hB _⟩
      · obtain rfl : k = len1 := by omega
        have HN := Lib.hid (sameT_all (HH.out.2.2.1.trans HH.out.2.2.2.symm) (by rw [HH.out.2.2.1]; exact HI.out))
        go_wp2
        go_ret
        exact ⟨by rw [HN.out]; rfl, hB⟩
  · have HN := Lib.hid (sameT_len (l := l) (m := m) (by omega))
    have hd : (((len1 : Nat) : Int) != ((len2 : Nat) : Int)) = true := by simp; omega
    clear h1 h2 e1 e2
    go_enter Tryz.func81, Tryz.ntmps81
    go_wp2
    go_ret
    exact ⟨by rw [HN.out]; rfl, Below.refl _ _⟩

set_option maxRecDepth 100000 in
set_option maxHeartbeats 4000000 in
theorem texts_any (a1 a2 : Option Addr) (len1 len2 c1 c2 : Nat) (l m : List It) (hr1 : len1 ≤ 1000000) (hr2 : len2 ≤ 1000000) (w : World) (h1 : Txs w a1 len1 c1 l) (h2 : Txs w a2 len2 c2 m) :
    Calls Tryz.prog 72 #[.slice a1 len1 c1, .slice a2 len2 c2] w (BoolP (sameT l m) w) := by
  have e1 := h1.hlen
  have e2 := h2.hlen
  by_cases hne : len1 = len2
  · subst hne
    have HH := Lib.hid (And.intro h1 (And.intro h2 (And.intro e1 e2)))
    clear h1 h2 e1 e2
    go_enter Tryz.func72, Tryz.ntmps72
    go_wp2
    go_loopw [5] (fun v wr => ∃ k : Nat, k ≤ len1 ∧ v = .int .i64 k ∧ Hid (EqI l m k) ∧ Below w.heap.size w wr) (fun v _ => len1 - (intOf v).toNat)
    case atStart => exact ⟨0, Nat.zero_le _, rfl, (fun j x y hj => absurd hj (by omega)), Below.refl _ _⟩
    case round =>
      obtain ⟨k, hk, rfl, HI, hB⟩ := hrel
      by_cases hlt : k < len1
      · obtain ⟨x, hx⟩ : ∃ x, l[k]? = some x := ⟨_, List.getElem?_eq_getElem (by rw [HH.out.2.2.1]; exact hlt)⟩
        obtain ⟨y, hy⟩ : ∃ y, m[k]? = some y := ⟨_, List.getElem?_eq_getElem (by rw [HH.out.2.2.2]; exact hlt)⟩
        obtain ⟨b1, o1, rfl, hb1, hc1⟩ := HH.out.1.at (by omega)
        obtain ⟨b2, o2, rfl, hb2, hc2⟩ := HH.out.2.1.at (by omega)
        have q0 := (World.cell?_of_block (a := ⟨b1, o1 + k, none⟩) (hB.block b1 hb1)).trans (hc1 k x hx)
        have p0 := (World.cell?_of_block (a := ⟨b2, o2 + k, none⟩) (hB.block b2 hb2)).trans (hc2 k y hy)
        have hq : ((bs x).toList == (bs y).toList) = decide (x = y) := str_same x y
        have HX := Lib.hid (And.intro hx hy)
        clear hx hy hc1 hc2
        cases hs : decide (x = y) with
        | true =>
          rw [hs] at hq
          have HN := Lib.hid (HI.out.next HX.out.1 HX.out.2 hs)
          clear hs
          go_wp2
          go_quiet (fail)
          go_wp2
          go_roundw
          case rel => exact ⟨k + 1, by omega, by simp, HN.out, below_drewN hB _⟩
          case measure => simp [intOf]; omega
        | false =>
          rw [hs] at hq
          have HN := Lib.hid (sameT_at HX.out.1 HX.out.2 hs)
          clear hs
          go_wp2
          go_quiet (fail)
          go_wp2
          go_ret
          exact ⟨by rw [HN.out]; rfl, below_drewN hB _⟩
      · obtain rfl : k = len1 := by omega
        have HN := Lib.hid (sameT_all (HH.out.2.2.1.trans HH.out.2.2.2.symm) (by rw [HH.out.2.2.1]; exact HI.out))
        go_wp2
        go_ret
        exact ⟨by rw [HN.out]; rfl, hB⟩
  · have HN := Lib.hid (sameT_len (l := l) (m := m) (by omega))
    have hd : (((len1 : Nat) : Int) != ((len2 : Nat) : Int)) = true := by simp; omega
    clear h1 h2 e1 e2
    go_enter Tryz.func72, Tryz.ntmps72
    go_wp2
    go_ret
    exact ⟨by rw [HN.out]; rfl, Below.refl _ _⟩

set_option maxHeartbeats 2000000 in
theorem Same_p {m1 m2 : Int} {a1 a2 : Option Addr} {len1 len2 c1 c2 : Nat} {l l' : List It} {b : Bool} (hr1 : len1 ≤ 1000000) (hr2 : len2 ≤ 1000000) (hb : sameR m1 l m2 l' = b) {w : World} (h1 : Txs w a1 len1 c1 l) (h2 : Txs w a2 len2 c2 l') :
    Calls Tryz.prog 64 #[.agg #[.int .i64 m1, .slice a1 len1 c1], .agg #[.int .i64 m2, .slice a2 len2 c2]] w (BoolP b w) := by
  have hB1 := Below.new w (.cells #[.int .i64 m1, .slice a1 len1 c1] 49)
  have hN := Below.new (w.alloc (.cells #[.int .i64 m1, .slice a1 len1 c1] 49)) (.cells #[.int .i64 m2, .slice a2 len2 c2] 49)
  have hB2 := below_more hB1 hN
  obtain ⟨p0, p1, _, _⟩ := (R2.new w (.int .i64 m1) (.slice a1 len1 c1) 49).more hN
  have r2 := R2.new (w.alloc (.cells #[.int .i64 m1, .slice a1 len1 c1] 49)) (.int .i64 m2) (.slice a2 len2 c2) 49
  rw [World.size_alloc] at r2
  obtain ⟨q0, q1, _, _⟩ := r2
  obtain ⟨W0, hW0⟩ : ∃ W0, (w.alloc (.cells #[.int .i64 m1, .slice a1 len1 c1] 49)).alloc (.cells #[.int .i64 m2, .slice a2 len2 c2] 49) = W0 := ⟨_, rfl⟩
  rw [hW0] at hB2 p0 p1 q0 q1
  have HE := Lib.hid (equal_any a1 a2 len1 len2 c1 c2 l l' hr1 hr2 W0 (h1.more hB2) (h2.more hB2))
  have HB := Lib.hid (And.intro hB2 hb)
  clear hB1 hB2 hN h1 h2 hb
  by_cases hm : m1 = m2
  · have hd : (m1 == m2) = true := by simp [hm]
    have HV := Lib.hid (show b = sameT l l' by rw [← HB.out.2]; unfold sameR; rw [decide_eq_true hm, Bool.true_and])
    subst hm
    go_enter Tryz.func64, Tryz.ntmps64
    go_wp2_with (go_at_call 81; refine HE.out.mono ?_)
    rintro e w1 ⟨rfl, hb1⟩
    have HB1 := Lib.hid (below_more HB.out.1 hb1)
    clear hb1
    go_wp2
    go_ret
    exact ⟨by rw [HV.out]; rfl, HB1.out⟩
  · have hd : (m1 == m2) = false := by simp [hm]
    have HV := Lib.hid (show b = false by rw [← HB.out.2]; unfold sameR; rw [decide_eq_false hm, Bool.false_and])
    go_enter Tryz.func64, Tryz.ntmps64
    go_wp2
    go_ret
    exact ⟨by rw [HV.out]; rfl, HB.out.1⟩

set_option maxHeartbeats 2000000 in
theorem RSame_p {m1 m2 : Int} {a1 a2 : Option Addr} {len1 len2 c1 c2 : Nat} {l l' : List It} {b : Bool} (hr1 : len1 ≤ 1000000) (hr2 : len2 ≤ 1000000) (hb : sameR m1 l m2 l' = b) {w : World} (h1 : Txs w a1 len1 c1 l) (h2 : Txs w a2 len2 c2 l') :
    Calls Tryz.prog 52 #[.agg #[.int .i64 m1, .slice a1 len1 c1], .agg #[.int .i64 m2, .slice a2 len2 c2]] w (BoolP b w) := by
  have hB1 := Below.new w (.cells #[.int .i64 m1, .slice a1 len1 c1] 49)
  have hN := Below.new (w.alloc (.cells #[.int .i64 m1, .slice a1 len1 c1] 49)) (.cells #[.int .i64 m2, .slice a2 len2 c2] 49)
  have hB2 := below_more hB1 hN
  obtain ⟨p0, p1, _, _⟩ := (R2.new w (.int .i64 m1) (.slice a1 len1 c1) 49).more hN
  have r2 := R2.new (w.alloc (.cells #[.int .i64 m1, .slice a1 len1 c1] 49)) (.int .i64 m2) (.slice a2 len2 c2) 49
  rw [World.size_alloc] at r2
  obtain ⟨q0, q1, _, _⟩ := r2
  obtain ⟨W0, hW0⟩ : ∃ W0, (w.alloc (.cells #[.int .i64 m1, .slice a1 len1 c1] 49)).alloc (.cells #[.int .i64 m2, .slice a2 len2 c2] 49) = W0 := ⟨_, rfl⟩
  rw [hW0] at hB2 p0 p1 q0 q1
  have HE := Lib.hid (texts_any a1 a2 len1 len2 c1 c2 l l' hr1 hr2 W0 (h1.more hB2) (h2.more hB2))
  have HB := Lib.hid (And.intro hB2 hb)
  clear hB1 hB2 hN h1 h2 hb
  by_cases hm : m1 = m2
  · have hd : (m1 == m2) = true := by simp [hm]
    have HV := Lib.hid (show b = sameT l l' by rw [← HB.out.2]; unfold sameR; rw [decide_eq_true hm, Bool.true_and])
    subst hm
    go_enter Tryz.func52, Tryz.ntmps52
    go_wp2_with (go_at_call 72; refine HE.out.mono ?_)
    rintro e w1 ⟨rfl, hb1⟩
    have HB1 := Lib.hid (below_more HB.out.1 hb1)
    clear hb1
    go_wp2
    go_ret
    exact ⟨by rw [HV.out]; rfl, HB1.out⟩
  · have hd : (m1 == m2) = false := by simp [hm]
    have HV := Lib.hid (show b = false by rw [← HB.out.2]; unfold sameR; rw [decide_eq_false hm, Bool.false_and])
    go_enter Tryz.func52, Tryz.ntmps52
    go_wp2
    go_ret
    exact ⟨by rw [HV.out]; rfl, HB.out.1⟩

end Go.Proofs.YtlafcplcjpcikaaGreatDoor

/- cut, few, Few: the first items, cut; what is known: shown. -/
namespace Go.Proofs.Rng
/-- The first forty, of at most two hundred and ten bytes. -/
def fewK (l : List It) (k : Nat) : List It := (l.take k).map fun x => x.take 210
def fewI (l : List It) : List It := fewK l 40
theorem fewI_length (l : List It) : (fewI l).length ≤ 40 := by
  unfold fewI fewK
  rw [List.length_map, List.length_take]
  omega
theorem fewI_item {l : List It} {x : It} (h : x ∈ fewI l) : x.length ≤ 210 := by
  unfold fewI fewK at h
  obtain ⟨y, _, rfl⟩ := List.mem_map.1 h
  rw [List.length_take]
  omega
theorem takes_bound {l : List It} (h : ∀ x ∈ l, x.length ≤ 210) : takes l ≤ l.length * 211 := by
  induction l with
  | nil => simp [takes]
  | cons a r ih =>
    have h1 := h a (by simp)
    have h2 := ih fun x hx => h x (by simp [hx])
    simp only [takes, List.length_cons]
    omega
theorem fewI_takes (l : List It) : takes (fewI l) ≤ 8440 := by
  have h1 := takes_bound (l := fewI l) fun x hx => fewI_item hx
  have h2 := fewI_length l
  omega
theorem fewI_next {l : List It} {k : Nat} {x : It} (h : l[k]? = some x) : fewK l (k + 1) = fewK l k ++ [x.take 210] := by
  unfold fewK
  have e : l.take (k + 1) = l.take k ++ [x] := by
    rw [List.take_add_one, h]
    rfl
  rw [e, List.map_append]
  rfl
end Go.Proofs.Rng
namespace Go.Proofs.YtlafcplcjpcikaaGreatDoor
open Go.RowKit Go.Proofs.Fld Go.Proofs.Rng Go.Shelf Go.Sort

/-- It tells a text, and leaves all as it was. -/
def CutP (x : It) (w : World) (e : Ending) (w' : World) : Prop := e = .returned (.string (bs x)) ∧ w = w'
set_option maxHeartbeats 1000000 in
theorem cut_any (x : It) (hx : x.length ≤ 9223372036854775807) (w : World) : Calls Tryz.prog 82 #[.string (bs x)] w (CutP (x.take 210) w) := by
  have hz := bs_size x
  by_cases h : x.length ≤ 210
  · have hs := str_upto x x.length (Nat.le_refl _)
    rw [List.take_of_length_le (Nat.le_refl _)] at hs
    rw [List.take_of_length_le h]
    have h1 : min (x.length : Int) 210 = x.length := by omega
    have h2 : ¬ ((210 : Int) < (x.length : Int)) := by omega
    go_enter Tryz.func82, Tryz.ntmps82
    go_wp2
    go_ret
    exact ⟨rfl, rfl⟩
  · have hs := str_upto x 210 (by omega)
    have h1 : min (x.length : Int) 210 = 210 := by omega
    have h2 : ((210 : Int) < (x.length : Int)) := by omega
    rw [show ((210 : Nat) : Int) = 210 from rfl] at hs
    go_enter Tryz.func82, Tryz.ntmps82
    go_wp2
    go_ret
    exact ⟨rfl, rfl⟩

/-- Out, grown by appends: a row of the call's own. -/
structure OutW (n0 : Nat) (w0 : World) (v : Value) (k : Nat) (l : List It) (w : World) : Prop where
  row : w.ownsRow n0 9 1 v k (tcl l)
  len : l.length = k
  below : Below n0 w0 w
  le : n0 ≤ w0.heap.size
theorem OutW.more {n0 : Nat} {w0 : World} {v : Value} {k : Nat} {l : List It} {w w' : World} (h : OutW n0 w0 v k l w) (hb : Below w.heap.size w w') : OutW n0 w0 v k l w' := by
  have hr : OwnT n0 w v l := by unfold OwnT; rw [h.len]; exact h.row
  have := hr.more hb
  unfold OwnT at this
  rw [h.len] at this
  exact ⟨this, h.len, h.below.trans (hb.mono (Nat.le_trans h.le h.below.size)), h.le⟩
theorem OutW.snoc {n0 : Nat} {w0 : World} {v v' : Value} {k : Nat} {l : List It} {w w' : World} {x : It} (h : OutW n0 w0 v k l w) (hown : w'.ownsRow n0 9 1 v' (k + 1) (tcl l ++ [.string (bs x)])) (hg : w.grownBy w' v.ownBlock) : OutW n0 w0 v' (k + 1) (l ++ [x]) w' := by
  refine ⟨?_, by rw [List.length_append, h.len]; rfl, h.below.grown hg (Nat.le_trans h.le h.below.size) (fun k e => (World.ownsRow.lt h.row k e).1), h.le⟩
  rw [tcl_append]
  exact hown
theorem it_new (W : World) (x : It) : ∀ j u, [Value.string (bs x)][j]? = some u → (W.alloc (.cells #[.string (bs x)] 9)).cell? ((⟨W.heap.size, 0, none⟩ : Addr).add j) = some u := by
  intro j u hu
  rw [add_at, World.cell?_alloc_at _ _ _ _ rfl]
  simpa using hu
/-- A slice is told, its row the call's own. -/
def SeqP (l : List It) (k : Nat) (w : World) (e : Ending) (w' : World) : Prop :=
  ∃ va vc, e = .returned (.slice va k vc) ∧ (Txs w' va k vc l ∧ OwnT w.heap.size w' (.slice va k vc) l) ∧ Below w.heap.size w w'

set_option maxRecDepth 100000 in
set_option maxHeartbeats 4000000 in
theorem few_p {ao : Option Addr} {len cap k0 : Nat} {l l' : List It} (hl' : fewI l = l') (hk0 : l'.length = k0) {w : World} (hL : Txs w ao len cap l) :
    Calls Tryz.prog 65 #[.slice ao len cap] w (SeqP l' k0 w) := by
  obtain ⟨i0, hi, hz0, hz1, hz2⟩ := info_parts infoS
  have hll := hL.hlen
  have hcm : cap ≤ 9223372036854775807 := by have := hL.hmax; unfold maxLen at this; exact this
  have hlc := hL.hle
  have HL := Lib.hid (And.intro hL (And.intro hl' hk0))
  clear hL hl' hk0
  go_enter Tryz.func65, Tryz.ntmps65
  go_wp2
  go_loopw [3, 4] (fun o v wr => ∃ (k : Nat) (va : Option Addr) (vc : Nat), k ≤ len ∧ k ≤ 40 ∧ o = .slice va k vc ∧ v = .int .i64 k ∧ Hid (OutW w.heap.size w (.slice va k vc) k (fewK l k) wr)) (fun _ v _ => 40 - (intOf v).toNat)
  case atStart => exact ⟨0, none, 0, Nat.zero_le _, Nat.zero_le _, rfl, rfl, ⟨World.ownsRow_nil _ _ _ _, by simp [fewK], Below.refl _ _, Nat.le_refl _⟩⟩
  case round =>
    obtain ⟨k, va, vc, hk, hk40, rfl, rfl, HO⟩ := hrel
    by_cases hlt : k < len
    · by_cases hlt4 : k < 40
      · obtain ⟨x, hx⟩ : ∃ x, l[k]? = some x := ⟨_, List.getElem?_eq_getElem (by rw [hll]; exact hlt)⟩
        obtain ⟨b, off, rfl, hb, hcs⟩ := HL.out.1.at (by omega)
        have hfx := HL.out.1.hfits x (List.mem_of_getElem? hx)
        have q0 := (World.cell?_of_block (a := ⟨b, off + k, none⟩) (HO.out.below.block b hb)).trans (hcs k x hx)
        have HX := Lib.hid (fewI_next hx)
        have hd1 : decide ((k : Int) < (len : Int)) = true := decide_eq_true (by omega)
        have hd2 : decide ((k : Int) < 40) = true := decide_eq_true (by omega)
        have HN := Lib.hid (it_new wr (x.take 210))
        have hO2 := HO.out.more (Below.new wr (.cells #[.string (bs (x.take 210))] 9))
        have HO2 := Lib.hid hO2
        have HSZ := Lib.hid hO2.below.size
        have HC := Lib.hid (cut_any x hfx wr)
        obtain ⟨y, hy⟩ : ∃ y, x.take 210 = y := ⟨_, rfl⟩
        rw [hy] at HX HN HO2 HSZ HC
        clear hx hcs hO2 hy
        go_wp2_with (go_at_call 82; refine HC.out.mono ?_)
        rintro e w1 ⟨rfl, rfl⟩
        go_wp2_with (at_builtin; go_loud (refine wpList_append_own _ rfl _ _ 47 rfl w.heap.size 9 i0 (.string { data := #[] }) 1 16 Tryz.underlying47 hi hz0 hz1 hz2 rfl (by decide) (.slice va k vc) k _ rfl HO2.out.row ⟨wr.heap.size, 0, none⟩ 1 1 [.string (bs y)] rfl rfl HN.out (by simp [Value.oneCell']) (by unfold maxLen; omega) (by omega) HSZ.out ?_))
        intro v' w5 hown hgrow _
        obtain ⟨g', cap', rfl⟩ := ownsRow_succ hown
        have HF := Lib.hid (HO2.out.snoc hown hgrow)
        clear hown hgrow
        go_wp2
        go_roundw
        case rel => exact ⟨k + 1, _, cap', by omega, by omega, rfl, by simp, by rw [HX.out]; exact HF.out⟩
        case measure => simp [intOf]; omega
      · obtain rfl : k = 40 := by omega
        have hd1 : decide (((40 : Nat) : Int) < (len : Int)) = true := decide_eq_true (by omega)
        have ho := HO.out
        rw [show fewK l 40 = l' from HL.out.2.1] at ho
        have hkk : 40 = k0 := ho.len.symm.trans HL.out.2.2
        subst hkk
        have hO : OwnT w.heap.size wr (.slice va 40 vc) l' := by unfold OwnT; rw [ho.len]; exact ho.row
        have HF := Lib.hid (And.intro (hO.txs ho.len (fun x hx => by have := fewI_item (l := l) (HL.out.2.1 ▸ hx); omega)) (And.intro hO ho.below))
        clear ho hO
        go_wp2
        go_ret
        exact ⟨va, vc, rfl, ⟨HF.out.1, HF.out.2.1⟩, HF.out.2.2⟩
    · obtain rfl : k = len := by omega
      have ho := HO.out
      have hd1 : decide ((k : Int) < (k : Int)) = false := decide_eq_false (by omega)
      rw [show fewK l k = l' by rw [← HL.out.2.1]; unfold fewI fewK; rw [List.take_of_length_le (Nat.le_of_eq hll), List.take_of_length_le (by omega)]] at ho
      have hkk : k = k0 := ho.len.symm.trans HL.out.2.2
      have hO : OwnT w.heap.size wr (.slice va k vc) l' := by unfold OwnT; rw [ho.len]; exact ho.row
      have HF := Lib.hid (And.intro (hO.txs ho.len (fun x hx => by have := fewI_item (l := l) (HL.out.2.1 ▸ hx); omega)) (And.intro hO (And.intro ho.below hkk)))
      clear ho hO hkk
      go_wp2
      go_ret
      exact ⟨va, vc, by rw [← HF.out.2.2.2]; rfl, by rw [← HF.out.2.2.2]; exact ⟨HF.out.1, HF.out.2.1⟩, HF.out.2.2.1⟩

/-- A ring is told. -/
def FewP (m : Int) (l : List It) (k : Nat) (w : World) (e : Ending) (w' : World) : Prop :=
  ∃ va vc, e = .returned (.agg #[.int .i64 m, .slice va k vc]) ∧ (Txs w' va k vc l ∧ OwnT w.heap.size w' (.slice va k vc) l) ∧ Below w.heap.size w w'
set_option maxRecDepth 100000 in
set_option maxHeartbeats 4000000 in
theorem Few_p {m : Int} {ao : Option Addr} {len cap k0 : Nat} {l l' : List It} (hl' : fewI l = l') (hk0 : l'.length = k0) {w : World} (hL : Txs w ao len cap l) :
    Calls Tryz.prog 46 #[.agg #[.int .i64 m, .slice ao len cap]] w (FewP m l' k0 w) := by
  have hB1 := Below.new w (.cells #[.int .i64 m, .slice ao len cap] 49)
  have hB2 := below_more hB1 (Below.new _ (.cells #[.int .i64 0, .slice none 0 0] 49))
  have r1 := (R2.new w (.int .i64 m) (.slice ao len cap) 49).more (Below.new _ (.cells #[.int .i64 0, .slice none 0 0] 49))
  have r2 := R2.new (w.alloc (.cells #[.int .i64 m, .slice ao len cap] 49)) (.int .i64 0) (.slice none 0 0) 49
  rw [World.size_alloc] at r2
  obtain ⟨W0, hW0⟩ : ∃ W0, (w.alloc (.cells #[.int .i64 m, .slice ao len cap] 49)).alloc (.cells #[.int .i64 0, .slice none 0 0] 49) = W0 := ⟨_, rfl⟩
  rw [hW0] at hB2 r1 r2
  have hD : Below W0.heap.size W0 W0.drew := (Below.refl _ W0).drew
  have HC := Lib.hid (few_p hl' hk0 ((hL.more hB2).more hD))
  have HF := Lib.hid (And.intro (below_more hB2 hD) (And.intro (r2.more hD) (And.intro hk0 (show ∀ x ∈ l', x.length ≤ 9223372036854775807 from fun x hx => by have := fewI_item (l := l) (hl' ▸ hx); omega))))
  have c0 := r1.c0
  have c1 := r1.c1
  have x0 := cell_later hD c0
  have x1 := cell_later hD c1
  have hlt := r2.lt
  clear hB1 hB2 r1 r2 hL hD hl' hk0
  go_enter Tryz.func46, Tryz.ntmps46
  go_wp2
  go_region_held3 (fun w' => w'.cell? ⟨w.heap.size, 0, none⟩ = some (.int .i64 m) ∧ w'.cell? ⟨w.heap.size, 1, none⟩ = some (.slice ao len cap))
    (first | (simp only [World.cell?_drew, c0, c1, and_self]; done) | (with_reducible exact ⟨cell_later hb x0, cell_later hb x1⟩) | (with_reducible exact ⟨set2O (cell_later hb x0) (by omega), set2O (cell_later hb x1) (by omega)⟩))
    (first | (go_at_call 65; ((with_reducible refine HC.out.mono ?_); rintro e w1 ⟨va, vc, rfl, ⟨hT, hO⟩, hb⟩; obtain ⟨d0, d1, f0, f1⟩ := HF.out.2.1.more hb)))
  all_goals
    obtain ⟨y0, y1, _, _⟩ := R2.set ⟨d0, d1, f0, f1⟩ (.int .i64 m) (.slice va k0 vc)
    have hz : W0.drew.heap.size = W0.heap.size := rfl
    have HB3 := Lib.hid (set2B (below_more HF.out.1 hb) (b := w.heap.size + 1) (by omega) (.int .i64 m) (.slice va k0 vc))
    have HO := Lib.hid (((hO.set1 (b := w.heap.size + 1) (i := 0) (x := .int .i64 m) (by omega)).set1 (b := w.heap.size + 1) (i := 1) (x := .slice va k0 vc) (by omega)).mono (n1 := w.heap.size) (by omega))
    clear hO hb hT
    go_wp2
    generalize hWF : ((w1.setCell ⟨w.heap.size + 1, 0, none⟩ (.int .i64 m)).setCell ⟨w.heap.size + 1, 1, none⟩ (.slice va k0 vc)) = WF at y0 y1 HB3 HO ⊢
    refine bodyPost_ret (v := .agg #[.int .i64 m, .slice va k0 vc]) (by simp [results, Tryz.results46, go_sem, y0, y1]) rfl ?_
    exact ⟨_, _, rfl, ⟨HO.out.txs HF.out.2.2.1 HF.out.2.2.2, HO.out⟩, HB3.out⟩

end Go.Proofs.YtlafcplcjpcikaaGreatDoor

/- What a law's walk carries; what is known: shown. -/
namespace Go.Proofs.YtlafcplcjpcikaaGreatDoor
open Go.RowKit Go.Proofs.Fld Go.Proofs.Rng Go.Shelf Go.Sort

/-- A law's world. -/
structure Wd (s : Sn) (w0 w : World) : Prop where
  below : Below w0.heap.size w0 w
  sent : Sent s w
theorem Wd.more {s : Sn} {w0 w w' : World} (h : Wd s w0 w) (k : Below w.heap.size w w') : Wd s w0 w' := ⟨below_more h.below k, h.sent.more k⟩
theorem Wd.of {s : Sn} {w : World} (h : Sent s w) : Wd s w w := ⟨Below.refl _ _, h⟩
/-- A ring in a variable. -/
structure Rv (W : World) (b : Nat) (m : Int) (ao : Option Addr) (k c : Nat) (l : List It) : Prop where
  r : R2 W b (.int .i64 m) (.slice ao k c)
  t : Txs W ao k c l
theorem Rv.more {W W' : World} {b : Nat} {m : Int} {ao : Option Addr} {k c : Nat} {l : List It} (h : Rv W b m ao k c l) (hb : Below W.heap.size W W') : Rv W' b m ao k c l := ⟨h.r.more hb, h.t.more hb⟩
theorem Rv.new (W : World) (m : Int) (ao : Option Addr) (k c : Nat) (l : List It) (h : Txs W ao k c l) : Rv (W.alloc (.cells #[.int .i64 m, .slice ao k c] 49)) W.heap.size m ao k c l := ⟨R2.new _ _ _ _, h.more (Below.new _ _)⟩
theorem Txs.set {W : World} {b i : Nat} {ao : Option Addr} {k c : Nat} {l : List It} {x : Value} (h : Txs W ao k c l) (hne : ∀ a, ao = some a → a.block ≠ b) : Txs (W.setCell ⟨b, i, none⟩ x) ao k c l := h.of_block fun a e _ => Below.heap_setCell _ _ _ _ (fun q => hne a e q)
theorem OwnT.apart {n0 : Nat} {W : World} {va : Option Addr} {k c : Nat} {l : List It} (h : OwnT n0 W (.slice va k c) l) {b : Nat} (hb : b < n0) : ∀ a, va = some a → a.block ≠ b := by
  intro a e
  rcases h.2 with ⟨e', _⟩ | ⟨g, cap, cur, e', hg, _⟩
  · injection e' with e1
    rw [e1] at e
    cases e
  · injection e' with e1
    rw [e1] at e
    obtain rfl := Option.some.inj e
    intro q
    have q' : g = b := q
    omega
theorem Rv.set {W : World} {b : Nat} {u x : Value} {m : Int} {ao : Option Addr} {k c : Nat} {l : List It} (h : R2 W b u x) (ht : Txs W ao k c l) (hne : ∀ a, ao = some a → a.block ≠ b) : Rv ((W.setCell ⟨b, 0, none⟩ (.int .i64 m)).setCell ⟨b, 1, none⟩ (.slice ao k c)) b m ao k c l := ⟨h.set _ _, (ht.set hne).set hne⟩
/-- The variable of a law's argument takes another ring. -/
theorem Wd.set {s : Sn} {w0 w : World} {b : Nat} (h : Wd s w0 w) (h0 : Sent s w0) (hb : w0.heap.size ≤ b) (u x : Value) : Wd s w0 ((w.setCell ⟨b, 0, none⟩ u).setCell ⟨b, 1, none⟩ x) := ⟨set2B h.below hb u x, h0.more (set2B h.below hb u x)⟩


theorem rg_int {f : FuncId} {args : Array Value} {V : World} {v : Int} (h : ∀ W, Below V.heap.size V W → Calls Tryz.prog f args W (IntP v W)) : ∀ d os, Calls Tryz.prog f args (grow (redrawn V d) os) fun e w'' => e = .returned (.int .i64 v) ∧ ∃ p : Regrown, w'' = grow (redrawn V p.d) p.os :=
  fun d os => Calls.regrown_of (h _ (below_regrown V d os))






end Go.Proofs.YtlafcplcjpcikaaGreatDoor

/- RingTurns: the walk. -/
namespace Go.Proofs.Rng





























































































end Go.Proofs.Rng
namespace Go.Proofs.YtlafcplcjpcikaaGreatDoor
open Go.RowKit Go.Proofs.Fld Go.Proofs.Rng Go.Shelf Go.Sort

end Go.Proofs.YtlafcplcjpcikaaGreatDoor

/- The document's takes, Right, New, Used. -/
namespace Go.Proofs.Rng
theorem items_no {l : List It} {k : Nat} {x : It} {m : Int} (hx : l[k]? = some x) (h : 200 < x.length) : rightR m l = false := by
  cases e : rightR m l
  · rfl
  · have := (rightR_iff.1 e).2.2.1 x (List.mem_of_getElem? hx)
    omega
theorem right_items {m : Int} {l : List It} (h : ∀ j x, j < l.length → l[j]? = some x → x.length ≤ 200) : rightR m l = (decide (0 ≤ m) && (decide (m ≤ 2000) && decide ((takes l : Int) ≤ m))) := by
  have hi : itemsB l = true := itemsB_iff.2 fun x hx => by
    obtain ⟨j, hj⟩ := List.mem_iff_getElem?.1 hx
    exact h j x (List.getElem?_eq_some_iff.1 hj).1 hj
  unfold rightR
  rw [hi, Bool.and_true, Bool.and_assoc]
end Go.Proofs.Rng
namespace Go.Proofs.YtlafcplcjpcikaaGreatDoor
open Go.RowKit Go.Proofs.Fld Go.Proofs.Rng Go.Shelf Go.Sort

theorem wr1 (t : Int) (h0 : 0 ≤ t) (h1 : t ≤ 1000000000) : IntKind.i64.wrap t = t ∧ wrap64 t = t := by
  constructor
  · rw [IntKind.wrap_i64]; omega
  · unfold wrap64; omega
set_option maxRecDepth 100000 in
set_option maxHeartbeats 2000000 in
theorem Rtakes_p {ao : Option Addr} {len cap t : Nat} {l : List It} (hreach : len ≤ 1000000) (hsum : takes l ≤ 1000000) (ht : takes l = t) {w : World} (hL : Txs w ao len cap l) :
    Calls Tryz.prog 88 #[.slice ao len cap] w (IntP (t : Int) w) := by
  have hll := hL.hlen
  have HL := Lib.hid (And.intro hL ht)
  clear hL ht
  go_enter Tryz.func88, Tryz.ntmps88
  go_wp2
  go_loopw [3, 4] (fun n v wr => ∃ k u : Nat, k ≤ len ∧ v = .int .i64 k ∧ n = .int .i64 (u : Int) ∧ Hid (takes (l.take k) = u) ∧ Below w.heap.size w wr) (fun _ v _ => len - (intOf v).toNat)
  case atStart => exact ⟨0, 0, Nat.zero_le _, rfl, rfl, (by show takes (l.take 0) = 0; simp [takes]), Below.refl _ _⟩
  case round =>
    obtain ⟨k, u, hk, rfl, rfl, HU, hB⟩ := hrel
    by_cases hlt : k < len
    · obtain ⟨x, hx⟩ : ∃ x, l[k]? = some x := ⟨_, List.getElem?_eq_getElem (by rw [hll]; exact hlt)⟩
      obtain ⟨b, off, rfl, hb, hcs⟩ := HL.out.1.at (by omega)
      have q0 := (World.cell?_of_block (a := ⟨b, off + k, none⟩) (hB.block b hb)).trans (hcs k x hx)
      have hm := takes_mem hx
      have hn := takes_next hx
      rw [HU.out] at hm hn
      have hsz := bs_size x
      obtain ⟨t1, ht1⟩ : ∃ t1 : Int, (u : Int) + (x.length : Int) = t1 := ⟨_, rfl⟩
      obtain ⟨t2, ht2⟩ : ∃ t2 : Nat, u + x.length + 1 = t2 := ⟨_, rfl⟩
      have ht3 : t1 + 1 = (t2 : Int) := by omega
      have HN := Lib.hid (hn.trans ht2)
      have hlt' := Lib.hid hlt
      have hd1 : decide ((k : Int) < (len : Int)) = true := decide_eq_true (by omega)
      have HE := Lib.hid (And.intro (show IntKind.i64.wrap ((u : Int) + (x.length : Int)) = t1 by rw [ht1]; exact (wr1 t1 (by omega) (by omega)).1) (show IntKind.i64.wrap (t1 + 1) = (t2 : Int) by rw [ht3]; exact (wr1 (t2 : Int) (by omega) (by omega)).1))
      clear hcs hx hm hn ht1 ht2 ht3
      obtain ⟨e1, e2⟩ := HE.out
      go_wp2
      go_roundw
      case rel => exact ⟨k + 1, t2, hlt'.out, by simp, rfl, HN.out, hB⟩
      case measure =>
        have := hlt'.out
        clear e1 e2
        simp [intOf]
        omega
    · obtain rfl : k = len := by omega
      have HT := Lib.hid (show u = t by rw [← HL.out.2, ← HU.out, List.take_of_length_le (Nat.le_of_eq hll)])
      go_wp2
      go_ret
      exact ⟨by rw [HT.out]; rfl, hB⟩

/-- Right between two rounds. -/
def RgI (l : List It) (k : Nat) : Prop := ∀ j x, j < k → l[j]? = some x → x.length ≤ 200
theorem RgI.next {l : List It} {k : Nat} {x : It} (h : RgI l k) (hx : l[k]? = some x) (hl : x.length ≤ 200) : RgI l (k + 1) := fun j y hj hy => by
  by_cases e : j = k
  · subst e
    rw [hx] at hy
    obtain rfl := Option.some.inj hy
    exact hl
  · exact h j y (by omega) hy

set_option maxRecDepth 100000 in
set_option maxHeartbeats 4000000 in
theorem RRight_p {m : Int} {ao : Option Addr} {len cap : Nat} {l : List It} {v : Bool} (hreach : len ≤ 1000000) (hsum : takes l ≤ 1000000) (hv : rightR m l = v) {w : World} (hL : Txs w ao len cap l) :
    Calls Tryz.prog 71 #[.agg #[.int .i64 m, .slice ao len cap]] w (BoolP v w) := by
  have hN := Below.new w (.cells #[.int .i64 m, .slice ao len cap] 49)
  have R := Rv.new w m ao len cap l hL
  obtain ⟨W0, hW0⟩ : ∃ W0, w.alloc (.cells #[.int .i64 m, .slice ao len cap] 49) = W0 := ⟨_, rfl⟩
  rw [hW0] at hN R
  have hll := hL.hlen
  have HL := Lib.hid (And.intro R (And.intro hN hv))
  clear hL hv hN R
  go_enter Tryz.func71, Tryz.ntmps71
  go_wp2
  go_loopw [3] (fun i wr => ∃ k : Nat, k ≤ len ∧ i = .int .i64 k ∧ Hid (RgI l k) ∧ Hid (Below W0.heap.size W0 wr)) (fun i _ => len - (intOf i).toNat)
  case atStart => exact ⟨0, Nat.zero_le _, rfl, (fun j x hj => absurd hj (by omega)), Below.refl _ _⟩
  case round =>
    obtain ⟨k, hk, rfl, HI, HB⟩ := hrel
    have R := Lib.hid (HL.out.1.more HB.out)
    have c0 := R.out.r.c0
    have c1 := R.out.r.c1
    by_cases hlt : k < len
    · obtain ⟨x, hx⟩ : ∃ x, l[k]? = some x := ⟨_, List.getElem?_eq_getElem (by rw [hll]; exact hlt)⟩
      obtain ⟨b, off, rfl, hb, hcs⟩ := R.out.t.at (by omega)
      have q0 := hcs k x hx
      have hsz := bs_size x
      have hd1 : decide ((k : Int) < (len : Int)) = true := decide_eq_true (by omega)
      have HX := Lib.hid hx
      clear hcs hx
      by_cases h2 : 200 < x.length
      · have hd2 : decide ((x.length : Int) > 200) = true := decide_eq_true (by omega)
        have HF := Lib.hid (HL.out.2.2.symm.trans (items_no HX.out h2))
        go_wp2
        go_ret
        exact ⟨by rw [HF.out]; rfl, below_more HL.out.2.1 HB.out⟩
      · have hd2 : decide ((x.length : Int) > 200) = false := decide_eq_false (by omega)
        have HN := Lib.hid (HI.out.next HX.out (by omega))
        go_wp2
        go_roundw
        case rel => exact ⟨k + 1, by omega, by simp, HN.out, HB.out⟩
        case measure => simp [intOf]; omega
    · obtain rfl : k = len := by omega
      have hd1 : decide ((k : Int) < (k : Int)) = false := decide_eq_false (by omega)
      have hri := right_items (m := m) (l := l) (fun j x hj => HI.out j x (by omega))
      rw [HL.out.2.2] at hri
      by_cases h0 : 0 ≤ m
      · by_cases h1 : m ≤ 2000
        · obtain ⟨t, ht⟩ : ∃ t, takes l = t := ⟨_, rfl⟩
          rw [decide_eq_true h0, decide_eq_true h1, Bool.true_and, Bool.true_and, ht] at hri
          have HV := Lib.hid hri
          have g0 : decide (0 ≤ m) = true := decide_eq_true h0
          have g1 : decide (m ≤ 2000) = true := decide_eq_true h1
          have g2 : decide (m ≥ 0) = true := decide_eq_true h0
          have cT := rg_int (V := wr) fun W hb => Rtakes_p hreach hsum ht (R.out.more hb).t
          have r0 := cell_regrown c0
          have r1 := cell_regrown c1
          clear hri
          go_wp2
          refine wp_region_quiet_below (by kernel_rfl) (by kernel_rfl) ?_
          repeat (quiet_step (with_reducible (first | exact cT _ _)))
          refine wpQuiet_nil ?_
          intro W9 hw'
          obtain ⟨⟨dq, osq⟩, hw''⟩ := hw'
          have hbq : Below wr.heap.size wr W9 := hw'' ▸ below_regrown wr dq osq
          have HD := Lib.hid (below_more (below_more HL.out.2.1 HB.out) hbq)
          clear hw'' hbq cT r0 r1 c0 c1
          go_wp2
          go_ret
          exact ⟨by rw [HV.out]; rfl, HD.out⟩
        · rw [decide_eq_true h0, decide_eq_false h1, Bool.true_and, Bool.false_and] at hri
          have HV := Lib.hid hri
          have g0 : decide (0 ≤ m) = true := decide_eq_true h0
          have g2 : decide (m ≥ 0) = true := decide_eq_true h0
          have g1 : decide (m ≤ 2000) = false := decide_eq_false h1
          clear hri
          go_wp2
          go_quiet (fail)
          go_wp2
          go_ret
          exact ⟨by rw [HV.out]; rfl, below_drewN (below_more HL.out.2.1 HB.out) _⟩
      · rw [decide_eq_false h0, Bool.false_and] at hri
        have HV := Lib.hid hri
        have g0 : decide (0 ≤ m) = false := decide_eq_false h0
        have g2 : decide (m ≥ 0) = false := decide_eq_false h0
        clear hri
        go_wp2
        go_quiet (fail)
        go_wp2
        go_ret
        exact ⟨by rw [HV.out]; rfl, below_drewN (below_more HL.out.2.1 HB.out) _⟩

end Go.Proofs.YtlafcplcjpcikaaGreatDoor

/- The document's Put, Take. -/
namespace Go.Proofs.YtlafcplcjpcikaaGreatDoor
open Go.RowKit Go.Proofs.Fld Go.Proofs.Rng Go.Shelf Go.Sort

/-- What an append leaves. -/
def AppQ (base e size : Nat) (v : Value) (w : World) (v' : Value) (n : Nat) (xs : List Value) (w' : World) : Prop := w'.ownsRow base e size v' n xs ∧ w.grownBy w' v.ownBlock





















theorem row_slice {w : World} {base e size : Nat} {n : Nat} {v : Value} {xs : List Value} (h : w.ownsRow base e size v n xs) : ∃ a cap, v = .slice a n cap := by
  rcases h.2 with ⟨rfl, rfl⟩ | ⟨g, cap, cur, rfl, _⟩
  · exact ⟨none, 0, rfl⟩
  · exact ⟨_, cap, rfl⟩
theorem row_more {w w' : World} {base e size : Nat} {n : Nat} {v : Value} {xs : List Value} (h : w.ownsRow base e size v n xs) (hb : Below w.heap.size w w') : w'.ownsRow base e size v n xs := by
  refine ⟨h.1, ?_⟩
  rcases h.2 with ⟨e, h0⟩ | ⟨g, cap, cur, e, hb', hg, rest⟩
  · exact .inl ⟨e, h0⟩
  · exact .inr ⟨g, cap, cur, e, hb', (hb.block g (Array.getElem?_eq_some_iff.1 hg).1).trans hg, rest⟩
theorem app_below {V w w' : World} {v v' : Value} {n n' : Nat} {xs xs' : List Value} {e size : Nat} (hV : Below V.heap.size V w) (h0 : w.ownsRow V.heap.size e size v n' xs') (h : AppQ V.heap.size e size v w v' n xs w') : Below V.heap.size V w' :=
  hV.grown h.2 hV.size (fun k hk => (World.ownsRow.lt h0 k hk).1)


























end Go.Proofs.YtlafcplcjpcikaaGreatDoor
