/- The document's takes, Right, New, Used. -/
import Derived.Test.YtbdhagilmdmpdaaDoorLawTurns
namespace Go.Proofs.Rng
theorem items_no {l : List It} {k : Nat} {x : It} {m : Int} (hx : l[k]? = some x) (h : 200 < x.length) : rightR m l = false := by
  cases e : rightR m l
  · rfl
  · have := (rightR_iff.1 e).2.2.1 x (List.mem_of_getElem? hx)
    omega
theorem right_items {m : Int} {l : List It} (h : ∀ j x, j < l.length → l[j]? = some x → x.length ≤ 200) : rightR m l = (decide (0 ≤ m) && (decide (m ≤ 2000) && decide ((takes l : Int) ≤ m))) := by
  have hi : itemsB l = true := itemsB_iff.2 fun x hx => by
    obtain ⟨j, hj⟩ := List.mem_iff_getElem?.1 hx
    exact h j x (List.getElem?_eq_some_iff.1 hj).1 hj
  unfold rightR
  rw [hi, Bool.and_true, Bool.and_assoc]
end Go.Proofs.Rng
namespace Go.Proofs.YtbdhagilmdmpdaaDoor
open Go.RowKit Go.Proofs.Fld Go.Proofs.Rng Go.Shelf Go.Sort

theorem wr1 (t : Int) (h0 : 0 ≤ t) (h1 : t ≤ 1000000000) : IntKind.i64.wrap t = t ∧ wrap64 t = t := by
  constructor
  · rw [IntKind.wrap_i64]; omega
  · unfold wrap64; omega
set_option maxRecDepth 100000 in
set_option maxHeartbeats 2000000 in
theorem Rtakes_p {ao : Option Addr} {len cap t : Nat} {l : List It} (hreach : len ≤ 1000000) (hsum : takes l ≤ 1000000) (ht : takes l = t) {w : World} (hL : Txs w ao len cap l) :
    Calls Tryd.prog 30 #[.slice ao len cap] w (IntP (t : Int) w) := by
  have hll := hL.hlen
  have HL := Lib.hid (And.intro hL ht)
  clear hL ht
  go_enter Tryd.func30, Tryd.ntmps30
  go_wp2
  go_loopw [3, 4] (fun n v wr => ∃ k u : Nat, k ≤ len ∧ v = .int .i64 k ∧ n = .int .i64 (u : Int) ∧ Hid (takes (l.take k) = u) ∧ Below w.heap.size w wr) (fun _ v _ => len - (intOf v).toNat)
  case atStart => exact ⟨0, 0, Nat.zero_le _, rfl, rfl, (by show takes (l.take 0) = 0; simp [takes]), Below.refl _ _⟩
  case round =>
    obtain ⟨k, u, hk, rfl, rfl, HU, hB⟩ := hrel
    by_cases hlt : k < len
    · obtain ⟨x, hx⟩ : ∃ x, l[k]? = some x := ⟨_, List.getElem?_eq_getElem (by rw [hll]; exact hlt)⟩
      obtain ⟨b, off, rfl, hb, hcs⟩ := HL.out.1.at (by omega)
      have q0 := (World.cell?_of_block (a := ⟨b, off + k, none⟩) (hB.block b hb)).trans (hcs k x hx)
      have hm := takes_mem hx
      have hn := takes_next hx
      rw [HU.out] at hm hn
      have hsz := bs_size x
      obtain ⟨t1, ht1⟩ : ∃ t1 : Int, (u : Int) + (x.length : Int) = t1 := ⟨_, rfl⟩
      obtain ⟨t2, ht2⟩ : ∃ t2 : Nat, u + x.length + 1 = t2 := ⟨_, rfl⟩
      have ht3 : t1 + 1 = (t2 : Int) := by omega
      have HN := Lib.hid (hn.trans ht2)
      have hlt' := Lib.hid hlt
      have hd1 : decide ((k : Int) < (len : Int)) = true := decide_eq_true (by omega)
      have HE := Lib.hid (And.intro (show IntKind.i64.wrap ((u : Int) + (x.length : Int)) = t1 by rw [ht1]; exact (wr1 t1 (by omega) (by omega)).1) (show IntKind.i64.wrap (t1 + 1) = (t2 : Int) by rw [ht3]; exact (wr1 (t2 : Int) (by omega) (by omega)).1))
      clear hcs hx hm hn ht1 ht2 ht3
      obtain ⟨e1, e2⟩ := HE.out
      go_wp2
      go_roundw
      case rel => exact ⟨k + 1, t2, hlt'.out, by simp, rfl, HN.out, hB⟩
      case measure =>
        have := hlt'.out
        clear e1 e2
        simp [intOf]
        omega
    · obtain rfl : k = len := by omega
      have HT := Lib.hid (show u = t by rw [← HL.out.2, ← HU.out, List.take_of_length_le (Nat.le_of_eq hll)])
      go_wp2
      go_ret
      exact ⟨by rw [HT.out]; rfl, hB⟩

/-- Right between two rounds. -/
def RgI (l : List It) (k : Nat) : Prop := ∀ j x, j < k → l[j]? = some x → x.length ≤ 200
theorem RgI.next {l : List It} {k : Nat} {x : It} (h : RgI l k) (hx : l[k]? = some x) (hl : x.length ≤ 200) : RgI l (k + 1) := fun j y hj hy => by
  by_cases e : j = k
  · subst e
    rw [hx] at hy
    obtain rfl := Option.some.inj hy
    exact hl
  · exact h j y (by omega) hy

set_option maxRecDepth 100000 in
set_option maxHeartbeats 4000000 in
theorem RRight_p {m : Int} {ao : Option Addr} {len cap : Nat} {l : List It} {v : Bool} (hreach : len ≤ 1000000) (hsum : takes l ≤ 1000000) (hv : rightR m l = v) {w : World} (hL : Txs w ao len cap l) :
    Calls Tryd.prog 20 #[.agg #[.int .i64 m, .slice ao len cap]] w (BoolP v w) := by
  have hN := Below.new w (.cells #[.int .i64 m, .slice ao len cap] 24)
  have R := Rv.new w m ao len cap l hL
  obtain ⟨W0, hW0⟩ : ∃ W0, w.alloc (.cells #[.int .i64 m, .slice ao len cap] 24) = W0 := ⟨_, rfl⟩
  rw [hW0] at hN R
  have hll := hL.hlen
  have HL := Lib.hid (And.intro R (And.intro hN hv))
  clear hL hv hN R
  go_enter Tryd.func20, Tryd.ntmps20
  go_wp2
  go_loopw [3] (fun i wr => ∃ k : Nat, k ≤ len ∧ i = .int .i64 k ∧ Hid (RgI l k) ∧ Hid (Below W0.heap.size W0 wr)) (fun i _ => len - (intOf i).toNat)
  case atStart => exact ⟨0, Nat.zero_le _, rfl, (fun j x hj => absurd hj (by omega)), Below.refl _ _⟩
  case round =>
    obtain ⟨k, hk, rfl, HI, HB⟩ := hrel
    have R := Lib.hid (HL.out.1.more HB.out)
    have c0 := R.out.r.c0
    have c1 := R.out.r.c1
    by_cases hlt : k < len
    · obtain ⟨x, hx⟩ : ∃ x, l[k]? = some x := ⟨_, List.getElem?_eq_getElem (by rw [hll]; exact hlt)⟩
      obtain ⟨b, off, rfl, hb, hcs⟩ := R.out.t.at (by omega)
      have q0 := hcs k x hx
      have hsz := bs_size x
      have hd1 : decide ((k : Int) < (len : Int)) = true := decide_eq_true (by omega)
      have HX := Lib.hid hx
      clear hcs hx
      by_cases h2 : 200 < x.length
      · have hd2 : decide ((x.length : Int) > 200) = true := decide_eq_true (by omega)
        have HF := Lib.hid (HL.out.2.2.symm.trans (items_no HX.out h2))
        go_wp2
        go_ret
        exact ⟨by rw [HF.out]; rfl, below_more HL.out.2.1 HB.out⟩
      · have hd2 : decide ((x.length : Int) > 200) = false := decide_eq_false (by omega)
        have HN := Lib.hid (HI.out.next HX.out (by omega))
        go_wp2
        go_roundw
        case rel => exact ⟨k + 1, by omega, by simp, HN.out, HB.out⟩
        case measure => simp [intOf]; omega
    · obtain rfl : k = len := by omega
      have hd1 : decide ((k : Int) < (k : Int)) = false := decide_eq_false (by omega)
      have hri := right_items (m := m) (l := l) (fun j x hj => HI.out j x (by omega))
      rw [HL.out.2.2] at hri
      by_cases h0 : 0 ≤ m
      · by_cases h1 : m ≤ 2000
        · obtain ⟨t, ht⟩ : ∃ t, takes l = t := ⟨_, rfl⟩
          rw [decide_eq_true h0, decide_eq_true h1, Bool.true_and, Bool.true_and, ht] at hri
          have HV := Lib.hid hri
          have g0 : decide (0 ≤ m) = true := decide_eq_true h0
          have g1 : decide (m ≤ 2000) = true := decide_eq_true h1
          have g2 : decide (m ≥ 0) = true := decide_eq_true h0
          have cT := rg_int (V := wr) fun W hb => Rtakes_p hreach hsum ht (R.out.more hb).t
          have r0 := cell_regrown c0
          have r1 := cell_regrown c1
          clear hri
          go_wp2
          refine wp_region_quiet_below (by kernel_rfl) (by kernel_rfl) ?_
          repeat (quiet_step (with_reducible (first | exact cT _ _)))
          refine wpQuiet_nil ?_
          intro W9 hw'
          obtain ⟨⟨dq, osq⟩, hw''⟩ := hw'
          have hbq : Below wr.heap.size wr W9 := hw'' ▸ below_regrown wr dq osq
          have HD := Lib.hid (below_more (below_more HL.out.2.1 HB.out) hbq)
          clear hw'' hbq cT r0 r1 c0 c1
          go_wp2
          go_ret
          exact ⟨by rw [HV.out]; rfl, HD.out⟩
        · rw [decide_eq_true h0, decide_eq_false h1, Bool.true_and, Bool.false_and] at hri
          have HV := Lib.hid hri
          have g0 : decide (0 ≤ m) = true := decide_eq_true h0
          have g2 : decide (m ≥ 0) = true := decide_eq_true h0
          have g1 : decide (m ≤ 2000) = false := decide_eq_false h1
          clear hri
          go_wp2
          go_quiet (fail)
          go_wp2
          go_ret
          exact ⟨by rw [HV.out]; rfl, below_drewN (below_more HL.out.2.1 HB.out) _⟩
      · rw [decide_eq_false h0, Bool.false_and] at hri
        have HV := Lib.hid hri
        have g0 : decide (0 ≤ m) = false := decide_eq_false h0
        have g2 : decide (m ≥ 0) = false := decide_eq_false h0
        clear hri
        go_wp2
        go_quiet (fail)
        go_wp2
        go_ret
        exact ⟨by rw [HV.out]; rfl, below_drewN (below_more HL.out.2.1 HB.out) _⟩

set_option maxHeartbeats 2000000 in
theorem RUsed_p {m : Int} {ao : Option Addr} {len cap : Nat} {l : List It} {u : Nat} (hreach : len ≤ 1000000) (hsum : takes l ≤ 1000000) (hu : usedR m l = u) {w : World} (hL : Txs w ao len cap l) :
    Calls Tryd.prog 22 #[.agg #[.int .i64 m, .slice ao len cap]] w (IntP (u : Int) w) := by
  have hN := Below.new w (.cells #[.int .i64 m, .slice ao len cap] 24)
  have R := Rv.new w m ao len cap l hL
  obtain ⟨W0, hW0⟩ : ∃ W0, w.alloc (.cells #[.int .i64 m, .slice ao len cap] 24) = W0 := ⟨_, rfl⟩
  rw [hW0] at hN R
  have c0 := R.r.c0
  have c1 := R.r.c1
  have HL := Lib.hid (And.intro R (And.intro hN hu))
  clear hL hu hN R
  cases hr : rightR m l with
  | false =>
    have HU := Lib.hid (show u = 0 by rw [← HL.out.2.2, usedR, hr]; rfl)
    have HR := Lib.hid hr
    clear hr
    go_enter Tryd.func22, Tryd.ntmps22
    go_wp2_with (go_at_call 20; refine (RRight_p hreach hsum HR.out HL.out.1.t).mono ?_)
    rintro e w1 ⟨rfl, hb⟩
    have HD := Lib.hid (below_more HL.out.2.1 hb)
    clear hb
    go_wp2
    go_ret
    exact ⟨by rw [HU.out]; rfl, HD.out⟩
  | true =>
    have HU := Lib.hid (show takes l = u by rw [← HL.out.2.2, usedR, if_pos hr])
    have HR := Lib.hid hr
    clear hr
    go_enter Tryd.func22, Tryd.ntmps22
    go_wp2_with (go_at_call 20; refine (RRight_p hreach hsum HR.out HL.out.1.t).mono ?_)
    rintro e w1 ⟨rfl, hb⟩
    have R1 := HL.out.1.more hb
    have d0 := R1.r.c0
    have d1 := R1.r.c1
    have HD := Lib.hid (And.intro (below_more HL.out.2.1 hb) R1.t)
    clear hb R1
    go_wp2_with (go_at_call 30; refine (Rtakes_p hreach hsum HU.out HD.out.2).mono ?_)
    rintro e w2 ⟨rfl, hb⟩
    have HE := Lib.hid (below_more HD.out.1 hb)
    clear hb
    go_wp2
    go_ret
    exact ⟨rfl, HE.out⟩

set_option maxHeartbeats 2000000 in
theorem RNew_p {m pm c : Int} (hpm : newM m = pm) (hc : errN (newE m) = c) (w : World) :
    Calls Tryd.prog 12 #[.int .i64 m] w (TellR pm [] 0 c w) := by
  have hn := right_nil m
  have HP := Lib.hid (And.intro hpm hc)
  clear hpm hc
  unfold newM newE at HP
  by_cases h0 : m < 0
  · have hr : rightR m [] = false := by rw [hn, decide_eq_false (by omega)]; rfl
    rw [hr] at HP
    obtain ⟨rfl, rfl⟩ := HP.out
    go_enter Tryd.func12, Tryd.ntmps12
    go_wp2
    refine bodyPost_ret (v := .tuple #[.agg #[.int .i64 0, .slice none 0 0], .int .i64 2]) (by simp [results, Tryd.results12, go_sem]) rfl ?_
    exact ⟨none, 0, rfl, ⟨Txs.nil _, OwnT.nil _ _⟩, Below.new _ _⟩
  · by_cases h1 : m > 2000
    · have hr : rightR m [] = false := by rw [hn, decide_eq_false (p := m ≤ 2000) (by omega), Bool.and_false]
      rw [hr] at HP
      obtain ⟨rfl, rfl⟩ := HP.out
      go_enter Tryd.func12, Tryd.ntmps12
      go_wp2
      refine bodyPost_ret (v := .tuple #[.agg #[.int .i64 0, .slice none 0 0], .int .i64 2]) (by simp [results, Tryd.results12, go_sem]) rfl ?_
      exact ⟨none, 0, rfl, ⟨Txs.nil _, OwnT.nil _ _⟩, Below.new _ _⟩
    · have hr : rightR m [] = true := by rw [hn, decide_eq_true (by omega), decide_eq_true (by omega)]; rfl
      rw [hr] at HP
      obtain ⟨rfl, rfl⟩ := HP.out
      go_enter Tryd.func12, Tryd.ntmps12
      go_wp2
      refine bodyPost_ret (v := .tuple #[.agg #[.int .i64 m, .slice none 0 0], .int .i64 0]) (by simp [results, Tryd.results12, go_sem]) rfl ?_
      exact ⟨none, 0, rfl, ⟨Txs.nil _, OwnT.nil _ _⟩, Below.new _ _⟩

end Go.Proofs.YtbdhagilmdmpdaaDoor
