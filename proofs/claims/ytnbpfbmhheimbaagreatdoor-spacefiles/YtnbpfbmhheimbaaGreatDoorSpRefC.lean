/- The document's Right, Cost, find: what a law uses. -/
import Derived.Test.YtnbpfbmhheimbaaGreatDoorSpRefR
import Derived.Test.YtnbpfbmhheimbaaGreatDoorSpDoc
namespace Go.Proofs.Spc
open Go.Proofs.Rng
theorem costS_next {l : List Ob} {k : Nat} {x : Ob} (hx : l[k]? = some x) : costS (l.take (k + 1)) = costS (l.take k) + costO x := by
  rw [List.take_add_one, hx]
  show costS (l.take k ++ [x]) = _
  rw [costS_append]
  simp [costS]
end Go.Proofs.Spc
namespace Go.Proofs.YtnbpfbmhheimbaaGreatDoor
open Go.RowKit Go.Proofs.Fld Go.Proofs.Rng Go.Proofs.Spc Go.Shelf Go.Sort

section
variable {w : World} {ao : Option Addr} {k0 cap : Nat} {zs : List Ov} {l : List Ob} {c : Int}
theorem RRight_w {b : Bool} (hb : rightB l = b) (hL : SO w ao k0 cap zs l) : Calls Tryz.prog 18 #[.slice ao k0 cap] w (BoolP b w) := by
  obtain rfl := hL.e
  exact refRight_any ao k0 cap zs hb hL.le2 hL.bd w hL.o

set_option maxRecDepth 100000 in
set_option maxHeartbeats 4000000 in
theorem RCost_w (hc : costR l = c) (hL : SO w ao k0 cap zs l) : Calls Tryz.prog 20 #[.slice ao k0 cap] w (IntP c w) := by
  have hk := hL.le
  have L := Lib.hid hL
  have hke := hL.len
  clear hL
  cases hr : rightB l with
  | false =>
    obtain rfl : 0 = c := by rw [← hc]; unfold costR; rw [hr]; rfl
    have HR := Lib.hid hr
    clear hr hc hke
    go_enter Tryz.func20, Tryz.ntmps20
    go_wp2
    go_loopw [3, 4] (fun v u wr => v = .int .i64 0 ∧ u = .int .i64 0 ∧ Below w.heap.size w wr) (fun _ _ _ => 0)
    case atStart => exact ⟨rfl, rfl, Below.refl _ _⟩
    case round =>
      obtain ⟨rfl, rfl, hB⟩ := hrel
      have B := Lib.hid hB
      clear hB
      by_cases hlt : 0 < k0
      · have hd1 : decide ((0 : Int) < (k0 : Int)) = true := decide_eq_true (by omega)
        go_wp2_with (go_at_call 18; refine (RRight_w HR.out (L.out.more (B.out.mono (Nat.le_refl _)))).mono ?_)
        rintro e w1 ⟨rfl, hb⟩
        replace B := Lib.hid (below_more B.out hb)
        clear hb
        go_wp2
        go_ret
        exact ⟨rfl, B.out⟩
      · have hd1 : decide ((0 : Int) < (k0 : Int)) = false := decide_eq_false (by omega)
        go_wp2
        go_ret
        exact ⟨rfl, B.out⟩
  | true =>
    rw [right_cost hr] at hc
    have HR := Lib.hid (And.intro hr (And.intro hc hke))
    have HF := Lib.hid (fun x hx => fair_isB (goodF_mem (rightB_iff.1 hr).2 x hx).1)
    clear hr hc hke
    go_enter Tryz.func20, Tryz.ntmps20
    go_wp2
    go_loopw [3, 4] (fun v u wr => ∃ k : Nat, k ≤ k0 ∧ u = .int .i64 k ∧ v = .int .i64 (costS (l.take k)) ∧ Below w.heap.size w wr) (fun _ u _ => k0 - (intOf u).toNat)
    case atStart => exact ⟨0, Nat.zero_le _, rfl, rfl, Below.refl _ _⟩
    case round =>
      obtain ⟨k, hkk, rfl, rfl, hB⟩ := hrel
      have B := Lib.hid hB
      clear hB
      by_cases hlt : k < k0
      · have hd1 : decide ((k : Int) < (k0 : Int)) = true := decide_eq_true (by omega)
        obtain ⟨y, hy⟩ : ∃ y, l[k]? = some y := ⟨_, List.getElem?_eq_getElem (by rw [HR.out.2.2]; exact hlt)⟩
        obtain ⟨s, hs⟩ : ∃ s, costS (l.take k) = s := ⟨_, rfl⟩
        have hb1 := costS_fair (l := l.take k) (fun x hx => HF.out x (List.mem_of_mem_take hx))
        have hlen : (l.take k).length = k := by rw [List.length_take, HR.out.2.2]; omega
        rw [hlen, hs] at hb1
        obtain ⟨hy1, hy2, hy3, hy4⟩ := HF.out y (List.mem_of_getElem? hy)
        have hnx := costS_next hy
        rw [hs] at hnx
        obtain ⟨t1, ht1⟩ : ∃ t1 : Int, s + 10 = t1 := ⟨_, rfl⟩
        obtain ⟨t2, ht2⟩ : ∃ t2 : Int, t1 + (y.n.length : Int) = t2 := ⟨_, rfl⟩
        obtain ⟨t3, ht3⟩ : ∃ t3 : Int, t2 + (y.d.length : Int) = t3 := ⟨_, rfl⟩
        obtain ⟨t4, ht4⟩ : ∃ t4 : Int, t3 + y.m = t4 := ⟨_, rfl⟩
        have hw1 : IntKind.i64.wrap (s + 10) = t1 := by rw [IntKind.wrap_i64]; omega
        have hw2 : IntKind.i64.wrap (t1 + (y.n.length : Int)) = t2 := by rw [IntKind.wrap_i64]; omega
        have hw3 : IntKind.i64.wrap (t2 + (y.d.length : Int)) = t3 := by rw [IntKind.wrap_i64]; omega
        have hw4 : IntKind.i64.wrap (t3 + y.m) = t4 := by rw [IntKind.wrap_i64]; omega
        have HN := Lib.hid (show costS (l.take (k + 1)) = t4 by rw [hnx]; unfold costO; omega)
        have HW := Lib.hid (And.intro hw1 (And.intro hw2 (And.intro hw3 hw4)))
        have HY := Lib.hid hy
        have HS := Lib.hid hs
        clear hw1 hw2 hw3 hw4 hnx hy1 hy2 hy3 hy4 hb1 hlen ht1 ht2 ht3 ht4 hy
        rw [hs]
        clear hs
        go_wp2_with (go_at_call 18; refine (RRight_w HR.out.1 (L.out.more (B.out.mono (Nat.le_refl _)))).mono ?_)
        rintro e w1 ⟨rfl, hb⟩
        replace B := Lib.hid (below_more B.out hb)
        clear hb
        obtain ⟨b, off, x, rfl, hx, _, hc⟩ := (L.out.more B.out).cell HY.out
        obtain ⟨q0, q1, q2, q3, q4⟩ := hc
        rw [hx] at q0 q2 q3
        obtain ⟨hw1, hw2, hw3, hw4⟩ := HW.out
        have z1 := bs_size y.n
        have z2 := bs_size y.d
        clear hx q1 q4
        go_wp2
        go_region_held3 (fun w' => w'.cell? ⟨b, off + k * 5, none⟩ = some (.string (bs y.n)) ∧ w'.cell? ⟨b, off + k * 5 + 2, none⟩ = some (.string (bs y.d)) ∧ w'.cell? ⟨b, off + k * 5 + 3, none⟩ = some (.int .i64 y.m))
          (first | (simp only [World.cell?_drew, q0, q2, q3, and_self]; done)) (fail)
        clear q0 q2 q3 hw1 hw2 hw3 hw4
        go_wp2
        go_roundw
        case rel => exact ⟨k + 1, by omega, by simp, by rw [HN.out], B.out.drew⟩
        case measure => simp [intOf]; omega
      · obtain rfl : k = k0 := by omega
        have hd1 : decide ((k : Int) < (k : Int)) = false := decide_eq_false (by omega)
        have HE := Lib.hid (show costS (l.take k) = c by rw [List.take_of_length_le (by rw [HR.out.2.2]; exact Nat.le_refl _)]; exact HR.out.2.1)
        obtain ⟨s, hs⟩ : ∃ s, costS (l.take k) = s := ⟨_, rfl⟩
        have HS := Lib.hid hs
        rw [hs]
        clear hs
        go_wp2
        go_ret
        exact ⟨by rw [← HE.out, HS.out]; rfl, B.out⟩

/-- A place, and a number. -/
def PlcP (i : Nat) (c : Int) (w : World) (e : Ending) (w' : World) : Prop := e = .returned (.tuple #[.int .i64 (i : Int), .int .i64 c]) ∧ Below w.heap.size w w'
set_option maxRecDepth 100000 in
set_option maxHeartbeats 4000000 in
theorem RPl_w {nm : It} {k : Int} {i : Nat} (hc : placeC l nm k = c) (hi : placeI l nm k = i) (hL : SO w ao k0 cap zs l) : Calls Tryz.prog 61 #[.slice ao k0 cap, .string (bs nm), .int .i64 k] w (PlcP i c w) := by
  have L := Lib.hid hL
  have B := Lib.hid (Below.refl w.heap.size w)
  clear hL
  cases hr : rightB l with
  | false =>
    rw [placeI_0 (by rw [placeC_0 hr]; decide)] at hi
    rw [placeC_0 hr] at hc
    subst hc hi
    have HR := Lib.hid hr
    clear hr
    go_enter Tryz.func61, Tryz.ntmps61
    go_wp2_with (go_at_call 18; refine (RRight_w HR.out L.out).mono ?_)
    rintro e w1 ⟨rfl, hb⟩
    replace B := Lib.hid (below_more B.out hb)
    clear hb
    go_wp2
    refine bodyPost_ret (results_tmp2 rfl _ _ _) rfl ?_
    exact ⟨rfl, B.out⟩
  | true =>
    cases ho : getO l nm with
    | none =>
      rw [placeI_0 (by rw [placeC_1 hr ho]; decide)] at hi
      rw [placeC_1 hr ho] at hc
      subst hc hi
      have h1 := findI_no ho
      have HR := Lib.hid (And.intro hr h1)
      clear hr ho h1
      go_enter Tryz.func61, Tryz.ntmps61
      go_wp2_with (go_at_call 18; refine (RRight_w HR.out.1 L.out).mono ?_)
      rintro e w1 ⟨rfl, hb⟩
      replace B := Lib.hid (below_more B.out hb)
      replace L := Lib.hid (L.out.more hb)
      clear hb
      go_wp2_with (go_at_call 22; refine (RFind_w HR.out.2 L.out).mono ?_)
      rintro e w2 ⟨rfl, hb⟩
      replace B := Lib.hid (below_more B.out hb)
      clear hb
      go_wp2
      refine bodyPost_ret (results_tmp2 rfl _ _ _) rfl ?_
      exact ⟨rfl, B.out⟩
    | some o =>
      obtain ⟨j, hj, hjl, hja⟩ := findI_of ho
      have hjf : findN l nm = j := by
        have h1 := find_lt ho
        unfold findI at hj
        rw [if_neg (by omega)] at hj
        omega
      rw [placeC_2 hr ho] at hc
      have hdj : decide ((j : Int) < 0) = false := decide_eq_false (by omega)
      rw [L.out.len] at hjl
      have HR := Lib.hid (And.intro hr (And.intro hj hja))
      by_cases hk : o.k = k
      · rw [if_neg (by simp [hk])] at hc
        rw [placeI_1 (by rw [placeC_2 hr ho, if_neg (by simp [hk])]), hjf] at hi
        subst hc hi
        have hq : (o.k != k) = false := by simp [hk]
        clear hr ho hj hja hjf hk
        go_enter Tryz.func61, Tryz.ntmps61
        go_wp2_with (go_at_call 18; refine (RRight_w HR.out.1 L.out).mono ?_)
        rintro e w1 ⟨rfl, hb⟩
        replace B := Lib.hid (below_more B.out hb)
        replace L := Lib.hid (L.out.more hb)
        clear hb
        go_wp2_with (go_at_call 22; refine (RFind_w HR.out.2.1 L.out).mono ?_)
        rintro e w2 ⟨rfl, hb⟩
        replace B := Lib.hid (below_more B.out hb)
        replace L := Lib.hid (L.out.more hb)
        clear hb
        obtain ⟨b, off, x, rfl, hx, _, hc⟩ := L.out.cell HR.out.2.2
        obtain ⟨_, q1, _, _, _⟩ := hc
        rw [hx] at q1
        clear hx
        go_wp2
        refine bodyPost_ret (results_tmp2 rfl _ _ _) rfl ?_
        exact ⟨rfl, B.out⟩
      · rw [if_pos hk] at hc
        rw [placeI_0 (by rw [placeC_2 hr ho, if_pos hk]; decide)] at hi
        subst hc hi
        have hq : (o.k != k) = true := by simp [hk]
        clear hr ho hj hja hjf hk
        go_enter Tryz.func61, Tryz.ntmps61
        go_wp2_with (go_at_call 18; refine (RRight_w HR.out.1 L.out).mono ?_)
        rintro e w1 ⟨rfl, hb⟩
        replace B := Lib.hid (below_more B.out hb)
        replace L := Lib.hid (L.out.more hb)
        clear hb
        go_wp2_with (go_at_call 22; refine (RFind_w HR.out.2.1 L.out).mono ?_)
        rintro e w2 ⟨rfl, hb⟩
        replace B := Lib.hid (below_more B.out hb)
        replace L := Lib.hid (L.out.more hb)
        clear hb
        obtain ⟨b, off, x, rfl, hx, _, hc⟩ := L.out.cell HR.out.2.2
        obtain ⟨_, q1, _, _, _⟩ := hc
        rw [hx] at q1
        clear hx
        go_wp2
        refine bodyPost_ret (results_tmp2 rfl _ _ _) rfl ?_
        exact ⟨rfl, B.out⟩
end

end Go.Proofs.YtnbpfbmhheimbaaGreatDoor
