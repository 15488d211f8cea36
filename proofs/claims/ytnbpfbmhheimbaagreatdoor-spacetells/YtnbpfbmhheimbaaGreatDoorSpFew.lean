/- cut, long, Few: the first objects, cut. -/
import Derived.Test.YtnbpfbmhheimbaaGreatDoorSpSame
import Derived.Test.YtnbpfbmhheimbaaGreatDoorRgB
namespace Go.Proofs.Spc
open Go.Proofs.Rng
def fewO (o : Ob) : Ob := ⟨o.n.take 50, o.k, o.d.take 1010, o.m, fewI o.l⟩
def fewS (l : List Ob) (k : Nat) : List Ob := (l.take k).map fewO
def fewL (l : List Ob) : List Ob := fewS l 22
theorem fewL_length (l : List Ob) : (fewL l).length ≤ 22 := by
  unfold fewL fewS
  rw [List.length_map, List.length_take]
  omega
theorem fewS_next {l : List Ob} {k : Nat} {x : Ob} (h : l[k]? = some x) : fewS l (k + 1) = fewS l k ++ [fewO x] := by
  unfold fewS
  rw [List.take_add_one, h, List.map_append]
  rfl
end Go.Proofs.Spc
namespace Go.Proofs.YtnbpfbmhheimbaaGreatDoor
open Go.RowKit Go.Proofs.Fld Go.Proofs.Rng Go.Proofs.Spc Go.Shelf Go.Sort

theorem few_bd (o : Ob) : Bd (fewO o) := by
  refine ⟨?_, ?_, ?_⟩
  · have := fewI_takes o.l
    show takes (fewI o.l) ≤ 100000
    omega
  · show (o.n.take 50).length ≤ 100000
    rw [List.length_take]; omega
  · show (o.d.take 1010).length ≤ 100000
    rw [List.length_take]; omega
theorem fewL_bd {l : List Ob} {o : Ob} (h : o ∈ fewL l) : Bd o := by
  unfold fewL fewS at h
  obtain ⟨y, _, rfl⟩ := List.mem_map.1 h
  exact few_bd y

set_option maxHeartbeats 1000000 in
theorem cutN_any (x : It) (hx : x.length ≤ 9223372036854775807) (w : World) : Calls Tryz.prog 15 #[.string (bs x)] w (CutP (x.take 50) w) := by
  have hz := bs_size x
  by_cases h : x.length ≤ 50
  · have hs := str_upto x x.length (Nat.le_refl _)
    rw [List.take_of_length_le (Nat.le_refl _)] at hs
    rw [List.take_of_length_le h]
    have h1 : min (x.length : Int) 50 = x.length := by omega
    have h2 : ¬ ((50 : Int) < (x.length : Int)) := by omega
    go_enter Tryz.func15, Tryz.ntmps15
    go_wp2
    go_ret
    exact ⟨rfl, rfl⟩
  · have hs := str_upto x 50 (by omega)
    have h1 : min (x.length : Int) 50 = 50 := by omega
    have h2 : ((50 : Int) < (x.length : Int)) := by omega
    rw [show ((50 : Nat) : Int) = 50 from rfl] at hs
    go_enter Tryz.func15, Tryz.ntmps15
    go_wp2
    go_ret
    exact ⟨rfl, rfl⟩
set_option maxHeartbeats 1000000 in
theorem long_any (x : It) (hx : x.length ≤ 9223372036854775807) (w : World) : Calls Tryz.prog 33 #[.string (bs x)] w (CutP (x.take 1010) w) := by
  have hz := bs_size x
  by_cases h : x.length ≤ 1010
  · have hs := str_upto x x.length (Nat.le_refl _)
    rw [List.take_of_length_le (Nat.le_refl _)] at hs
    rw [List.take_of_length_le h]
    have h1 : min (x.length : Int) 1010 = x.length := by omega
    have h2 : ¬ ((1010 : Int) < (x.length : Int)) := by omega
    go_enter Tryz.func33, Tryz.ntmps33
    go_wp2
    go_ret
    exact ⟨rfl, rfl⟩
  · have hs := str_upto x 1010 (by omega)
    have h1 : min (x.length : Int) 1010 = 1010 := by omega
    have h2 : ((1010 : Int) < (x.length : Int)) := by omega
    rw [show ((1010 : Nat) : Int) = 1010 from rfl] at hs
    go_enter Tryz.func33, Tryz.ntmps33
    go_wp2
    go_ret
    exact ⟨rfl, rfl⟩

/-- Objects are told, their row the call's own, as is what hangs on them. -/
def SeqF (l : List Ob) (k : Nat) (w : World) (e : Ending) (w' : World) : Prop :=
  ∃ vs va vc, e = .returned (.slice va k vc) ∧ obs vs = l ∧ Objs w' va k vc vs ∧ Below w.heap.size w w'
set_option maxRecDepth 100000 in
set_option maxHeartbeats 4000000 in
theorem FewO_p {ao : Option Addr} {len cap k0 : Nat} {zs : List Ov} {l' : List Ob} (hl' : fewL (obs zs) = l') (hk0 : l'.length = k0) {w : World} (hL : Objs w ao len cap zs) :
    Calls Tryz.prog 13 #[.slice ao len cap] w (SeqF l' k0 w) := by
  obtain ⟨i0, hi, hz0, hz1, hz2⟩ := info_parts infoO
  have hll := hL.hlen
  have hcm : cap ≤ 9223372036854775807 := by have := hL.hmax; unfold maxLen at this; exact this
  have hlc := hL.hle
  have HL := Lib.hid (And.intro hL (And.intro hl' hk0))
  clear hL hl' hk0
  go_enter Tryz.func13, Tryz.ntmps13
  go_wp2
  go_loopw [3, 4] (fun o v wr => ∃ (k : Nat) (va : Option Addr) (vc : Nat) (vs : List Ov), k ≤ len ∧ k ≤ 22 ∧ o = .slice va k vc ∧ v = .int .i64 k ∧ Hid (OutO w.heap.size w (.slice va k vc) k vs wr) ∧ Hid (obs vs = fewS (obs zs) k)) (fun _ v _ => 22 - (intOf v).toNat)
  case atStart => exact ⟨0, none, 0, [], Nat.zero_le _, Nat.zero_le _, rfl, rfl, OutO.nil w, rfl⟩
  case round =>
    obtain ⟨k, va, vc, vs, hk, hk22, rfl, rfl, HO, HQ⟩ := hrel
    by_cases hlt : k < len
    · by_cases hlt2 : k < 22
      · obtain ⟨x, hx⟩ : ∃ x, zs[k]? = some x := ⟨_, List.getElem?_eq_getElem (by rw [hll]; exact hlt)⟩
        obtain ⟨b, off, rfl, hb, hcs⟩ := HL.out.1.at (by omega)
        obtain ⟨q0, q1, q2, q3, q4⟩ := (hcs k x hx).of_block (HO.out.below.block b hb)
        have hd1 : decide ((k : Int) < (len : Int)) = true := decide_eq_true (by omega)
        have hd2 : decide ((k : Int) < 22) = true := decide_eq_true (by omega)
        have hN1 := Below.new wr (.cells #[.string (bs x.o.n), .int .i64 x.o.k, .string (bs x.o.d), .int .i64 x.o.m, .slice x.a x.o.l.length x.c] 55)
        have hD1 : Below wr.heap.size wr (wr.alloc (.cells #[.string (bs x.o.n), .int .i64 x.o.k, .string (bs x.o.d), .int .i64 x.o.m, .slice x.a x.o.l.length x.c] 55)).drew := hN1.drew
        have hLv := (HL.out.1.row hx).more (HO.out.below.mono HO.out.le)
        obtain ⟨y1, hy1⟩ : ∃ y, x.o.n.take 50 = y := ⟨_, rfl⟩
        obtain ⟨y2, hy2⟩ : ∃ y, x.o.d.take 1010 = y := ⟨_, rfl⟩
        obtain ⟨y4, hy4⟩ : ∃ y, fewI x.o.l = y := ⟨_, rfl⟩
        have HQ2 := Lib.hid (show fewS (obs zs) (k + 1) = fewS (obs zs) k ++ [⟨y1, x.o.k, y2, x.o.m, y4⟩] by rw [fewS_next (obs_get hx)]; unfold fewO; rw [hy1, hy2, hy4])
        have HC1 := Lib.hid (fun W => cutN_any x.o.n hLv.hn W)
        have HC2 := Lib.hid (fun W => long_any x.o.d hLv.hd W)
        have HC3 := Lib.hid (fun W (hb : Below wr.heap.size wr W) => Few_p (m := x.o.m) hy4 rfl (w := W) (hLv.more hb).t)
        rw [hy1] at HC1
        rw [hy2] at HC2
        have HY := Lib.hid (And.intro (show y1.length ≤ 9223372036854775807 by rw [← hy1, List.length_take]; omega) (show y2.length ≤ 9223372036854775807 by rw [← hy2, List.length_take]; omega))
        obtain ⟨u0, u1, u2, u3, u4⟩ := (ObAt.new wr x 55).var
        have HB := Lib.hid (And.intro hN1 hD1)
        have HR := Lib.hid (show ∀ g, (Value.slice va k vc).ownBlock = some g → g < wr.heap.size from fun g e => (World.ownsRow.lt HO.out.row g e).2)
        have hD : Below (wr.alloc (.cells #[.string (bs x.o.n), .int .i64 x.o.k, .string (bs x.o.d), .int .i64 x.o.m, .slice x.a x.o.l.length x.c] 55)).heap.size (wr.alloc (.cells #[.string (bs x.o.n), .int .i64 x.o.k, .string (bs x.o.d), .int .i64 x.o.m, .slice x.a x.o.l.length x.c] 55)) (wr.alloc (.cells #[.string (bs x.o.n), .int .i64 x.o.k, .string (bs x.o.d), .int .i64 x.o.m, .slice x.a x.o.l.length x.c] 55)).drew := (Below.refl _ _).drew
        have d0 := cell_later hD u0
        have d1 := cell_later hD u1
        have d2 := cell_later hD u2
        have d3 := cell_later hD u3
        have d4 := cell_later hD u4
        clear hN1 hD1 hLv hy1 hy2 hy4 hx hcs hD
        go_wp2
        go_region_held3 (fun w' => w'.cell? ⟨wr.heap.size, 0, none⟩ = some (.string (bs x.o.n)) ∧ w'.cell? ⟨wr.heap.size, 1, none⟩ = some (.int .i64 x.o.k) ∧ w'.cell? ⟨wr.heap.size, 2, none⟩ = some (.string (bs x.o.d)) ∧ w'.cell? ⟨wr.heap.size, 3, none⟩ = some (.int .i64 x.o.m) ∧ w'.cell? ⟨wr.heap.size, 4, none⟩ = some (.slice x.a x.o.l.length x.c))
          (first | (with_reducible exact ⟨d0, d1, d2, d3, d4⟩) | (with_reducible exact ⟨e0, e1, e2, e3, e4⟩) | (with_reducible exact ⟨f0, f1, f2, f3, f4⟩) | (with_reducible exact ⟨g0, g1, g2, g3, g4⟩))
          (first
            | (go_at_call 15; ((with_reducible refine (HC1.out _).mono ?_); rintro e w' ⟨rfl, rfl⟩))
            | (go_at_call 33; ((with_reducible refine (HC2.out _).mono ?_); rintro e w' ⟨rfl, rfl⟩))
            | (go_at_call 44; ((with_reducible refine (HC3.out _ HB.out.2).mono ?_); rintro e w3 ⟨va4, vc4, rfl, ⟨hT, hO⟩, hb3⟩; have e0 := cell_later hb3 d0; have e1 := cell_later hb3 d1; have e2 := cell_later hb3 d2; have e3 := cell_later hb3 d3; have e4 := cell_later hb3 d4; have hN3 := Below.new w3 (.cells #[.string (bs y1), .int .i64 x.o.k, .string (bs y2), .int .i64 x.o.m, .slice va4 y4.length vc4] 55); have f0 := cell_later hN3 e0; have f1 := cell_later hN3 e1; have f2 := cell_later hN3 e2; have f3 := cell_later hN3 e3; have f4 := cell_later hN3 e4; have hO3 := HO.out.more ((HB.out.2.trans (hb3.mono HB.out.2.size)).trans (hN3.mono (Nat.le_trans HB.out.2.size hb3.size)))))
            | (refine step_append_lies _ rfl _ _ 22 rfl w.heap.size 55 i0 (.agg #[.string { data := #[] }, .int .i64 0, .string { data := #[] }, .int .i64 0, .slice none 0 0]) 5 72 Tryz.underlying22 hi hz0 hz1 hz2 rfl (by decide) (.slice va k vc) k (ocl vs) (by simp [Act.eval]) hO3.row ⟨w3.heap.size, 0, none⟩ 1 1 (cells5 ⟨⟨y1, x.o.k, y2, x.o.m, y4⟩, va4, vc4⟩) (by simp [Act.eval]) rfl (ob_new w3 ⟨⟨y1, x.o.k, y2, x.o.m, y4⟩, va4, vc4⟩ 55) (by simp [cells5, Value.oneCell']) (by decide) (by unfold maxLen; omega) (by omega) hO3.size (w3.heap.size + 1) (by simp) ?_; intro g cap6 w6 hown hgrow hat hlt6; have hlt3 := World.block_lt_of_cell? _ _ f0; have hne3 : some wr.heap.size ≠ (Value.slice va k vc).ownBlock := (fun e => absurd (HR.out wr.heap.size e.symm) (Nat.lt_irrefl _)); have g0 := (World.cell?_of_block (a := ⟨wr.heap.size, 0, none⟩) (hgrow.block wr.heap.size hlt3 hne3)).trans f0; have g1 := (World.cell?_of_block (a := ⟨wr.heap.size, 1, none⟩) (hgrow.block wr.heap.size hlt3 hne3)).trans f1; have g2 := (World.cell?_of_block (a := ⟨wr.heap.size, 2, none⟩) (hgrow.block wr.heap.size hlt3 hne3)).trans f2; have g3 := (World.cell?_of_block (a := ⟨wr.heap.size, 3, none⟩) (hgrow.block wr.heap.size hlt3 hne3)).trans f3; have g4 := (World.cell?_of_block (a := ⟨wr.heap.size, 4, none⟩) (hgrow.block wr.heap.size hlt3 hne3)).trans f4))
        all_goals
          have HF := Lib.hid (hO3.snoc (x := (⟨⟨y1, x.o.k, y2, x.o.m, y4⟩, va4, vc4⟩ : Ov)) ⟨hT.more hN3, HY.out.1, HY.out.2⟩ (offB_new (W' := w3) hO (fun g hg => Nat.lt_of_lt_of_le (HR.out g hg) HB.out.2.size) rfl) (by simp) hown hgrow hat)
          clear hT hO hb3 hN3 hO3 hown hgrow hat hlt3 hne3
          go_wp2
          go_roundw
          case rel => exact ⟨k + 1, some ⟨g, 0, none⟩, cap6, vs ++ [(⟨⟨y1, x.o.k, y2, x.o.m, y4⟩, va4, vc4⟩ : Ov)], by omega, by omega, rfl, by simp, HF.out, by rw [obs_append, HQ.out, HQ2.out]; rfl⟩
          case measure => simp [intOf]; omega
      · obtain rfl : k = 22 := by omega
        have hd1 : decide (((22 : Nat) : Int) < (len : Int)) = true := decide_eq_true (by omega)
        have hq : obs vs = l' := HQ.out.trans HL.out.2.1
        obtain rfl : 22 = k0 := by rw [← HL.out.2.2, ← hq, obs_length, HO.out.len]
        have HF := Lib.hid (And.intro (HO.out.own.objs HO.out.len (fun x hx => (HO.out.rows x hx).1)) (And.intro hq HO.out.below))
        clear hq
        go_wp2
        go_ret
        exact ⟨vs, va, vc, rfl, HF.out.2.1, HF.out.1, HF.out.2.2⟩
    · obtain rfl : k = len := by omega
      have hd1 : decide ((k : Int) < (k : Int)) = false := decide_eq_false (by omega)
      have hq : obs vs = l' := by rw [HQ.out, ← HL.out.2.1]; unfold fewL fewS; rw [List.take_of_length_le (by rw [obs_length]; omega), List.take_of_length_le (by rw [obs_length]; omega)]
      have hkk : k = k0 := by rw [← HL.out.2.2, ← hq, obs_length, HO.out.len]
      have HF := Lib.hid (And.intro (HO.out.own.objs HO.out.len (fun x hx => (HO.out.rows x hx).1)) (And.intro hq (And.intro HO.out.below hkk)))
      clear hq hkk
      go_wp2
      go_ret
      exact ⟨vs, va, vc, by rw [← HF.out.2.2.2]; rfl, HF.out.2.1, by rw [← HF.out.2.2.2]; exact HF.out.1, HF.out.2.2.1⟩

end Go.Proofs.YtnbpfbmhheimbaaGreatDoor
