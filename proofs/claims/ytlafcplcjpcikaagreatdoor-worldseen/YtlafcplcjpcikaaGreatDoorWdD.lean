/- Merged texts: WdObj, WdOwn, WdKeep, WdUnder, WdPlace -/
import Derived.Test.YtlafcplcjpcikaaGreatDoorWdB
import Derived.Test.YtlafcplcjpcikaaGreatDoorSpE
import Derived.Test.YtlafcplcjpcikaaGreatDoorWdC
import Derived.Test.YtlafcplcjpcikaaGreatDoorRgB
/- objects: in new memory, what their rings hold too. -/
namespace Go.Proofs.YtlafcplcjpcikaaGreatDoor
open Go.RowKit Go.Proofs.Fld Go.Proofs.Rng Go.Proofs.Spc Go.Proofs.Cats Go.Proofs.Wld Go.Shelf Go.Sort

theorem softB.set {n0 : Nat} {W : World} {z : Ov} {p : Addr} {v : Value} (h : softB n0 W z) : softB n0 (W.setCell p v) z := fun a e hl => ⟨(h a e hl).1, fun i => by rw [World.frozen?_setCell]; exact (h a e hl).2 i⟩
theorem softB.grown {n0 : Nat} {A B : World} {z : Ov} {v : Value} (h : softB n0 A z) (hz : Lv A z) (ho : offB z v) (hg : A.grownBy B v.ownBlock) : softB n0 B z :=
  fun a e hl => ⟨(h a e hl).1, fun i => (World.frozen?_of_block (w := A) (a := ⟨a.block, i, none⟩) (hg.block _ (hz.lt a e hl) (fun q => ho a e hl _ q.symm rfl))).trans ((h a e hl).2 i)⟩
theorem softB_snoc {n0 : Nat} {W : World} {vs : List Ov} {x : Ov} (h : ∀ z ∈ vs, softB n0 W z) (hx : softB n0 W x) : ∀ z ∈ vs ++ [x], softB n0 W z := fun z hz => by
  rcases List.mem_append.1 hz with q | q
  · exact h z q
  · obtain rfl : z = x := by simpa using q
    exact hx

set_option maxRecDepth 100000 in
set_option maxHeartbeats 4000000 in
theorem objects_any {ao : Option Addr} {len cap : Nat} {zs : List Ov} {l : List Ob} {w : World} (hS : SO w ao len cap zs l) :
    Calls Tryz.prog 55 #[.slice ao len cap] w (SeqU l len w) := by
  have hreach : len ≤ 1000000 := hS.le2
  have hL := hS.o
  have hbd := hS.bd
  have HSm := Lib.hid (And.intro hS.e hS.s)
  clear hS
  obtain ⟨i0, hi, hz0, hz1, hz2⟩ := info_parts infoO
  have hll := hL.hlen
  have HL := Lib.hid (And.intro hL hbd)
  clear hL hbd
  go_enter Tryz.func55, Tryz.ntmps55
  go_wp2
  go_loopw [3, 8] (fun o v wr => ∃ (k : Nat) (va : Option Addr) (vc : Nat) (vs : List Ov), k ≤ len ∧ o = .slice va k vc ∧ v = .int .i64 k ∧ Hid (OutO w.heap.size w (.slice va k vc) k vs wr) ∧ Hid (obs vs = obs (zs.take k)) ∧ Hid (∀ z ∈ vs, softB w.heap.size wr z)) (fun _ v _ => len - (intOf v).toNat)
  case atStart => exact ⟨0, none, 0, [], Nat.zero_le _, rfl, rfl, OutO.nil w, rfl, fun z hz => by cases hz⟩
  case round =>
    obtain ⟨k, va, vc, vs, hk, rfl, rfl, HO, HQ, HW⟩ := hrel
    by_cases hlt : k < len
    · obtain ⟨x, hx⟩ : ∃ x, zs[k]? = some x := ⟨_, List.getElem?_eq_getElem (by rw [hll]; exact hlt)⟩
      obtain ⟨b, off, rfl, hb, hcs⟩ := HL.out.1.at (by omega)
      obtain ⟨q0, q1, q2, q3, q4⟩ := (hcs k x hx).of_block (HO.out.below.block b hb)
      have hlv := (HL.out.1.row hx).more (HO.out.below.mono HO.out.le)
      have hlen := (HL.out.2 x (List.mem_of_getElem? hx)).len
      have HX := Lib.hid (obs_take_next hx)
      have hd1 : decide ((k : Int) < (len : Int)) = true := decide_eq_true (by omega)
      have hO1 := ObAt.new wr x 51
      have hb1 := Below.new wr (.cells #[.string (bs x.o.n), .int .i64 x.o.k, .string (bs x.o.d), .int .i64 x.o.m, .slice x.a x.o.l.length x.c] 51)
      have f4 : (wr.alloc (.cells #[.string (bs x.o.n), .int .i64 x.o.k, .string (bs x.o.d), .int .i64 x.o.m, .slice x.a x.o.l.length x.c] 51)).frozen? ⟨wr.heap.size, 4, none⟩ = false := by simp
      have hz1 : (wr.alloc (.cells #[.string (bs x.o.n), .int .i64 x.o.k, .string (bs x.o.d), .int .i64 x.o.m, .slice x.a x.o.l.length x.c] 51)).heap.size = wr.heap.size + 1 := by simp
      have hbn := Below.new (wr.alloc (.cells #[.string (bs x.o.n), .int .i64 x.o.k, .string (bs x.o.d), .int .i64 x.o.m, .slice x.a x.o.l.length x.c] 51)) (.cells #[.slice x.a x.o.l.length x.c] 47)
      have hb2 := below_more hb1 hbn
      have t0 : ((wr.alloc (.cells #[.string (bs x.o.n), .int .i64 x.o.k, .string (bs x.o.d), .int .i64 x.o.m, .slice x.a x.o.l.length x.c] 51)).alloc (.cells #[.slice x.a x.o.l.length x.c] 47)).cell? ⟨wr.heap.size + 1, 0, none⟩ = some (.slice x.a x.o.l.length x.c) := by rw [← hz1]; simp
      have HC := Lib.hid (concatS_any (wr.heap.size + 1) x.a x.o.l.length x.c x.o.l hlen _ t0 ((hlv.more hb2).t))
      have HA := Lib.hid (And.intro hb2 (And.intro (hO1.more hbn) (And.intro ((hbn.frozen (p := ⟨wr.heap.size, 4, none⟩) (by simp)).trans f4) (And.intro hlv (show (((wr.alloc (.cells #[.string (bs x.o.n), .int .i64 x.o.k, .string (bs x.o.d), .int .i64 x.o.m, .slice x.a x.o.l.length x.c] 51)).alloc (.cells #[.slice x.a x.o.l.length x.c] 47)).heap.size = wr.heap.size + 2) by simp)))))
      clear hx hcs hlv hlen hO1 hb1 f4 hz1 hbn hb2 t0
      go_wp2_with (go_at_call 75; refine HC.out.mono ?_)
      rintro e w3 ⟨va', vc', rfl, ⟨hT, hO⟩, hb3⟩
      obtain ⟨x', hx'⟩ : ∃ x' : Ov, x' = ⟨x.o, va', vc'⟩ := ⟨_, rfl⟩
      have hob := HA.out.2.1.more hb3
      obtain ⟨z0, z1, z2, z3, z4⟩ := hob.var
      have f4 := (hb3.frozen (p := ⟨wr.heap.size, 4, none⟩) (by have := HA.out.2.2.2.2; simp only; omega)).trans HA.out.2.2.1
      have hsz3 := hb3.size
      rw [HA.out.2.2.2.2] at hsz3
      have hne : ∀ a, va' = some a → a.block ≠ wr.heap.size := fun a ea => OwnT.apart hO (by have := HA.out.2.2.2.2; omega) a ea
      have hx4 : ObAt (w3.setCell ⟨wr.heap.size, 4, none⟩ (.slice va' x.o.l.length vc')) wr.heap.size 0 x' := by
        subst hx'
        exact ⟨setO z0 (ne_off (by omega)), setO z1 (ne_off (by omega)), setO z2 (ne_off (by omega)), setO z3 (ne_off (by omega)), setS _ z4⟩
      have hb4 : Below wr.heap.size wr (w3.setCell ⟨wr.heap.size, 4, none⟩ (.slice va' x.o.l.length vc')) := (below_more HA.out.1 hb3).setCell (p := ⟨wr.heap.size, 4, none⟩) (Nat.le_refl _) _
      have hl4 : Lv (w3.setCell ⟨wr.heap.size, 4, none⟩ (.slice va' x.o.l.length vc')) x' := by
        subst hx'
        exact ⟨hT.set hne, HA.out.2.2.2.1.hn, HA.out.2.2.2.1.hd⟩
      have ho4 : offB x' (.slice va k vc) := by
        subst hx'
        exact offB_new (W' := w3) hO (fun g hg => by have := (World.ownsRow.lt HO.out.row g hg).1; have := HA.out.2.2.2.2; have := (World.ownsRow.lt HO.out.row g hg).2; omega) rfl
      have hso4 : softB w.heap.size (w3.setCell ⟨wr.heap.size, 4, none⟩ (.slice va' x.o.l.length vc')) x' := by
        subst hx'
        exact ((softB_of (z := ⟨x.o, va', vc'⟩) hO).mono (Nat.le_trans HO.out.size (by have := HA.out.2.2.2.2; omega))).set
      have hs4 : (w3.setCell ⟨wr.heap.size, 4, none⟩ (.slice va' x.o.l.length vc')).heap.size = w3.heap.size := by simp [World.setCell]
      obtain ⟨y0, y1, y2, y3, y4⟩ := hx4.var
      obtain ⟨W4, hW4⟩ : ∃ W4, w3.setCell ⟨wr.heap.size, 4, none⟩ (.slice va' x.o.l.length vc') = W4 := ⟨_, rfl⟩
      rw [hW4] at hx4 hb4 hl4 hs4 hso4 y0 y1 y2 y3 y4
      have hb5 := Below.new W4 (.cells #[.string (bs x'.o.n), .int .i64 x'.o.k, .string (bs x'.o.d), .int .i64 x'.o.m, .slice x'.a x'.o.l.length x'.c] 51)
      have HO5 := Lib.hid (HO.out.more (below_more hb4 hb5))
      have HW5 := Lib.hid (And.intro (show ∀ z ∈ vs, softB w.heap.size (W4.alloc (.cells #[.string (bs x'.o.n), .int .i64 x'.o.k, .string (bs x'.o.d), .int .i64 x'.o.m, .slice x'.a x'.o.l.length x'.c] 51)) z from fun z hz => (HW.out z hz).more (HO.out.rows z hz).1 (below_more hb4 hb5)) (hso4.more hl4 hb5))
      have HN := Lib.hid (And.intro (ob_new W4 x' 51) (And.intro (hl4.more hb5) (And.intro ho4 (And.intro HO5.out.size (show x'.o = x.o by rw [hx'])))))
      have HE := Lib.hid (And.intro hx' (show x'.o = x.o by rw [hx']))
      clear hT hO hb3 hx4 hb4 hl4 ho4 hso4 hb5 hs4 hob hne hsz3 z0 z1 z2 z3 hx'
      go_wp2_with (at_builtin; go_loud (refine wpList_append_lies _ rfl _ _ 30 rfl w.heap.size 51 i0 (.agg #[.string { data := #[] }, .int .i64 0, .string { data := #[] }, .int .i64 0, .slice none 0 0]) 5 72 Tryz.underlying30 hi hz0 hz1 hz2 rfl (by decide) (.slice va k vc) k (ocl vs) rfl HO5.out.row ⟨W4.heap.size, 0, none⟩ 1 1 (cells5 x') rfl rfl HN.out.1 (by simp [cells5, Value.oneCell']) (by decide) (by unfold maxLen; omega) (by omega) HN.out.2.2.2.1 (W4.heap.size + 1) (by simp) ?_; intro g cap w6 hown hgrow hat hlt6; have HF := Lib.hid (And.intro (HO5.out.snoc HN.out.2.1 HN.out.2.2.1 (by simp) hown hgrow hat) (softB_snoc (fun z hz => (HW5.out.1 z hz).grown (HO5.out.rows z hz).1 (HO5.out.rows z hz).2 hgrow) (HW5.out.2.grown HN.out.2.1 HN.out.2.2.1 hgrow))); clear hown hgrow hat))
      go_wp2
      go_roundw
      case rel => exact ⟨k + 1, some ⟨g, 0, none⟩, cap, vs ++ [x'], by omega, rfl, by simp, HF.out.1, by rw [obs_append, HQ.out, HX.out]; show _ ++ [x'.o] = _; rw [HE.out.2], HF.out.2⟩
      case measure => simp [intOf]; omega
    · obtain rfl : k = len := by omega
      have hd1 : decide ((k : Int) < (k : Int)) = false := decide_eq_false (by omega)
      have hq : obs vs = l := by rw [HQ.out, List.take_of_length_le (Nat.le_of_eq hll)]; exact HSm.out.1
      have HF := Lib.hid (show SeqU l k w (.returned (.slice va k vc)) wr from ⟨vs, va, vc, rfl, ⟨hq, HO.out.own.objs HO.out.len (fun x hx => (HO.out.rows x hx).1), HSm.out.2⟩, softO_of (vc := vc) (by rw [HO.out.len]; exact HO.out.own) HW.out, HO.out.below⟩)
      clear hq
      go_wp2
      go_ret
      exact HF.out

end Go.Proofs.YtlafcplcjpcikaaGreatDoor

/- own: parts in new memory, their spaces too. -/
namespace Go.Proofs.YtlafcplcjpcikaaGreatDoor
open Go.RowKit Go.Proofs.Fld Go.Proofs.Rng Go.Proofs.Spc Go.Proofs.Cats Go.Proofs.Wld Go.Shelf Go.Sort

theorem softP.grown {n0 : Nat} {A B : World} {x : Pv} {v : Value} (h : softP n0 A x) (hx : Pl A x) (ho : offP x v) (hg : A.grownBy B v.ownBlock) : softP n0 B x :=
  ⟨fun a e hz => ⟨(h.1 a e hz).1, fun i => (World.frozen?_of_block (w := A) (a := ⟨a.block, i, none⟩) (hg.block _ (hx.lt a e hz) (fun q => ho.1 a e hz _ q.symm rfl))).trans ((h.1 a e hz).2 i)⟩, fun z hz => (h.2 z hz).grown (hx.o.hrows z hz) (ho.2 z hz) hg⟩
theorem newP_soft {n0 : Nat} {W : World} {a : Lab} {os : List Ov} {va : Option Addr} {vc : Nat} (h : softO n0 W va os) : newP n0 ⟨a, os, va, vc⟩ := ⟨fun ad e hz => (h.1 ad e hz).1, fun z hz ad e hl => (h.2 z hz ad e hl).1⟩
theorem softP_snoc {n0 : Nat} {W : World} {vs : List Pv} {x : Pv} (h : ∀ z ∈ vs, softP n0 W z) (hx : softP n0 W x) : ∀ z ∈ vs ++ [x], softP n0 W z := fun z hz => by
  rcases List.mem_append.1 hz with q | q
  · exact h z q
  · obtain rfl : z = x := by simpa using q
    exact hx
theorem pt_take {l : List Pt} {k : Nat} {y : Pt} (h : l[k]? = some y) : l.take (k + 1) = l.take k ++ [y] := by rw [List.take_add_one, h]; rfl

set_option maxRecDepth 100000 in
set_option maxHeartbeats 4000000 in
theorem ownW_any {ao : Option Addr} {len cap : Nat} {zs : List Pv} {l : List Pt} {w : World} (hS : SP w ao len cap zs l) :
    Calls Tryz.prog 56 #[.slice ao len cap] w (SeqV l len w) := by
  obtain ⟨i0, hi, hz0, hz1, hz2⟩ := info_parts infoP
  have hll := hS.o.hlen
  have hreach : len ≤ 10 := hS.le
  have HL := Lib.hid hS
  clear hS
  go_enter Tryz.func56, Tryz.ntmps56
  go_wp2
  go_loopw [3, 8] (fun o v wr => ∃ (k : Nat) (va : Option Addr) (vc : Nat) (vs : List Pv), k ≤ len ∧ o = .slice va k vc ∧ v = .int .i64 k ∧ Hid (OutP w.heap.size w (.slice va k vc) k vs wr) ∧ Hid (pts vs = l.take k) ∧ Hid (∀ x ∈ vs, softP w.heap.size wr x)) (fun _ v _ => len - (intOf v).toNat)
  case atStart => exact ⟨0, none, 0, [], Nat.zero_le _, rfl, rfl, OutP.nil w, rfl, fun x hx => by cases hx⟩
  case round =>
    obtain ⟨k, va, vc, vs, hk, rfl, rfl, HO, HQ, HW⟩ := hrel
    by_cases hlt : k < len
    · obtain ⟨x, hx⟩ : ∃ x, zs[k]? = some x := ⟨_, List.getElem?_eq_getElem (by rw [hll]; exact hlt)⟩
      obtain ⟨b, off, rfl, hb, hcs⟩ := HL.out.o.at (by omega)
      obtain ⟨q0, q1, q2, q3⟩ := (hcs k x hx).of_block (HO.out.below.block b hb)
      have hlx : l[k]? = some (pt x) := by rw [← HL.out.e]; exact pts_get hx
      have HQ2 := Lib.hid (pt_take hlx)
      have hd1 : decide ((k : Int) < (len : Int)) = true := decide_eq_true (by omega)
      have hPl := (HL.out.o.row hx).more (HO.out.below.mono HO.out.le)
      have HSm := Lib.hid (HL.out.s.b _ (List.mem_of_getElem? hlx))
      obtain ⟨u0, u1, u2, u3⟩ := (PtAt.new wr x 44).var
      have HC := Lib.hid (fun W (hb : Below wr.heap.size wr W) => objects_any (l := obs x.os) (w := W) ⟨rfl, (hPl.more hb).o, HSm.out⟩)
      have HF := Lib.hid hPl.f
      have hN1 := Below.new wr (.cells #[.int .i64 x.a.l, .int .u64 x.a.c, .int .i64 x.a.i, .slice x.va x.os.length x.vc] 44)
      have HB := Lib.hid (And.intro hN1 (show Below wr.heap.size wr (wr.alloc (.cells #[.int .i64 x.a.l, .int .u64 x.a.c, .int .i64 x.a.i, .slice x.va x.os.length x.vc] 44)).drew from hN1.drew))
      have HR := Lib.hid (show ∀ g, (Value.slice va k vc).ownBlock = some g → g < wr.heap.size from fun g e => (World.ownsRow.lt HO.out.row g e).2)
      obtain ⟨kk, hkk⟩ : ∃ kk, x.os.length = kk := ⟨_, rfl⟩
      rw [hkk] at q3 u0 u1 u2 u3 HC HB
      have hD : Below (wr.alloc (.cells #[.int .i64 x.a.l, .int .u64 x.a.c, .int .i64 x.a.i, .slice x.va kk x.vc] 44)).heap.size (wr.alloc (.cells #[.int .i64 x.a.l, .int .u64 x.a.c, .int .i64 x.a.i, .slice x.va kk x.vc] 44)) (wr.alloc (.cells #[.int .i64 x.a.l, .int .u64 x.a.c, .int .i64 x.a.i, .slice x.va kk x.vc] 44)).drew := (Below.refl _ _).drew
      have d0 := cell_later hD u0
      have d1 := cell_later hD u1
      have d2 := cell_later hD u2
      have d3 := cell_later hD u3
      clear hPl hx hcs hD hN1 hlx hb hkk
      go_wp2
      go_region_held3 (fun w' => w'.cell? ⟨wr.heap.size, 0, none⟩ = some (.int .i64 x.a.l) ∧ w'.cell? ⟨wr.heap.size, 1, none⟩ = some (.int .u64 x.a.c) ∧ w'.cell? ⟨wr.heap.size, 2, none⟩ = some (.int .i64 x.a.i) ∧ w'.cell? ⟨wr.heap.size, 3, none⟩ = some (.slice x.va kk x.vc))
        (first | (with_reducible exact ⟨d0, d1, d2, d3⟩) | (with_reducible exact ⟨e0, e1, e2, e3⟩) | (with_reducible exact ⟨f0, f1, f2, f3⟩) | (with_reducible exact ⟨g0, g1, g2, g3⟩))
        (first
          | (go_at_call 55; ((with_reducible refine (HC.out _ HB.out.2).mono ?_); rintro e w3 ⟨os, va4, vc4, rfl, hSO, hsf, hb3⟩; have e0 := cell_later hb3 d0; have e1 := cell_later hb3 d1; have e2 := cell_later hb3 d2; have e3 := cell_later hb3 d3; have hN3 := Below.new w3 (.cells #[.int .i64 x.a.l, .int .u64 x.a.c, .int .i64 x.a.i, .slice va4 kk vc4] 44); have f0 := cell_later hN3 e0; have f1 := cell_later hN3 e1; have f2 := cell_later hN3 e2; have f3 := cell_later hN3 e3; have hB7 := (HB.out.2.trans (hb3.mono HB.out.2.size)).trans (hN3.mono (Nat.le_trans HB.out.2.size hb3.size)); have hO3 := HO.out.more hB7; have hlo : os.length = kk := hSO.o.hlen))
          | (refine step_append_lies _ rfl _ _ 58 rfl w.heap.size 44 i0 (.agg #[.int .i64 0, .int .u64 0, .int .i64 0, .slice none 0 0]) 4 48 Tryz.underlying58 hi hz0 hz1 hz2 rfl (by decide) (.slice va k vc) k (pcl vs) (by simp [Act.eval]) hO3.row ⟨w3.heap.size, 0, none⟩ 1 1 [.int .i64 x.a.l, .int .u64 x.a.c, .int .i64 x.a.i, .slice va4 kk vc4] (by simp [Act.eval]) rfl (by intro j u hu; rw [add_at, World.cell?_alloc_at _ _ _ _ rfl]; simpa using hu) (by simp [Value.oneCell']) (by decide) (by unfold maxLen; omega) (by omega) hO3.size (w3.heap.size + 1) (by simp) ?_; intro g cap6 w6 hown hgrow hat hlt6; have hlt3 := World.block_lt_of_cell? _ _ f0; have hne3 : some wr.heap.size ≠ (Value.slice va k vc).ownBlock := (fun e => absurd (HR.out wr.heap.size e.symm) (Nat.lt_irrefl _)); have g0 := (World.cell?_of_block (a := ⟨wr.heap.size, 0, none⟩) (hgrow.block wr.heap.size hlt3 hne3)).trans f0; have g1 := (World.cell?_of_block (a := ⟨wr.heap.size, 1, none⟩) (hgrow.block wr.heap.size hlt3 hne3)).trans f1; have g2 := (World.cell?_of_block (a := ⟨wr.heap.size, 2, none⟩) (hgrow.block wr.heap.size hlt3 hne3)).trans f2; have g3 := (World.cell?_of_block (a := ⟨wr.heap.size, 3, none⟩) (hgrow.block wr.heap.size hlt3 hne3)).trans f3))
      all_goals
        have HG := Lib.hid (show OutP w.heap.size w (.slice (some ⟨g, 0, none⟩) (k + 1) cap6) (k + 1) (vs ++ [(⟨x.a, os, va4, vc4⟩ : Pv)]) w6 ∧ ∀ z ∈ vs ++ [(⟨x.a, os, va4, vc4⟩ : Pv)], softP w.heap.size w6 z by
          subst hlo
          have hs3 : softP wr.heap.size w3 (⟨x.a, os, va4, vc4⟩ : Pv) := hsf.mono HB.out.2.size
          have hnp : newP wr.heap.size (⟨x.a, os, va4, vc4⟩ : Pv) := newP_soft hs3
          have hpl3 : Pl w3 (⟨x.a, os, va4, vc4⟩ : Pv) := ⟨hSO.o, HF.out⟩
          have hoff : offP (⟨x.a, os, va4, vc4⟩ : Pv) (.slice va k vc) := hnp.off (fun g hg => HR.out g hg)
          exact ⟨hO3.snoc (x := (⟨x.a, os, va4, vc4⟩ : Pv)) (hpl3.more hN3) hoff (hnp.mono HO.out.size) (by simp) hown hgrow hat, softP_snoc (fun z hz => ((HW.out z hz).more (HO.out.rows z hz).1 hB7).grown (hO3.rows z hz).1 (hO3.rows z hz).2.1 hgrow) (softP.grown (x := (⟨x.a, os, va4, vc4⟩ : Pv)) ((softP.more hs3 hpl3 hN3).mono HO.out.size) (hpl3.more hN3) hoff hgrow)⟩)
        have HOS := Lib.hid hSO.e
        clear hSO hsf hb3 hN3 hO3 hB7 hown hgrow hat hlt3 hne3 hlo
        go_wp2
        go_roundw
        case rel => exact ⟨k + 1, some ⟨g, 0, none⟩, cap6, vs ++ [(⟨x.a, os, va4, vc4⟩ : Pv)], by omega, rfl, by simp, HG.out.1, by rw [pts_append, HQ.out, HQ2.out]; show _ ++ [(⟨x.a, obs os⟩ : Pt)] = _; rw [HOS.out]; rfl, HG.out.2⟩
        case measure => simp [intOf]; omega
    · obtain rfl : k = len := by omega
      have hd1 : decide ((k : Int) < (k : Int)) = false := decide_eq_false (by omega)
      have hq : pts vs = l := by rw [HQ.out, List.take_of_length_le (by rw [HL.out.len]; exact Nat.le_refl _)]
      have HF := Lib.hid (show SeqV l k w (.returned (.slice va k vc)) wr from ⟨vs, va, vc, rfl, ⟨hq, HO.out.parts, HL.out.s⟩, HW.out, HO.out.below⟩)
      clear hq
      go_wp2
      go_ret
      exact HF.out

end Go.Proofs.YtlafcplcjpcikaaGreatDoor

/- What lies in cells stays, where no cell is turned. -/
namespace Go.Proofs.YtlafcplcjpcikaaGreatDoor
open Go.RowKit Go.Proofs.Fld Go.Proofs.Rng Go.Proofs.Spc Go.Proofs.Cats Go.Proofs.Wld Go.Shelf Go.Sort

/-- Each block that has a cell lies as it lay. -/
def KC (A B : World) : Prop := ∀ (b o : Nat) (v : Value), A.cell? ⟨b, o, none⟩ = some v → B.heap[b]? = A.heap[b]?
theorem KC.grown {A B : World} {row : Option Nat} (hg : A.grownBy B row) (hr : ∀ r, row = some r → ∃ o : Obj, A.heap[r]? = some o ∧ o.isCells = false) : KC A B := fun _b _o _v h =>
  let ⟨_, ho, hc⟩ := cells_of_cell h
  grownBy_keeps_cells hg hr ho hc
theorem KC.put {A : World} {D : Nat} {o : Obj} (o' : Obj) (hD : A.heap[D]? = some o) (ho : o.isCells = false) : KC A (A.putObj D o') := KC.grown (grownBy_putObj' A D o') (fun r e => by cases e; exact ⟨o, hD, ho⟩)
theorem Lv.kc {A B : World} {x : Ov} (h : Lv A x) (k : KC A B) : Lv B x := h.keep fun a e hz _ => by
  obtain ⟨b, off, e', hc⟩ := h.t.hcells hz
  rw [e] at e'
  obtain rfl := Option.some.inj e'
  obtain ⟨y, hy⟩ : ∃ y, x.o.l[0]? = some y := ⟨_, List.getElem?_eq_getElem (List.length_pos_iff.2 hz)⟩
  exact k _ _ _ (hc 0 y hy)
theorem softB.kc {n0 : Nat} {A B : World} {x : Ov} (h : softB n0 A x) (hx : Lv A x) (k : KC A B) : softB n0 B x := fun a e hz => ⟨(h a e hz).1, fun i => by
  refine Eq.trans ?_ ((h a e hz).2 i)
  obtain ⟨b, off, e', hc⟩ := hx.t.hcells hz
  rw [e] at e'
  obtain rfl := Option.some.inj e'
  obtain ⟨y, hy⟩ : ∃ y, x.o.l[0]? = some y := ⟨_, List.getElem?_eq_getElem (List.length_pos_iff.2 hz)⟩
  exact World.frozen?_of_block (w := A) (a := ⟨b, i, none⟩) (k _ _ _ (hc 0 y hy))⟩
theorem Objs.blk {A B : World} {ao : Option Addr} {len cap : Nat} {zs : List Ov} (h : Objs A ao len cap zs) (k : KC A B) : ∀ a, ao = some a → zs ≠ [] → B.heap[a.block]? = A.heap[a.block]? := fun a e hz => by
  obtain ⟨b, off, e', hc⟩ := h.hcells hz
  rw [e] at e'
  obtain rfl := Option.some.inj e'
  obtain ⟨y, hy⟩ : ∃ y, zs[0]? = some y := ⟨_, List.getElem?_eq_getElem (List.length_pos_iff.2 hz)⟩
  exact k _ _ _ (hc 0 y hy).1
theorem Objs.kc {A B : World} {ao : Option Addr} {len cap : Nat} {zs : List Ov} (h : Objs A ao len cap zs) (k : KC A B) : Objs B ao len cap zs :=
  ⟨h.hlen, h.hle, h.hmax, h.hnone, fun x hx => (h.hrows x hx).kc k, fun hz => by
    have hb := h.blk k
    obtain ⟨b, off, e, hc⟩ := h.hcells hz
    exact ⟨b, off, e, fun j x hj => (hc j x hj).of_block (hb _ e hz)⟩⟩
theorem softO.kc {n0 : Nat} {A B : World} {va : Option Addr} {len vc : Nat} {os : List Ov} (h : softO n0 A va os) (ho : Objs A va len vc os) (k : KC A B) : softO n0 B va os :=
  ⟨fun a e hz => ⟨(h.1 a e hz).1, fun i => (World.frozen?_of_block (w := A) (a := ⟨a.block, i, none⟩) (ho.blk k a e hz)).trans ((h.1 a e hz).2 i)⟩, fun z hz => (h.2 z hz).kc (ho.hrows z hz) k⟩
theorem SO.kc {A B : World} {va : Option Addr} {k vc : Nat} {vs : List Ov} {l : List Ob} (h : SO A va k vc vs l) (hk : KC A B) : SO B va k vc vs l := ⟨h.e, h.o.kc hk, h.s⟩
theorem Pl.kc {A B : World} {x : Pv} (h : Pl A x) (k : KC A B) : Pl B x := ⟨h.o.kc k, h.f⟩
theorem Parts.kc {A B : World} {ao : Option Addr} {len cap : Nat} {zs : List Pv} (h : Parts A ao len cap zs) (k : KC A B) : Parts B ao len cap zs :=
  ⟨h.hlen, h.hle, h.hmax, h.hnone, fun x hx => (h.hrows x hx).kc k, fun hz => by
    obtain ⟨b, off, e, hc⟩ := h.hcells hz
    exact ⟨b, off, e, fun j x hj => (hc j x hj).of_block (k _ _ _ (hc j x hj).1)⟩⟩
theorem SP.kc {A B : World} {va : Option Addr} {k vc : Nat} {vs : List Pv} {l : List Pt} (h : SP A va k vc vs l) (hk : KC A B) : SP B va k vc vs l := ⟨h.e, h.o.kc hk, h.s⟩
/-- What is told stays told behind the end of a range. -/
theorem SeqV.put {l : List Pt} {k : Nat} {w w0 w' : World} {e : Ending} {D : Nat} {o : Obj} (o' : Obj) (h : SeqV l k w0 e w') (hw : Below w.heap.size w w0) (hD : w'.heap[D]? = some o) (ho : o.isCells = false) (hl : w.heap.size ≤ D) : SeqV l k w e (w'.putObj D o') := by
  obtain ⟨vs, va, vc, h1, h2, h3, h4⟩ := h
  have hk := KC.put o' hD ho
  exact ⟨vs, va, vc, h1, h2.kc hk, fun x hx => softO.kc ((h3 x hx).mono hw.size) (h2.o.hrows x hx).o hk, (hw.trans (h4.mono hw.size)).trans (below_put _ _ _ _ hl)⟩
theorem SeqV.trans {l : List Pt} {k : Nat} {w w0 w' : World} {e : Ending} (h : SeqV l k w0 e w') (hw : Below w.heap.size w w0) : SeqV l k w e w' := by
  obtain ⟨vs, va, vc, h1, h2, h3, h4⟩ := h
  exact ⟨vs, va, vc, h1, h2, fun x hx => (h3 x hx).mono hw.size, hw.trans (h4.mono hw.size)⟩
theorem SeqU.put {l : List Ob} {k : Nat} {w w0 w' : World} {e : Ending} {D : Nat} {o : Obj} (o' : Obj) (h : SeqU l k w0 e w') (hw : Below w.heap.size w w0) (hD : w'.heap[D]? = some o) (ho : o.isCells = false) (hl : w.heap.size ≤ D) : SeqU l k w e (w'.putObj D o') := by
  obtain ⟨vs, va, vc, h1, h2, h3, h4⟩ := h
  have hk := KC.put o' hD ho
  exact ⟨vs, va, vc, h1, h2.kc hk, (h3.mono hw.size).kc h2.o hk, (hw.trans (h4.mono hw.size)).trans (below_put _ _ _ _ hl)⟩

end Go.Proofs.YtlafcplcjpcikaaGreatDoor

/- under, Seen: the parts under a label. -/
namespace Go.Proofs.YtlafcplcjpcikaaGreatDoor
open Go.RowKit Go.Proofs.Fld Go.Proofs.Rng Go.Proofs.Spc Go.Proofs.Cats Go.Proofs.Wld Go.Shelf Go.Sort

attribute [local go_sem] Oper.semAt_some

def undV (a : Lab) (l : List Pv) : List Pv := l.filter fun x => x.a.under a
theorem undV_pts (a : Lab) (l : List Pv) : pts (undV a l) = seenW (pts l) a := by
  unfold undV seenW pts
  rw [List.filter_map]
  rfl
theorem undV_yes {a : Lab} {l : List Pv} {x : Pv} (h : x.a.under a = true) : undV a (l ++ [x]) = undV a l ++ [x] := by simp [undV, h]
theorem undV_no {a : Lab} {l : List Pv} {x : Pv} (h : x.a.under a = false) : undV a (l ++ [x]) = undV a l := by simp [undV, h]
theorem undV_len (a : Lab) (l : List Pv) : (undV a l).length ≤ l.length := List.length_filter_le _ _
theorem underP_any (a b : Lab) (ha : a.fits) (hb : b.fits) {r : Bool} (hr : a.under b = r) (w : World) : Calls Tryz.prog 26 #[.agg #[.int .i64 a.l, .int .u64 a.c, .int .i64 a.i], .agg #[.int .i64 b.l, .int .u64 b.c, .int .i64 b.i]] w (BoolP r w) := hr ▸ Lb.Under_any a b ha hb w
/-- Between two rounds. -/
def UdI (a : Lab) (w : World) (pre : List Pv) (W : World) : Prop := (∃ v, Boxed W (w.heap.size + 1) 58 v ∧ W.ownsRow (w.heap.size + 3) 44 4 v (undV a pre).length (pcl (undV a pre)) ∧ True) ∧ BoxL W w.heap.size a ∧ w.heap.size + 3 ≤ W.heap.size ∧ Below w.heap.size w W
theorem UdI.own {a : Lab} {w : World} {n0 : Nat} (hn : w.heap.size ≤ n0) : OwnFrom n0 (UdI a w) := by
  rintro pre A W row ⟨h1, h2, hz, hb⟩ hg hr
  have hb2 := ownFrom_below (β := List Pv) (n₀ := w.heap.size) (w₀ := w) (Nat.le_refl _) hn pre A W row hb hg hr
  exact ⟨holdsRow_own (w.heap.size + 3) (w.heap.size + 1) 58 44 4 (fun pre : List Pv => (undV a pre).length) (fun pre => pcl (undV a pre)) (fun _ _ => True) pre A W row h1 hg (fun r e => (hr r e).2), h2.keep hg (fun r e => (hr r e).2), Nat.le_trans hz hg.size, hb2⟩
theorem row_round {W w1 : World} {m B n0 size : Nat} {t e : TypeId} {v v' : Value} {k k' : Nat} {xs ys : List Value} {tmp : Obj} (hte : t ≠ e) (hv : Boxed W B t v) (hrow : W.ownsRow n0 e size v k xs) (hz : n0 ≤ W.heap.size) (hmB : m ≤ B) (hmn : m ≤ n0)
    (hown' : w1.ownsRow n0 e size v' k' ys) (hgrow : (W.alloc tmp).grownBy w1 v.ownBlock) :
    Boxed w1 B t v ∧ Boxed (w1.setCell ⟨B, 0, none⟩ v') B t v' ∧ (w1.setCell ⟨B, 0, none⟩ v').ownsRow n0 e size v' k' ys ∧ KeepsOthers W (w1.setCell ⟨B, 0, none⟩ v') ∧ Below m W (w1.setCell ⟨B, 0, none⟩ v') ∧ (∀ k, k < n0 → k ≠ B → (w1.setCell ⟨B, 0, none⟩ v').heap[k]? = W.heap[k]?) := by
  have hv1 : Boxed w1 B t v := (hv.alloc tmp).kept hgrow (hv.not_row hte hrow)
  have hge : ∀ j, v.ownBlock = some j → n0 ≤ j := fun j ej => by
    rcases hrow.2 with ⟨rfl, _⟩ | ⟨g, cap, cur, rfl, hb, _, _⟩
    · simp [Value.ownBlock] at ej
    · obtain rfl : g = j := by simpa [Value.ownBlock] using ej
      exact hb
  refine ⟨hv1, hv1.set v', hown'.kept (grownBy_setCell' w1 B v') (.inr (hv1.not_row hte hown').symm), ?_, ?_, ?_⟩
  · refine ((KeepsOthers.alloc W tmp).trans (KeepsOthers.of_grownBy hgrow fun j o ej hj => ?_)).trans (KeepsOthers.setCell _ _ _)
    rcases (hrow.alloc tmp).2 with ⟨rfl, _⟩ | ⟨g, cap, cur, rfl, _, hgb, _⟩
    · simp [Value.ownBlock] at ej
    · obtain rfl : g = j := by simpa [Value.ownBlock] using ej
      rw [hgb] at hj; cases hj; rfl
  · refine (((Below.refl m W).alloc (by omega) tmp).grown hgrow (by simp; omega) fun j ej => ?_).setCell (p := ⟨B, 0, none⟩) hmB v'
    have := hge j ej
    omega
  · intro k hk hne
    refine (Below.heap_setCell _ _ _ k (fun e => hne e)).trans ?_
    refine (hgrow.block k (by simp; omega) (fun e => by have := hge k e.symm; omega)).trans ?_
    exact Below.heap_alloc _ _ _ (by omega)

set_option maxRecDepth 100000 in
set_option maxHeartbeats 4000000 in
theorem under_in (n : Nat) (hn : 3 ≤ n) (a : Lab) (ha : a.fits) {ao : Option Addr} {len cap k0 : Nat} {zs : List Pv} {l os : List Pt} (ho : seenW l a = os) (hk0 : os.length = k0) {w : World} (hL : SP w ao len cap zs l) :
    CallsIn Fence.wide n Tryz.prog 37 #[.slice ao len cap, .agg #[.int .i64 a.l, .int .u64 a.c, .int .i64 a.i]] w (SeqV os k0 w) := by
  have hn1 : 1 ≤ n := by omega
  obtain ⟨i0, hi, hz0, hz1, hz2⟩ := info_parts infoP
  have hlen10 := hL.le
  have HF := Lib.hid (And.intro ha (And.intro ho hk0))
  refine callsIn_of_wp_marks Tryz.func37 rfl trivial ?_ rfl
  simp only [Tryz.ntmps37, List.size_toArray, List.length_cons, List.length_nil, Nat.reduceAdd, Nat.reduceSub, Array.replicate_succ, Array.replicate_zero, List.push_toArray, List.append_toArray, List.nil_append, List.cons_append]
  have HL := Lib.hid hL
  clear hL ha ho hk0
  have hN1 := Below.new w (.cells #[.int .i64 a.l, .int .u64 a.c, .int .i64 a.i] 25)
  have l0 := BoxL.new w a
  have hN2 := Below.new (w.alloc (.cells #[.int .i64 a.l, .int .u64 a.c, .int .i64 a.i] 25)) (.cells #[.slice none 0 0] 58)
  replace l0 := l0.more hN2
  have b0 := Boxed.new (w.alloc (.cells #[.int .i64 a.l, .int .u64 a.c, .int .i64 a.i] 25)) 58 (.slice none 0 0)
  rw [World.size_alloc] at b0
  have hB2 := below_more hN1 hN2
  obtain ⟨Wi, hWi⟩ : ∃ Wi, (w.alloc (.cells #[.int .i64 a.l, .int .u64 a.c, .int .i64 a.i] 25)).alloc (.cells #[.slice none 0 0] 58) = Wi := ⟨_, rfl⟩
  have hzi : Wi.heap.size = w.heap.size + 2 := by rw [← hWi]; simp
  rw [hWi] at l0 b0 hB2
  clear hN1 hN2
  gi_wp2_with (refine ⟨trivial, ?_⟩; gi_at_call 54; refine (callsIn_wide.2 (allP_any ao len cap _)).mono ?_)
  rintro e W0 ⟨rfl, rfl⟩
  rw [hzi]
  have hN3 := Below.new Wi (.cells #[.slice ao len cap] 58)
  have hc : (Wi.alloc (.cells #[.slice ao len cap] 58)).cell? ⟨w.heap.size + 2, 0, none⟩ = some (.slice ao len cap) := by rw [← hzi]; simp
  have hz : (Wi.alloc (.cells #[.slice ao len cap] 58)).heap.size = w.heap.size + 3 := by rw [World.size_alloc, hzi]
  obtain ⟨W0, hW0⟩ : ∃ W0, Wi.alloc (.cells #[.slice ao len cap] 58) = W0 := ⟨_, rfl⟩
  rw [hW0] at hN3 hc hz ⊢
  have HA := Lib.hid (And.intro (boxed_more b0 hN3) (And.intro (below_more hB2 hN3) (And.intro hc (l0.more hN3))))
  clear b0 l0 hB2 hc hN3 hW0 hWi
  gi_wp2
  refine wpIn_rangeY hn1 (gf := 89) (lb := #[.pointer (some ⟨w.heap.size + 2, 0, none⟩)]) rfl (enters_of Tryz.func89 (by kernel_rfl) rfl)
    (valsP1 (n - 1) (by omega) (fun k => k < w.heap.size) (w.heap.size + 2) len cap ao zs (by omega) W0 (fun k hk => by omega) HA.out.2.2.1 (HL.out.o.more HA.out.2.1) ?hap) KS.trans (fun V o o' _ _ _ => KS.put _ _ _ (by omega)) (fun _ => rfl)
    (UdI a w) (fun _ _ _ => False) ?hI ?hIx ?h0
    (fun x a' W => ∃ Bx, PtAt W Bx 0 x ∧ a' = { tmps := #[.slice ao len cap, .agg #[.int .i64 a.l, .int .u64 a.c, .int .i64 a.i], undef, .pointer (some ⟨w.heap.size, 0, none⟩), .slice none 0 0, .pointer (some ⟨w.heap.size + 1, 0, none⟩), .pointer (some ⟨Bx, 0, none⟩), .slice ao len cap, .func (.func 89) #[] #[.pointer (some ⟨w.heap.size + 2, 0, none⟩)], .agg #[.int .i64 x.a.l, .int .u64 x.a.c, .int .i64 x.a.i, .slice x.va x.os.length x.vc], undef, undef, undef, undef, undef, undef, undef, undef, undef, undef], defers := [] })
    ?hAx ?assign ?body ?done ?stop
  case hap =>
    intro hp ad e
    obtain ⟨b, off, e', hbl, _⟩ := HL.out.o.at hp
    rw [e] at e'
    obtain rfl := Option.some.inj e'
    exact hbl
  case hI => exact UdI.own (by omega)
  case hIx => intro c s A B row hs; exact hs.elim
  case hAx =>
    rintro x a' _ A B row ⟨Bx, h1, rfl⟩ hg hr
    exact ⟨Bx, ptat_keep h1 hg (fun r e => (hr r e).2), rfl⟩
  case h0 => exact ⟨⟨_, HA.out.1, World.ownsRow_nil _ _ _ _, trivial⟩, HA.out.2.2.2, by omega, HA.out.2.1⟩
  case assign =>
    rintro l pre x W K ⟨⟨v, x1, x2, _⟩, x3, hz1', hB1⟩ hH hK
    have HK := Lib.hid hK
    have HP := Lib.hid (And.intro x1 (And.intro x2 (And.intro hB1 x3)))
    clear hK x1 x2 hB1 x3
    simp only [pv]
    gi_wp2
    exact HK.out _ _ ((KeepsOthers.alloc _ _).from _) (KS.of_below (m := W.heap.size) (Below.new W _) (fun k hk => by omega)) ⟨⟨v, HP.out.1.alloc _, HP.out.2.1.alloc _, trivial⟩, HP.out.2.2.2.more (Below.new _ _), by simp; omega, HP.out.2.2.1.alloc HP.out.2.2.1.size _⟩ ⟨W.heap.size, PtAt.new W x _, rfl⟩
  case body =>
    rintro l pre x a' W ⟨⟨v, x1, x2, _⟩, x3, hz1', hB1⟩ hH ⟨Bx, hx, rfl⟩
    obtain ⟨a0, a1, a2⟩ := x3.lab
    have hpl := hH.length_le
    have hm : x ∈ zs := hH.subset (by simp)
    rw [List.length_append, List.length_cons, List.length_nil, HL.out.o.hlen] at hpl
    have hul := undV_len a pre
    obtain ⟨y0, y1, y2, y3⟩ := hx.var
    have HX := Lib.hid (And.intro (HL.out.o.hrows x hm).f (And.intro x1 (And.intro x2 (And.intro x3 (And.intro hB1 hx)))))
    clear hx hH hm hB1 x1 x2 x3
    have hdp : 1 ≤ n - 1 - 1 := by omega
    cases hu : x.a.under a with
    | false =>
      have HU := Lib.hid hu
      clear hu
      gi_wp2_with (refine ⟨trivial, ?_⟩; gi_at_call 26; refine (CallsIn.inRound l (callsIn_wide.2 (underP_any x.a a HX.out.1 HF.out.1 HU.out W))).mono ?_)
      rintro e w1 ⟨rfl, hb1⟩
      have HB := Lib.hid hb1
      clear hb1
      gi_wp2
      refine ⟨(keeps_below HB.out).from _, KS.of_below HB.out (fun k hk => by omega), ⟨v, boxed_more HX.out.2.1 HB.out, ?_, trivial⟩, HX.out.2.2.2.1.more HB.out, Nat.le_trans hz1' HB.out.size, below_more HX.out.2.2.2.2.1 HB.out⟩
      rw [undV_no HU.out]
      exact row_more HX.out.2.2.1 HB.out
    | true =>
      have HU := Lib.hid hu
      clear hu
      gi_wp2_with (refine ⟨trivial, ?_⟩; gi_at_call 26; refine (CallsIn.inRound l (callsIn_wide.2 (underP_any x.a a HX.out.1 HF.out.1 HU.out W))).mono ?_)
      rintro e w1 ⟨rfl, hb1⟩
      have x1 := boxed_more HX.out.2.1 hb1
      have x2 := row_more HX.out.2.2.1 hb1
      have x3 := HX.out.2.2.2.1.more hb1
      obtain ⟨z0, z1, z2, z3⟩ := (HX.out.2.2.2.2.2.more hb1).var
      have hz3 : w.heap.size + 3 ≤ w1.heap.size := Nat.le_trans hz1' hb1.size
      have HB := Lib.hid (And.intro hb1 (And.intro x3 (below_more HX.out.2.2.2.2.1 hb1)))
      have HN := Lib.hid (pt_new w1 x 44)
      have c2 := x1.cell
      obtain ⟨ku, hku⟩ : ∃ ku, (undV a pre).length = ku := ⟨_, rfl⟩
      rw [hku] at x2 hul
      have HKU := Lib.hid hku
      obtain ⟨va, vc, rfl⟩ := row_slice x2
      clear hb1 x3 hku y0 y1 y2 y3 a0 a1 a2
      gi_wp2_with (gi_at_builtin; go_loud (refine wpListIn_append_own _ rfl _ _ 58 rfl (w.heap.size + 3) 44 i0 (.agg #[.int .i64 0, .int .u64 0, .int .i64 0, .slice none 0 0]) 4 48 Tryz.underlying58 hi hz0 hz1 hz2 rfl (by decide) (.slice va ku vc) ku (pcl (undV a pre)) rfl (x2.alloc (.cells #[.int .i64 x.a.l, .int .u64 x.a.c, .int .i64 x.a.i, .slice x.va x.os.length x.vc] 44)) ⟨w1.heap.size, 0, none⟩ 1 1 [.int .i64 x.a.l, .int .u64 x.a.c, .int .i64 x.a.i, .slice x.va x.os.length x.vc] rfl rfl HN.out (by simp [Value.oneCell']) (by unfold maxLen; omega) (by omega) (by simp; omega) ?_; intro v' w5 hown' hgrow _; obtain ⟨g', cap', rfl⟩ := ownsRow_succ hown'; obtain ⟨hv1, hv2, hr2, hk2, hb2, hks⟩ := row_round (m := w.heap.size) (by decide) x1 x2 hz3 (by omega) (by omega) hown' hgrow; have hc1 := hv1.cell; have hf1 := hv1.frozen))
      refine ⟨((keeps_below HB.out.1).trans hk2).from _, KS.of_below ((HB.out.1.mono (by omega)).trans hb2) (fun k hk => hk), ⟨_, hv2, ?_, trivial⟩, HB.out.2.1.eq (hks _ (by omega) (by omega)), Nat.le_trans hz1' (Nat.le_trans HB.out.1.size hb2.size), HB.out.2.2.trans hb2⟩
      rw [undV_yes HU.out, List.length_append, HKU.out, pcl_append, pcl_one]
      exact hr2
  case done =>
    rintro D ys W hD rfl ⟨⟨v, x1, x2, _⟩, x3, hz1', hB1⟩ hK
    have c2 := x1.cell
    obtain ⟨va, vc, rfl⟩ := row_slice x2
    have hos : pts (undV a ys) = os := by rw [undV_pts, HL.out.e]; exact HF.out.2.1
    have hlu : (undV a ys).length = k0 := by rw [← HF.out.2.2, ← hos, pts_length]
    have hP : Parts W va (undV a ys).length vc (undV a ys) := OwnP.parts (n0 := w.heap.size + 3) x2 rfl (fun x hx => (HL.out.o.hrows x ((List.mem_filter.1 hx).1)).more hB1)
    rw [hlu] at c2 hP
    have hSP : SP W va k0 vc (undV a ys) os := ⟨hos, hP, ⟨by rw [HF.out.2.2, ← hlu]; have := undV_len a ys; have := HL.out.o.hlen; omega, fun y hy => HL.out.s.b y (by
      have h1 : y ∈ seenW l a := HF.out.2.1 ▸ hy
      exact (List.mem_filter.1 h1).1)⟩⟩
    have HX := Lib.hid (And.intro hSP (And.intro hB1 hK))
    have hDl := (Array.getElem?_eq_some_iff.1 hK).1
    clear x1 x2 x3 hB1 hK hos hP hSP
    gi_wp2_with (refine ⟨trivial, ?_⟩; gi_at_call 56; refine (callsIn_wide.2 (ownW_any HX.out.1)).mono ?_)
    rintro e w2 ⟨vs2, va2, vc2, rfl, hq1, hq2, hb2⟩
    have HR := Lib.hid (show SeqV os k0 w (.returned (.slice va2 k0 vc2)) (w2.putObj D (.deferred none)) from SeqV.put (w0 := W) (.deferred none) ⟨vs2, va2, vc2, rfl, hq1, hq2, hb2⟩ HX.out.2.1 ((hb2.block D hDl).trans HX.out.2.2) rfl (by omega))
    have HK2 := Lib.hid ((hb2.block D hDl).trans HX.out.2.2)
    clear hq1 hq2 hb2
    gi_wp2
    refine ⟨by simp, .inl ⟨_, _, rfl, run_takeDeferred HK2.out, ?_⟩⟩
    exact ⟨.slice va2 k0 vc2, by simp [results, Tryz.results37, go_sem], HR.out⟩
  case stop =>
    rintro D c pre W _ _ h _
    exact h.elim

set_option maxHeartbeats 1000000 in
theorem GSeen_w {s : Sn} {w0 w : World} {ao : Option Addr} {k0 cap kr : Nat} {zs : List Pv} {l os : List Pt} {a : Lab} (ha : a.fits) (ho : seenW l a = os) (hkr : os.length = kr) (hL : SP w ao k0 cap zs l) (_hs : WE s w0 w) :
    Calls Tryz.prog 18 #[.slice ao k0 cap, .agg #[.int .i64 a.l, .int .u64 a.c, .int .i64 a.i]] w (SeqV os kr w) := by
  have hN1 := Below.new w (.cells #[.int .i64 a.l, .int .u64 a.c, .int .i64 a.i] 25)
  have HC := Lib.hid ((callsIn_wide (n := 3)).1 (under_in 3 (by omega) a ha ho hkr (hL.more hN1)))
  have HB := Lib.hid hN1
  clear hL hN1 ha ho hkr
  go_enter Tryz.func18, Tryz.ntmps18
  go_wp2_with (go_at_call 37; refine HC.out.mono ?_)
  rintro e w1 ⟨vs, va, vc, rfl, h2, h3, h4⟩
  have HR := Lib.hid (SeqV.trans (w := w) (l := os) (k := kr) (e := .returned (.slice va kr vc)) ⟨vs, va, vc, rfl, h2, h3, h4⟩ HB.out)
  clear h2 h3 h4
  go_wp2
  go_ret
  exact HR.out

end Go.Proofs.YtlafcplcjpcikaaGreatDoor

/- place: from where to where the mark's part is. -/
namespace Go.Proofs.Wld
open Go.Proofs.Cats Go.Proofs.Rng Go.Proofs.Spc
/-- How many parts are ahead of a label's; is there one of that label? -/
def befW : List Pt → Lab → Nat
  | [], _ => 0
  | x :: r, a => if x.a.ahead a then befW r a + 1 else 0
def hitW : List Pt → Lab → Bool
  | [], _ => false
  | x :: r, a => if x.a.ahead a then hitW r a else x.a.same a
def endW (l : List Pt) (a : Lab) : Nat := befW l a + (if hitW l a then 1 else 0)
theorem bef_append {p : List Pt} {a : Lab} (t : List Pt) (h : ∀ y ∈ p, y.a.ahead a = true) : befW (p ++ t) a = p.length + befW t a ∧ hitW (p ++ t) a = hitW t a := by
  induction p with
  | nil => simp
  | cons x r ih =>
    obtain ⟨h1, h2⟩ := ih fun y hy => h y (by simp [hy])
    have hx := h x (by simp)
    constructor
    · show (if x.a.ahead a then befW (r ++ t) a + 1 else 0) = _
      rw [if_pos hx, h1, List.length_cons]
      omega
    · show (if x.a.ahead a then hitW (r ++ t) a else x.a.same a) = _
      rw [if_pos hx, h2]
theorem bef_all {l : List Pt} {a : Lab} (h : ∀ y ∈ l, y.a.ahead a = true) : befW l a = l.length ∧ endW l a = l.length := by
  have := bef_append [] h
  rw [List.append_nil] at this
  unfold endW
  rw [this.1, this.2]
  simp [befW, hitW]
theorem bef_at {l p : List Pt} {x : Pt} {a : Lab} (h : ∀ y ∈ p, y.a.ahead a = true) (hx : x.a.ahead a = false) (hp : p ++ [x] <+: l) : befW l a = p.length ∧ endW l a = p.length + (if x.a.same a then 1 else 0) := by
  obtain ⟨t, rfl⟩ := hp
  have := bef_append (x :: t) h
  rw [List.append_assoc, List.singleton_append]
  unfold endW
  rw [this.1, this.2]
  have h1 : befW (x :: t) a = 0 := by
    show (if x.a.ahead a then befW t a + 1 else 0) = 0
    rw [hx]
    rfl
  have h2 : hitW (x :: t) a = x.a.same a := by
    show (if x.a.ahead a then hitW t a else x.a.same a) = _
    rw [hx]
    rfl
  rw [h1, h2, Nat.add_zero]
  exact ⟨rfl, rfl⟩
theorem bef_le (l : List Pt) (a : Lab) : endW l a ≤ l.length := by
  induction l with
  | nil => simp [endW, befW, hitW]
  | cons x r ih =>
    unfold endW at *
    rw [show befW (x :: r) a = if x.a.ahead a then befW r a + 1 else 0 from rfl, show hitW (x :: r) a = if x.a.ahead a then hitW r a else x.a.same a from rfl]
    cases x.a.ahead a
    · simp only [Bool.false_eq_true, if_false, List.length_cons]
      split <;> omega
    · simp only [if_true, List.length_cons]
      omega
theorem bef_end (l : List Pt) (a : Lab) : befW l a ≤ endW l a := Nat.le_add_right _ _
theorem cmp_same (a b : Lab) : (a.cmp b == 0) = a.same b := by
  unfold Lab.cmp
  cases a.same b
  · cases a.ahead b <;> rfl
  · rfl
/-- The last one's objects. -/
def lastO (l : List Pt) : List Ob := match l.getLast? with
  | none => []
  | some x => x.l
theorem lastO_snoc (l : List Pt) (x : Pt) : lastO (l ++ [x]) = x.l := by
  unfold lastO
  rw [List.getLast?_concat]
theorem same_false {a b : Lab} (h : a ≠ b) : a.same b = false := by
  cases e : a.same b
  · rfl
  · exact absurd ((Lab.same_iff _ _).1 e) h
theorem bef_cons_t {x : Pt} {r : List Pt} {a : Lab} (h : x.a.ahead a = true) : befW (x :: r) a = befW r a + 1 ∧ endW (x :: r) a = endW r a + 1 := by
  have h1 : befW (x :: r) a = befW r a + 1 := by
    show (if x.a.ahead a then befW r a + 1 else 0) = _
    rw [if_pos h]
  have h2 : hitW (x :: r) a = hitW r a := by
    show (if x.a.ahead a then hitW r a else x.a.same a) = _
    rw [if_pos h]
  refine ⟨h1, ?_⟩
  unfold endW
  rw [h1, h2]
  omega
theorem bef_cons_f {x : Pt} {r : List Pt} {a : Lab} (h : x.a.ahead a = false) : befW (x :: r) a = 0 ∧ endW (x :: r) a = if x.a.same a then 1 else 0 := by
  have h1 : befW (x :: r) a = 0 := by
    show (if x.a.ahead a then befW r a + 1 else 0) = _
    rw [h]
    rfl
  have h2 : hitW (x :: r) a = x.a.same a := by
    show (if x.a.ahead a then hitW r a else x.a.same a) = _
    rw [h]
    rfl
  refine ⟨h1, ?_⟩
  unfold endW
  rw [h1, h2, Nat.zero_add]
/-- What is cut around a label. -/
theorem look_cut {p : Option Lab} {w : List Pt} (h : goodW p w = true) (a : Lab) : lookW w a = lastO ((w.drop (befW w a)).take (endW w a - befW w a)) := by
  induction w generalizing p with
  | nil => rfl
  | cons x r ih =>
    obtain ⟨h1, h5⟩ := goodW_cons.1 h
    cases e : x.a.ahead a with
    | true =>
      obtain ⟨e1, e2⟩ := bef_cons_t (r := r) e
      rw [e1, e2, List.drop_succ_cons, show endW r a + 1 - (befW r a + 1) = endW r a - befW r a by omega, ← ih h5]
      show (if x.a = a then x.l else lookW r a) = lookW r a
      rw [if_neg (ahead_ne e)]
    | false =>
      obtain ⟨e1, e2⟩ := bef_cons_f (r := r) e
      rw [e1, e2]
      by_cases q : x.a = a
      · rw [show x.a.same a = true from (Lab.same_iff _ _).2 q]
        show (if x.a = a then x.l else lookW r a) = x.l
        rw [if_pos q]
      · rw [same_false q]
        have hb := ahead_total q e
        show lookW (x :: r) a = []
        refine look_none fun y hy => ?_
        rcases List.mem_cons.1 hy with rfl | hy
        · exact q
        · exact fun z => ahead_ne (ahead_trans hb (goodW_behind h5 y hy)) z.symm
theorem put_cut {p : Option Lab} {w : List Pt} (h : goodW p w = true) (a : Lab) (l : List Ob) : putW w a l = w.take (befW w a) ++ ((if l.isEmpty then [] else [⟨a, l⟩]) ++ w.drop (endW w a)) := by
  induction w generalizing p with
  | nil =>
    unfold putW
    cases l <;> rfl
  | cons x r ih =>
    obtain ⟨h1, h5⟩ := goodW_cons.1 h
    unfold putW
    cases e : x.a.ahead a with
    | true =>
      obtain ⟨e1, e2⟩ := bef_cons_t (r := r) e
      rw [e1, e2, if_neg (ahead_ne e), ahead_asymm e, ih h5]
      rfl
    | false =>
      obtain ⟨e1, e2⟩ := bef_cons_f (r := r) e
      rw [e1, e2]
      by_cases q : x.a = a
      · rw [show x.a.same a = true from (Lab.same_iff _ _).2 q, if_pos q]
        cases l <;> rfl
      · rw [same_false q, if_neg q, ahead_total q e, if_pos rfl]
        cases l <;> rfl
end Go.Proofs.Wld
namespace Go.Proofs.YtlafcplcjpcikaaGreatDoor
open Go.RowKit Go.Proofs.Fld Go.Proofs.Rng Go.Proofs.Spc Go.Proofs.Cats Go.Proofs.Wld Go.Shelf Go.Sort

attribute [local go_sem] Oper.semAt_some

set_option maxRecDepth 100000 in
set_option maxHeartbeats 4000000 in
theorem pl_region {l2 n k X Y : Nat} {Q : Exit → Act → World → Prop} {V : World} {u0 u1 u2 u3 u6 u7 u8 u9 u10 u11 u12 u13 u14 u15 u16 u17 u18 u19 : Value} (hk : k ≤ 1000000) (hXY : X ≠ Y)
    (c4 : V.cell? ⟨X, 0, none⟩ = some (.int .i64 (k : Int))) (c5 : V.cell? ⟨Y, 0, none⟩ = some (.int .i64 (k : Int))) (f4 : V.frozen? ⟨X, 0, none⟩ = false) (f5 : V.frozen? ⟨Y, 0, none⟩ = false)
    (hQ : Q .normal { tmps := #[u0, u1, u2, u3, .pointer (some ⟨X, 0, none⟩), .pointer (some ⟨Y, 0, none⟩), u6, u7, u8, u9, u10, u11, u12, u13, u14, u15, u16, u17, u18, u19, .int .i64 (k : Int), .int .i64 ((k : Int) + 1), .int .i64 (k : Int), .int .i64 ((k : Int) + 1), undef, undef, undef, undef, undef, undef, undef], defers := [] } ((V.setCell ⟨X, 0, none⟩ (.int .i64 ((k : Int) + 1))).setCell ⟨Y, 0, none⟩ (.int .i64 ((k : Int) + 1)))) :
    wpAnyIn (Fence.wide.inRound l2) n Tryz.prog .any #[{ dst := some 20, op := Go.Op.load 3 (Go.Operand.tmp 4), type := 3, pos := "world.go:121", after := #[], guard := none }, { dst := some 21, op := Go.Op.binOp Go.BinOp.add 3 (Go.Operand.tmp 20) (Go.Operand.const (Go.Value.int Go.IntKind.i64 1)) 3, type := 3, pos := "world.go:121", after := #[{ on := 0, ground := Go.Ground.data }], guard := none }, { dst := some 22, op := Go.Op.load 3 (Go.Operand.tmp 5), type := 3, pos := "world.go:121", after := #[], guard := none }, { dst := some 23, op := Go.Op.binOp Go.BinOp.add 3 (Go.Operand.tmp 22) (Go.Operand.const (Go.Value.int Go.IntKind.i64 1)) 3, type := 3, pos := "world.go:121", after := #[{ on := 2, ground := Go.Ground.data }], guard := none }, { dst := none, op := Go.Op.store 3 (Go.Operand.tmp 4) (Go.Operand.tmp 21), type := 0, pos := "world.go:121", after := #[{ on := 1, ground := Go.Ground.data }, { on := 0, ground := Go.Ground.phase }, { on := 1, ground := Go.Ground.phase }, { on := 2, ground := Go.Ground.textOnly Go.Departure.inlinedCapture }, { on := 3, ground := Go.Ground.textOnly Go.Departure.inlinedCapture }], guard := none }, { dst := none, op := Go.Op.store 3 (Go.Operand.tmp 5) (Go.Operand.tmp 23), type := 0, pos := "world.go:121", after := #[{ on := 3, ground := Go.Ground.data }, { on := 4, ground := Go.Ground.chain }, { on := 0, ground := Go.Ground.phase }, { on := 1, ground := Go.Ground.phase }, { on := 2, ground := Go.Ground.phase }, { on := 3, ground := Go.Ground.phase }, { on := 4, ground := Go.Ground.phase }], guard := none }] Q 6 (Array.replicate 6 false) { tmps := #[u0, u1, u2, u3, .pointer (some ⟨X, 0, none⟩), .pointer (some ⟨Y, 0, none⟩), u6, u7, u8, u9, u10, u11, u12, u13, u14, u15, u16, u17, u18, u19, undef, undef, undef, undef, undef, undef, undef, undef, undef, undef, undef], defers := [] } V := by
  have HF := Lib.hid hQ
  have hw : IntKind.i64.wrap ((k : Int) + 1) = (k : Int) + 1 := by rw [IntKind.wrap_i64]; omega
  have d5 : (V.setCell ⟨X, 0, none⟩ (.int .i64 ((k : Int) + 1))).cell? ⟨Y, 0, none⟩ = some (.int .i64 (k : Int)) := setO c5 (ne_blk hXY)
  have g5 : (V.setCell ⟨X, 0, none⟩ (.int .i64 ((k : Int) + 1))).frozen? ⟨Y, 0, none⟩ = false := setF f5
  clear hQ hXY hk
  refine wpAnyIn_ready (rs := [0, 2]) (by kernel_rfl) (by simp) ?_
  refine AllReadyIn.cons (o := { dst := some 20, op := Go.Op.load 3 (Go.Operand.tmp 4), type := 3, pos := "world.go:121", after := #[], guard := none }) rfl (fun K hK => ?_) ?_
  · skip
    have HK := Lib.hid hK
    clear hK
    go_simp
    refine HK.out _ _ ?_
    clear HK
    try simp only [Act.put, List.setIfInBounds_toArray, List.set_cons_zero, List.set_cons_succ]
    refine wpAnyIn_ready (rs := [1, 2]) (by kernel_rfl) (by simp) ?_
    refine AllReadyIn.cons (o := { dst := some 21, op := Go.Op.binOp Go.BinOp.add 3 (Go.Operand.tmp 20) (Go.Operand.const (Go.Value.int Go.IntKind.i64 1)) 3, type := 3, pos := "world.go:121", after := #[{ on := 0, ground := Go.Ground.data }], guard := none }) rfl (fun K hK => ?_) ?_
    · skip
      have HK := Lib.hid hK
      clear hK
      go_simp
      refine HK.out _ _ ?_
      clear HK
      try simp only [Act.put, List.setIfInBounds_toArray, List.set_cons_zero, List.set_cons_succ]
      refine wpAnyIn_ready (rs := [2, 4]) (by kernel_rfl) (by simp) ?_
      refine AllReadyIn.cons (o := { dst := some 22, op := Go.Op.load 3 (Go.Operand.tmp 5), type := 3, pos := "world.go:121", after := #[], guard := none }) rfl (fun K hK => ?_) ?_
      · skip
        have HK := Lib.hid hK
        clear hK
        go_simp
        refine HK.out _ _ ?_
        clear HK
        try simp only [Act.put, List.setIfInBounds_toArray, List.set_cons_zero, List.set_cons_succ]
        refine wpAnyIn_ready (rs := [3, 4]) (by kernel_rfl) (by simp) ?_
        refine AllReadyIn.cons (o := { dst := some 23, op := Go.Op.binOp Go.BinOp.add 3 (Go.Operand.tmp 22) (Go.Operand.const (Go.Value.int Go.IntKind.i64 1)) 3, type := 3, pos := "world.go:121", after := #[{ on := 2, ground := Go.Ground.data }], guard := none }) rfl (fun K hK => ?_) ?_
        · skip
          have HK := Lib.hid hK
          clear hK
          go_simp
          refine HK.out _ _ ?_
          clear HK
          try simp only [Act.put, List.setIfInBounds_toArray, List.set_cons_zero, List.set_cons_succ]
          refine wpAnyIn_ready (rs := [4]) (by kernel_rfl) (by simp) ?_
          refine AllReadyIn.cons (o := { dst := none, op := Go.Op.store 3 (Go.Operand.tmp 4) (Go.Operand.tmp 21), type := 0, pos := "world.go:121", after := #[{ on := 1, ground := Go.Ground.data }, { on := 0, ground := Go.Ground.phase }, { on := 1, ground := Go.Ground.phase }, { on := 2, ground := Go.Ground.textOnly Go.Departure.inlinedCapture }, { on := 3, ground := Go.Ground.textOnly Go.Departure.inlinedCapture }], guard := none }) rfl (fun K hK => ?_) AllReadyIn.nil
          have HK := Lib.hid hK
          clear hK
          go_simp
          refine HK.out _ _ ?_
          clear HK
          try simp only [Act.put, List.setIfInBounds_toArray, List.set_cons_zero, List.set_cons_succ]
          refine wpAnyIn_ready (rs := [5]) (by kernel_rfl) (by simp) ?_
          refine AllReadyIn.cons (o := { dst := none, op := Go.Op.store 3 (Go.Operand.tmp 5) (Go.Operand.tmp 23), type := 0, pos := "world.go:121", after := #[{ on := 3, ground := Go.Ground.data }, { on := 4, ground := Go.Ground.chain }, { on := 0, ground := Go.Ground.phase }, { on := 1, ground := Go.Ground.phase }, { on := 2, ground := Go.Ground.phase }, { on := 3, ground := Go.Ground.phase }, { on := 4, ground := Go.Ground.phase }], guard := none }) rfl (fun K hK => ?_) AllReadyIn.nil
          have HK := Lib.hid hK
          clear hK
          go_simp
          refine HK.out _ _ ?_
          clear HK
          try simp only [Act.put, List.setIfInBounds_toArray, List.set_cons_zero, List.set_cons_succ]
          refine wpAnyIn_done (by kernel_rfl) ?_ _
          exact HF.out
        refine AllReadyIn.cons (o := { dst := none, op := Go.Op.store 3 (Go.Operand.tmp 4) (Go.Operand.tmp 21), type := 0, pos := "world.go:121", after := #[{ on := 1, ground := Go.Ground.data }, { on := 0, ground := Go.Ground.phase }, { on := 1, ground := Go.Ground.phase }, { on := 2, ground := Go.Ground.textOnly Go.Departure.inlinedCapture }, { on := 3, ground := Go.Ground.textOnly Go.Departure.inlinedCapture }], guard := none }) rfl (fun K hK => ?_) AllReadyIn.nil
        have HK := Lib.hid hK
        clear hK
        go_simp
        refine HK.out _ _ ?_
        clear HK
        try simp only [Act.put, List.setIfInBounds_toArray, List.set_cons_zero, List.set_cons_succ]
        refine wpAnyIn_ready (rs := [3]) (by kernel_rfl) (by simp) ?_
        refine AllReadyIn.cons (o := { dst := some 23, op := Go.Op.binOp Go.BinOp.add 3 (Go.Operand.tmp 22) (Go.Operand.const (Go.Value.int Go.IntKind.i64 1)) 3, type := 3, pos := "world.go:121", after := #[{ on := 2, ground := Go.Ground.data }], guard := none }) rfl (fun K hK => ?_) AllReadyIn.nil
        have HK := Lib.hid hK
        clear hK
        go_simp
        refine HK.out _ _ ?_
        clear HK
        try simp only [Act.put, List.setIfInBounds_toArray, List.set_cons_zero, List.set_cons_succ]
        refine wpAnyIn_ready (rs := [5]) (by kernel_rfl) (by simp) ?_
        refine AllReadyIn.cons (o := { dst := none, op := Go.Op.store 3 (Go.Operand.tmp 5) (Go.Operand.tmp 23), type := 0, pos := "world.go:121", after := #[{ on := 3, ground := Go.Ground.data }, { on := 4, ground := Go.Ground.chain }, { on := 0, ground := Go.Ground.phase }, { on := 1, ground := Go.Ground.phase }, { on := 2, ground := Go.Ground.phase }, { on := 3, ground := Go.Ground.phase }, { on := 4, ground := Go.Ground.phase }], guard := none }) rfl (fun K hK => ?_) AllReadyIn.nil
        have HK := Lib.hid hK
        clear hK
        go_simp
        refine HK.out _ _ ?_
        clear HK
        try simp only [Act.put, List.setIfInBounds_toArray, List.set_cons_zero, List.set_cons_succ]
        refine wpAnyIn_done (by kernel_rfl) ?_ _
        exact HF.out
      refine AllReadyIn.cons (o := { dst := none, op := Go.Op.store 3 (Go.Operand.tmp 4) (Go.Operand.tmp 21), type := 0, pos := "world.go:121", after := #[{ on := 1, ground := Go.Ground.data }, { on := 0, ground := Go.Ground.phase }, { on := 1, ground := Go.Ground.phase }, { on := 2, ground := Go.Ground.textOnly Go.Departure.inlinedCapture }, { on := 3, ground := Go.Ground.textOnly Go.Departure.inlinedCapture }], guard := none }) rfl (fun K hK => ?_) AllReadyIn.nil
      have HK := Lib.hid hK
      clear hK
      go_simp
      refine HK.out _ _ ?_
      clear HK
      try simp only [Act.put, List.setIfInBounds_toArray, List.set_cons_zero, List.set_cons_succ]
      refine wpAnyIn_ready (rs := [2]) (by kernel_rfl) (by simp) ?_
      refine AllReadyIn.cons (o := { dst := some 22, op := Go.Op.load 3 (Go.Operand.tmp 5), type := 3, pos := "world.go:121", after := #[], guard := none }) rfl (fun K hK => ?_) AllReadyIn.nil
      have HK := Lib.hid hK
      clear hK
      go_simp
      refine HK.out _ _ ?_
      clear HK
      try simp only [Act.put, List.setIfInBounds_toArray, List.set_cons_zero, List.set_cons_succ]
      refine wpAnyIn_ready (rs := [3]) (by kernel_rfl) (by simp) ?_
      refine AllReadyIn.cons (o := { dst := some 23, op := Go.Op.binOp Go.BinOp.add 3 (Go.Operand.tmp 22) (Go.Operand.const (Go.Value.int Go.IntKind.i64 1)) 3, type := 3, pos := "world.go:121", after := #[{ on := 2, ground := Go.Ground.data }], guard := none }) rfl (fun K hK => ?_) AllReadyIn.nil
      have HK := Lib.hid hK
      clear hK
      go_simp
      refine HK.out _ _ ?_
      clear HK
      try simp only [Act.put, List.setIfInBounds_toArray, List.set_cons_zero, List.set_cons_succ]
      refine wpAnyIn_ready (rs := [5]) (by kernel_rfl) (by simp) ?_
      refine AllReadyIn.cons (o := { dst := none, op := Go.Op.store 3 (Go.Operand.tmp 5) (Go.Operand.tmp 23), type := 0, pos := "world.go:121", after := #[{ on := 3, ground := Go.Ground.data }, { on := 4, ground := Go.Ground.chain }, { on := 0, ground := Go.Ground.phase }, { on := 1, ground := Go.Ground.phase }, { on := 2, ground := Go.Ground.phase }, { on := 3, ground := Go.Ground.phase }, { on := 4, ground := Go.Ground.phase }], guard := none }) rfl (fun K hK => ?_) AllReadyIn.nil
      have HK := Lib.hid hK
      clear hK
      go_simp
      refine HK.out _ _ ?_
      clear HK
      try simp only [Act.put, List.setIfInBounds_toArray, List.set_cons_zero, List.set_cons_succ]
      refine wpAnyIn_done (by kernel_rfl) ?_ _
      exact HF.out
    refine AllReadyIn.cons (o := { dst := some 22, op := Go.Op.load 3 (Go.Operand.tmp 5), type := 3, pos := "world.go:121", after := #[], guard := none }) rfl (fun K hK => ?_) AllReadyIn.nil
    have HK := Lib.hid hK
    clear hK
    go_simp
    refine HK.out _ _ ?_
    clear HK
    try simp only [Act.put, List.setIfInBounds_toArray, List.set_cons_zero, List.set_cons_succ]
    refine wpAnyIn_ready (rs := [1, 3]) (by kernel_rfl) (by simp) ?_
    refine AllReadyIn.cons (o := { dst := some 21, op := Go.Op.binOp Go.BinOp.add 3 (Go.Operand.tmp 20) (Go.Operand.const (Go.Value.int Go.IntKind.i64 1)) 3, type := 3, pos := "world.go:121", after := #[{ on := 0, ground := Go.Ground.data }], guard := none }) rfl (fun K hK => ?_) ?_
    · skip
      have HK := Lib.hid hK
      clear hK
      go_simp
      refine HK.out _ _ ?_
      clear HK
      try simp only [Act.put, List.setIfInBounds_toArray, List.set_cons_zero, List.set_cons_succ]
      refine wpAnyIn_ready (rs := [3, 4]) (by kernel_rfl) (by simp) ?_
      refine AllReadyIn.cons (o := { dst := some 23, op := Go.Op.binOp Go.BinOp.add 3 (Go.Operand.tmp 22) (Go.Operand.const (Go.Value.int Go.IntKind.i64 1)) 3, type := 3, pos := "world.go:121", after := #[{ on := 2, ground := Go.Ground.data }], guard := none }) rfl (fun K hK => ?_) ?_
      · skip
        have HK := Lib.hid hK
        clear hK
        go_simp
        refine HK.out _ _ ?_
        clear HK
        try simp only [Act.put, List.setIfInBounds_toArray, List.set_cons_zero, List.set_cons_succ]
        refine wpAnyIn_ready (rs := [4]) (by kernel_rfl) (by simp) ?_
        refine AllReadyIn.cons (o := { dst := none, op := Go.Op.store 3 (Go.Operand.tmp 4) (Go.Operand.tmp 21), type := 0, pos := "world.go:121", after := #[{ on := 1, ground := Go.Ground.data }, { on := 0, ground := Go.Ground.phase }, { on := 1, ground := Go.Ground.phase }, { on := 2, ground := Go.Ground.textOnly Go.Departure.inlinedCapture }, { on := 3, ground := Go.Ground.textOnly Go.Departure.inlinedCapture }], guard := none }) rfl (fun K hK => ?_) AllReadyIn.nil
        have HK := Lib.hid hK
        clear hK
        go_simp
        refine HK.out _ _ ?_
        clear HK
        try simp only [Act.put, List.setIfInBounds_toArray, List.set_cons_zero, List.set_cons_succ]
        refine wpAnyIn_ready (rs := [5]) (by kernel_rfl) (by simp) ?_
        refine AllReadyIn.cons (o := { dst := none, op := Go.Op.store 3 (Go.Operand.tmp 5) (Go.Operand.tmp 23), type := 0, pos := "world.go:121", after := #[{ on := 3, ground := Go.Ground.data }, { on := 4, ground := Go.Ground.chain }, { on := 0, ground := Go.Ground.phase }, { on := 1, ground := Go.Ground.phase }, { on := 2, ground := Go.Ground.phase }, { on := 3, ground := Go.Ground.phase }, { on := 4, ground := Go.Ground.phase }], guard := none }) rfl (fun K hK => ?_) AllReadyIn.nil
        have HK := Lib.hid hK
        clear hK
        go_simp
        refine HK.out _ _ ?_
        clear HK
        try simp only [Act.put, List.setIfInBounds_toArray, List.set_cons_zero, List.set_cons_succ]
        refine wpAnyIn_done (by kernel_rfl) ?_ _
        exact HF.out
      refine AllReadyIn.cons (o := { dst := none, op := Go.Op.store 3 (Go.Operand.tmp 4) (Go.Operand.tmp 21), type := 0, pos := "world.go:121", after := #[{ on := 1, ground := Go.Ground.data }, { on := 0, ground := Go.Ground.phase }, { on := 1, ground := Go.Ground.phase }, { on := 2, ground := Go.Ground.textOnly Go.Departure.inlinedCapture }, { on := 3, ground := Go.Ground.textOnly Go.Departure.inlinedCapture }], guard := none }) rfl (fun K hK => ?_) AllReadyIn.nil
      have HK := Lib.hid hK
      clear hK
      go_simp
      refine HK.out _ _ ?_
      clear HK
      try simp only [Act.put, List.setIfInBounds_toArray, List.set_cons_zero, List.set_cons_succ]
      refine wpAnyIn_ready (rs := [3]) (by kernel_rfl) (by simp) ?_
      refine AllReadyIn.cons (o := { dst := some 23, op := Go.Op.binOp Go.BinOp.add 3 (Go.Operand.tmp 22) (Go.Operand.const (Go.Value.int Go.IntKind.i64 1)) 3, type := 3, pos := "world.go:121", after := #[{ on := 2, ground := Go.Ground.data }], guard := none }) rfl (fun K hK => ?_) AllReadyIn.nil
      have HK := Lib.hid hK
      clear hK
      go_simp
      refine HK.out _ _ ?_
      clear HK
      try simp only [Act.put, List.setIfInBounds_toArray, List.set_cons_zero, List.set_cons_succ]
      refine wpAnyIn_ready (rs := [5]) (by kernel_rfl) (by simp) ?_
      refine AllReadyIn.cons (o := { dst := none, op := Go.Op.store 3 (Go.Operand.tmp 5) (Go.Operand.tmp 23), type := 0, pos := "world.go:121", after := #[{ on := 3, ground := Go.Ground.data }, { on := 4, ground := Go.Ground.chain }, { on := 0, ground := Go.Ground.phase }, { on := 1, ground := Go.Ground.phase }, { on := 2, ground := Go.Ground.phase }, { on := 3, ground := Go.Ground.phase }, { on := 4, ground := Go.Ground.phase }], guard := none }) rfl (fun K hK => ?_) AllReadyIn.nil
      have HK := Lib.hid hK
      clear hK
      go_simp
      refine HK.out _ _ ?_
      clear HK
      try simp only [Act.put, List.setIfInBounds_toArray, List.set_cons_zero, List.set_cons_succ]
      refine wpAnyIn_done (by kernel_rfl) ?_ _
      exact HF.out
    refine AllReadyIn.cons (o := { dst := some 23, op := Go.Op.binOp Go.BinOp.add 3 (Go.Operand.tmp 22) (Go.Operand.const (Go.Value.int Go.IntKind.i64 1)) 3, type := 3, pos := "world.go:121", after := #[{ on := 2, ground := Go.Ground.data }], guard := none }) rfl (fun K hK => ?_) AllReadyIn.nil
    have HK := Lib.hid hK
    clear hK
    go_simp
    refine HK.out _ _ ?_
    clear HK
    try simp only [Act.put, List.setIfInBounds_toArray, List.set_cons_zero, List.set_cons_succ]
    refine wpAnyIn_ready (rs := [1]) (by kernel_rfl) (by simp) ?_
    refine AllReadyIn.cons (o := { dst := some 21, op := Go.Op.binOp Go.BinOp.add 3 (Go.Operand.tmp 20) (Go.Operand.const (Go.Value.int Go.IntKind.i64 1)) 3, type := 3, pos := "world.go:121", after := #[{ on := 0, ground := Go.Ground.data }], guard := none }) rfl (fun K hK => ?_) AllReadyIn.nil
    have HK := Lib.hid hK
    clear hK
    go_simp
    refine HK.out _ _ ?_
    clear HK
    try simp only [Act.put, List.setIfInBounds_toArray, List.set_cons_zero, List.set_cons_succ]
    refine wpAnyIn_ready (rs := [4]) (by kernel_rfl) (by simp) ?_
    refine AllReadyIn.cons (o := { dst := none, op := Go.Op.store 3 (Go.Operand.tmp 4) (Go.Operand.tmp 21), type := 0, pos := "world.go:121", after := #[{ on := 1, ground := Go.Ground.data }, { on := 0, ground := Go.Ground.phase }, { on := 1, ground := Go.Ground.phase }, { on := 2, ground := Go.Ground.textOnly Go.Departure.inlinedCapture }, { on := 3, ground := Go.Ground.textOnly Go.Departure.inlinedCapture }], guard := none }) rfl (fun K hK => ?_) AllReadyIn.nil
    have HK := Lib.hid hK
    clear hK
    go_simp
    refine HK.out _ _ ?_
    clear HK
    try simp only [Act.put, List.setIfInBounds_toArray, List.set_cons_zero, List.set_cons_succ]
    refine wpAnyIn_ready (rs := [5]) (by kernel_rfl) (by simp) ?_
    refine AllReadyIn.cons (o := { dst := none, op := Go.Op.store 3 (Go.Operand.tmp 5) (Go.Operand.tmp 23), type := 0, pos := "world.go:121", after := #[{ on := 3, ground := Go.Ground.data }, { on := 4, ground := Go.Ground.chain }, { on := 0, ground := Go.Ground.phase }, { on := 1, ground := Go.Ground.phase }, { on := 2, ground := Go.Ground.phase }, { on := 3, ground := Go.Ground.phase }, { on := 4, ground := Go.Ground.phase }], guard := none }) rfl (fun K hK => ?_) AllReadyIn.nil
    have HK := Lib.hid hK
    clear hK
    go_simp
    refine HK.out _ _ ?_
    clear HK
    try simp only [Act.put, List.setIfInBounds_toArray, List.set_cons_zero, List.set_cons_succ]
    refine wpAnyIn_done (by kernel_rfl) ?_ _
    exact HF.out
  refine AllReadyIn.cons (o := { dst := some 22, op := Go.Op.load 3 (Go.Operand.tmp 5), type := 3, pos := "world.go:121", after := #[], guard := none }) rfl (fun K hK => ?_) AllReadyIn.nil
  have HK := Lib.hid hK
  clear hK
  go_simp
  refine HK.out _ _ ?_
  clear HK
  try simp only [Act.put, List.setIfInBounds_toArray, List.set_cons_zero, List.set_cons_succ]
  refine wpAnyIn_ready (rs := [0, 3]) (by kernel_rfl) (by simp) ?_
  refine AllReadyIn.cons (o := { dst := some 20, op := Go.Op.load 3 (Go.Operand.tmp 4), type := 3, pos := "world.go:121", after := #[], guard := none }) rfl (fun K hK => ?_) ?_
  · skip
    have HK := Lib.hid hK
    clear hK
    go_simp
    refine HK.out _ _ ?_
    clear HK
    try simp only [Act.put, List.setIfInBounds_toArray, List.set_cons_zero, List.set_cons_succ]
    refine wpAnyIn_ready (rs := [1, 3]) (by kernel_rfl) (by simp) ?_
    refine AllReadyIn.cons (o := { dst := some 21, op := Go.Op.binOp Go.BinOp.add 3 (Go.Operand.tmp 20) (Go.Operand.const (Go.Value.int Go.IntKind.i64 1)) 3, type := 3, pos := "world.go:121", after := #[{ on := 0, ground := Go.Ground.data }], guard := none }) rfl (fun K hK => ?_) ?_
    · skip
      have HK := Lib.hid hK
      clear hK
      go_simp
      refine HK.out _ _ ?_
      clear HK
      try simp only [Act.put, List.setIfInBounds_toArray, List.set_cons_zero, List.set_cons_succ]
      refine wpAnyIn_ready (rs := [3, 4]) (by kernel_rfl) (by simp) ?_
      refine AllReadyIn.cons (o := { dst := some 23, op := Go.Op.binOp Go.BinOp.add 3 (Go.Operand.tmp 22) (Go.Operand.const (Go.Value.int Go.IntKind.i64 1)) 3, type := 3, pos := "world.go:121", after := #[{ on := 2, ground := Go.Ground.data }], guard := none }) rfl (fun K hK => ?_) ?_
      · skip
        have HK := Lib.hid hK
        clear hK
        go_simp
        refine HK.out _ _ ?_
        clear HK
        try simp only [Act.put, List.setIfInBounds_toArray, List.set_cons_zero, List.set_cons_succ]
        refine wpAnyIn_ready (rs := [4]) (by kernel_rfl) (by simp) ?_
        refine AllReadyIn.cons (o := { dst := none, op := Go.Op.store 3 (Go.Operand.tmp 4) (Go.Operand.tmp 21), type := 0, pos := "world.go:121", after := #[{ on := 1, ground := Go.Ground.data }, { on := 0, ground := Go.Ground.phase }, { on := 1, ground := Go.Ground.phase }, { on := 2, ground := Go.Ground.textOnly Go.Departure.inlinedCapture }, { on := 3, ground := Go.Ground.textOnly Go.Departure.inlinedCapture }], guard := none }) rfl (fun K hK => ?_) AllReadyIn.nil
        have HK := Lib.hid hK
        clear hK
        go_simp
        refine HK.out _ _ ?_
        clear HK
        try simp only [Act.put, List.setIfInBounds_toArray, List.set_cons_zero, List.set_cons_succ]
        refine wpAnyIn_ready (rs := [5]) (by kernel_rfl) (by simp) ?_
        refine AllReadyIn.cons (o := { dst := none, op := Go.Op.store 3 (Go.Operand.tmp 5) (Go.Operand.tmp 23), type := 0, pos := "world.go:121", after := #[{ on := 3, ground := Go.Ground.data }, { on := 4, ground := Go.Ground.chain }, { on := 0, ground := Go.Ground.phase }, { on := 1, ground := Go.Ground.phase }, { on := 2, ground := Go.Ground.phase }, { on := 3, ground := Go.Ground.phase }, { on := 4, ground := Go.Ground.phase }], guard := none }) rfl (fun K hK => ?_) AllReadyIn.nil
        have HK := Lib.hid hK
        clear hK
        go_simp
        refine HK.out _ _ ?_
        clear HK
        try simp only [Act.put, List.setIfInBounds_toArray, List.set_cons_zero, List.set_cons_succ]
        refine wpAnyIn_done (by kernel_rfl) ?_ _
        exact HF.out
      refine AllReadyIn.cons (o := { dst := none, op := Go.Op.store 3 (Go.Operand.tmp 4) (Go.Operand.tmp 21), type := 0, pos := "world.go:121", after := #[{ on := 1, ground := Go.Ground.data }, { on := 0, ground := Go.Ground.phase }, { on := 1, ground := Go.Ground.phase }, { on := 2, ground := Go.Ground.textOnly Go.Departure.inlinedCapture }, { on := 3, ground := Go.Ground.textOnly Go.Departure.inlinedCapture }], guard := none }) rfl (fun K hK => ?_) AllReadyIn.nil
      have HK := Lib.hid hK
      clear hK
      go_simp
      refine HK.out _ _ ?_
      clear HK
      try simp only [Act.put, List.setIfInBounds_toArray, List.set_cons_zero, List.set_cons_succ]
      refine wpAnyIn_ready (rs := [3]) (by kernel_rfl) (by simp) ?_
      refine AllReadyIn.cons (o := { dst := some 23, op := Go.Op.binOp Go.BinOp.add 3 (Go.Operand.tmp 22) (Go.Operand.const (Go.Value.int Go.IntKind.i64 1)) 3, type := 3, pos := "world.go:121", after := #[{ on := 2, ground := Go.Ground.data }], guard := none }) rfl (fun K hK => ?_) AllReadyIn.nil
      have HK := Lib.hid hK
      clear hK
      go_simp
      refine HK.out _ _ ?_
      clear HK
      try simp only [Act.put, List.setIfInBounds_toArray, List.set_cons_zero, List.set_cons_succ]
      refine wpAnyIn_ready (rs := [5]) (by kernel_rfl) (by simp) ?_
      refine AllReadyIn.cons (o := { dst := none, op := Go.Op.store 3 (Go.Operand.tmp 5) (Go.Operand.tmp 23), type := 0, pos := "world.go:121", after := #[{ on := 3, ground := Go.Ground.data }, { on := 4, ground := Go.Ground.chain }, { on := 0, ground := Go.Ground.phase }, { on := 1, ground := Go.Ground.phase }, { on := 2, ground := Go.Ground.phase }, { on := 3, ground := Go.Ground.phase }, { on := 4, ground := Go.Ground.phase }], guard := none }) rfl (fun K hK => ?_) AllReadyIn.nil
      have HK := Lib.hid hK
      clear hK
      go_simp
      refine HK.out _ _ ?_
      clear HK
      try simp only [Act.put, List.setIfInBounds_toArray, List.set_cons_zero, List.set_cons_succ]
      refine wpAnyIn_done (by kernel_rfl) ?_ _
      exact HF.out
    refine AllReadyIn.cons (o := { dst := some 23, op := Go.Op.binOp Go.BinOp.add 3 (Go.Operand.tmp 22) (Go.Operand.const (Go.Value.int Go.IntKind.i64 1)) 3, type := 3, pos := "world.go:121", after := #[{ on := 2, ground := Go.Ground.data }], guard := none }) rfl (fun K hK => ?_) AllReadyIn.nil
    have HK := Lib.hid hK
    clear hK
    go_simp
    refine HK.out _ _ ?_
    clear HK
    try simp only [Act.put, List.setIfInBounds_toArray, List.set_cons_zero, List.set_cons_succ]
    refine wpAnyIn_ready (rs := [1]) (by kernel_rfl) (by simp) ?_
    refine AllReadyIn.cons (o := { dst := some 21, op := Go.Op.binOp Go.BinOp.add 3 (Go.Operand.tmp 20) (Go.Operand.const (Go.Value.int Go.IntKind.i64 1)) 3, type := 3, pos := "world.go:121", after := #[{ on := 0, ground := Go.Ground.data }], guard := none }) rfl (fun K hK => ?_) AllReadyIn.nil
    have HK := Lib.hid hK
    clear hK
    go_simp
    refine HK.out _ _ ?_
    clear HK
    try simp only [Act.put, List.setIfInBounds_toArray, List.set_cons_zero, List.set_cons_succ]
    refine wpAnyIn_ready (rs := [4]) (by kernel_rfl) (by simp) ?_
    refine AllReadyIn.cons (o := { dst := none, op := Go.Op.store 3 (Go.Operand.tmp 4) (Go.Operand.tmp 21), type := 0, pos := "world.go:121", after := #[{ on := 1, ground := Go.Ground.data }, { on := 0, ground := Go.Ground.phase }, { on := 1, ground := Go.Ground.phase }, { on := 2, ground := Go.Ground.textOnly Go.Departure.inlinedCapture }, { on := 3, ground := Go.Ground.textOnly Go.Departure.inlinedCapture }], guard := none }) rfl (fun K hK => ?_) AllReadyIn.nil
    have HK := Lib.hid hK
    clear hK
    go_simp
    refine HK.out _ _ ?_
    clear HK
    try simp only [Act.put, List.setIfInBounds_toArray, List.set_cons_zero, List.set_cons_succ]
    refine wpAnyIn_ready (rs := [5]) (by kernel_rfl) (by simp) ?_
    refine AllReadyIn.cons (o := { dst := none, op := Go.Op.store 3 (Go.Operand.tmp 5) (Go.Operand.tmp 23), type := 0, pos := "world.go:121", after := #[{ on := 3, ground := Go.Ground.data }, { on := 4, ground := Go.Ground.chain }, { on := 0, ground := Go.Ground.phase }, { on := 1, ground := Go.Ground.phase }, { on := 2, ground := Go.Ground.phase }, { on := 3, ground := Go.Ground.phase }, { on := 4, ground := Go.Ground.phase }], guard := none }) rfl (fun K hK => ?_) AllReadyIn.nil
    have HK := Lib.hid hK
    clear hK
    go_simp
    refine HK.out _ _ ?_
    clear HK
    try simp only [Act.put, List.setIfInBounds_toArray, List.set_cons_zero, List.set_cons_succ]
    refine wpAnyIn_done (by kernel_rfl) ?_ _
    exact HF.out
  refine AllReadyIn.cons (o := { dst := some 23, op := Go.Op.binOp Go.BinOp.add 3 (Go.Operand.tmp 22) (Go.Operand.const (Go.Value.int Go.IntKind.i64 1)) 3, type := 3, pos := "world.go:121", after := #[{ on := 2, ground := Go.Ground.data }], guard := none }) rfl (fun K hK => ?_) AllReadyIn.nil
  have HK := Lib.hid hK
  clear hK
  go_simp
  refine HK.out _ _ ?_
  clear HK
  try simp only [Act.put, List.setIfInBounds_toArray, List.set_cons_zero, List.set_cons_succ]
  refine wpAnyIn_ready (rs := [0]) (by kernel_rfl) (by simp) ?_
  refine AllReadyIn.cons (o := { dst := some 20, op := Go.Op.load 3 (Go.Operand.tmp 4), type := 3, pos := "world.go:121", after := #[], guard := none }) rfl (fun K hK => ?_) AllReadyIn.nil
  have HK := Lib.hid hK
  clear hK
  go_simp
  refine HK.out _ _ ?_
  clear HK
  try simp only [Act.put, List.setIfInBounds_toArray, List.set_cons_zero, List.set_cons_succ]
  refine wpAnyIn_ready (rs := [1]) (by kernel_rfl) (by simp) ?_
  refine AllReadyIn.cons (o := { dst := some 21, op := Go.Op.binOp Go.BinOp.add 3 (Go.Operand.tmp 20) (Go.Operand.const (Go.Value.int Go.IntKind.i64 1)) 3, type := 3, pos := "world.go:121", after := #[{ on := 0, ground := Go.Ground.data }], guard := none }) rfl (fun K hK => ?_) AllReadyIn.nil
  have HK := Lib.hid hK
  clear hK
  go_simp
  refine HK.out _ _ ?_
  clear HK
  try simp only [Act.put, List.setIfInBounds_toArray, List.set_cons_zero, List.set_cons_succ]
  refine wpAnyIn_ready (rs := [4]) (by kernel_rfl) (by simp) ?_
  refine AllReadyIn.cons (o := { dst := none, op := Go.Op.store 3 (Go.Operand.tmp 4) (Go.Operand.tmp 21), type := 0, pos := "world.go:121", after := #[{ on := 1, ground := Go.Ground.data }, { on := 0, ground := Go.Ground.phase }, { on := 1, ground := Go.Ground.phase }, { on := 2, ground := Go.Ground.textOnly Go.Departure.inlinedCapture }, { on := 3, ground := Go.Ground.textOnly Go.Departure.inlinedCapture }], guard := none }) rfl (fun K hK => ?_) AllReadyIn.nil
  have HK := Lib.hid hK
  clear hK
  go_simp
  refine HK.out _ _ ?_
  clear HK
  try simp only [Act.put, List.setIfInBounds_toArray, List.set_cons_zero, List.set_cons_succ]
  refine wpAnyIn_ready (rs := [5]) (by kernel_rfl) (by simp) ?_
  refine AllReadyIn.cons (o := { dst := none, op := Go.Op.store 3 (Go.Operand.tmp 5) (Go.Operand.tmp 23), type := 0, pos := "world.go:121", after := #[{ on := 3, ground := Go.Ground.data }, { on := 4, ground := Go.Ground.chain }, { on := 0, ground := Go.Ground.phase }, { on := 1, ground := Go.Ground.phase }, { on := 2, ground := Go.Ground.phase }, { on := 3, ground := Go.Ground.phase }, { on := 4, ground := Go.Ground.phase }], guard := none }) rfl (fun K hK => ?_) AllReadyIn.nil
  have HK := Lib.hid hK
  clear hK
  go_simp
  refine HK.out _ _ ?_
  clear HK
  try simp only [Act.put, List.setIfInBounds_toArray, List.set_cons_zero, List.set_cons_succ]
  refine wpAnyIn_done (by kernel_rfl) ?_ _
  exact HF.out

/-- A place is told. -/
def WplP (s t : Nat) (w : World) (e : Ending) (w' : World) : Prop := e = .returned (.tuple #[.int .i64 (s : Int), .int .i64 (t : Int)]) ∧ Below w.heap.size w w'
/-- A chart in a block. -/
structure ChAt (W : World) (B : Nat) (ao : Option Addr) (len cap : Nat) (a : Lab) : Prop where
  c0 : W.cell? ⟨B, 0, none⟩ = some (.slice ao len cap)
  c1 : W.cell? ⟨B, 1, none⟩ = some (.int .i64 a.l)
  c2 : W.cell? ⟨B, 2, none⟩ = some (.int .u64 a.c)
  c3 : W.cell? ⟨B, 3, none⟩ = some (.int .i64 a.i)
theorem ChAt.new (W : World) (ao : Option Addr) (len cap : Nat) (a : Lab) (t : TypeId) : ChAt (W.alloc (.cells #[.slice ao len cap, .int .i64 a.l, .int .u64 a.c, .int .i64 a.i] t)) W.heap.size ao len cap a := ⟨by simp, by simp, by simp, by simp⟩
theorem ChAt.lt {W : World} {B : Nat} {ao : Option Addr} {len cap : Nat} {a : Lab} (h : ChAt W B ao len cap a) : B < W.heap.size := World.block_lt_of_cell? W _ h.c0
theorem ChAt.eq {A W : World} {B : Nat} {ao : Option Addr} {len cap : Nat} {a : Lab} (h : ChAt A B ao len cap a) (e : W.heap[B]? = A.heap[B]?) : ChAt W B ao len cap a :=
  ⟨(World.cell?_of_block (a := ⟨B, 0, none⟩) e).trans h.c0, (World.cell?_of_block (a := ⟨B, 1, none⟩) e).trans h.c1, (World.cell?_of_block (a := ⟨B, 2, none⟩) e).trans h.c2, (World.cell?_of_block (a := ⟨B, 3, none⟩) e).trans h.c3⟩
theorem ChAt.more {A W : World} {B : Nat} {ao : Option Addr} {len cap : Nat} {a : Lab} (h : ChAt A B ao len cap a) (k : Below A.heap.size A W) : ChAt W B ao len cap a := h.eq (k.block _ h.lt)
theorem ChAt.keep {A W : World} {row : Option Nat} {B : Nat} {ao : Option Addr} {len cap : Nat} {a : Lab} (h : ChAt A B ao len cap a) (hg : A.grownBy W row) (hr : ∀ r, row = some r → ∃ o : Obj, A.heap[r]? = some o ∧ o.isCells = false) : ChAt W B ao len cap a := h.eq (KC.grown hg hr _ _ _ h.c0)
/-- place between two rounds. -/
def PlI (ao : Option Addr) (len cap : Nat) (a : Lab) (w : World) (pre : List Pv) (W : World) : Prop := (Boxed W (w.heap.size + 1) 3 (.int .i64 (pre.length : Int)) ∧ Boxed W (w.heap.size + 1 + 1) 3 (.int .i64 (pre.length : Int)) ∧ ChAt W w.heap.size ao len cap a ∧ (∀ y ∈ pre, y.a.ahead a = true) ∧ w.heap.size + 4 ≤ W.heap.size) ∧ Below w.heap.size w W
/-- .. when a round has left. -/
def PlX (a : Lab) (w : World) (c : Code) (pre : List Pv) (W : World) : Prop := (c = .exit 0 ∧ ∃ q x, pre = q ++ [x] ∧ (∀ y ∈ q, y.a.ahead a = true) ∧ x.a.ahead a = false ∧ Boxed W (w.heap.size + 1) 3 (.int .i64 (q.length : Int)) ∧ Boxed W (w.heap.size + 1 + 1) 3 (.int .i64 ((q.length + (if x.a.same a then 1 else 0) : Nat) : Int))) ∧ Below w.heap.size w W
theorem PlI.own {ao : Option Addr} {len cap : Nat} {a : Lab} {w : World} {n0 : Nat} (hn : w.heap.size ≤ n0) : OwnFrom n0 (PlI ao len cap a w) := by
  rintro pre A W row ⟨⟨b0, b1, b2, hp, hz⟩, hb⟩ hg hr
  have hb2 := ownFrom_below (β := List Pv) (n₀ := w.heap.size) (w₀ := w) (Nat.le_refl _) hn pre A W row hb hg hr
  exact ⟨⟨boxed_keep b0 hg (fun r e => (hr r e).2), boxed_keep b1 hg (fun r e => (hr r e).2), b2.keep hg (fun r e => (hr r e).2), hp, Nat.le_trans hz hg.size⟩, hb2⟩
theorem PlX.own {a : Lab} {w : World} {n0 : Nat} (hn : w.heap.size ≤ n0) (c : Code) : OwnFrom n0 (PlX a w c) := by
  rintro pre A W row ⟨⟨hc, q, x, hx, hq, hpx, b0, b1⟩, hb⟩ hg hr
  have hb2 := ownFrom_below (β := List Pv) (n₀ := w.heap.size) (w₀ := w) (Nat.le_refl _) hn pre A W row hb hg hr
  exact ⟨⟨hc, q, x, hx, hq, hpx, boxed_keep b0 hg (fun r e => (hr r e).2), boxed_keep b1 hg (fun r e => (hr r e).2)⟩, hb2⟩
theorem place_end {a : Lab} {zs : List Pv} (h : ∀ y ∈ zs, y.a.ahead a = true) : befW (pts zs) a = zs.length ∧ endW (pts zs) a = zs.length := by
  have := bef_all (l := pts zs) (a := a) (fun y hy => by
    obtain ⟨x, hx, rfl⟩ := pts_mem hy
    exact h x hx)
  rwa [pts_length] at this
theorem place_hit {a : Lab} {zs q : List Pv} {x : Pv} (h : ∀ y ∈ q, y.a.ahead a = true) (hx : x.a.ahead a = false) (hp : q ++ [x] <+: zs) : befW (pts zs) a = q.length ∧ endW (pts zs) a = q.length + (if x.a.same a then 1 else 0) := by
  obtain ⟨t, rfl⟩ := hp
  have := bef_at (l := pts (q ++ [x] ++ t)) (p := pts q) (x := pt x) (a := a) (fun y hy => by
    obtain ⟨z, hz, rfl⟩ := pts_mem hy
    exact h z hz) hx ⟨pts t, by simp [pts]⟩
  rwa [pts_length] at this

set_option maxRecDepth 100000 in
set_option maxHeartbeats 4000000 in
theorem place_in (n : Nat) (hn : 3 ≤ n) (a : Lab) (ao : Option Addr) (len cap : Nat) (zs : List Pv) (hreach : len ≤ 1000000) (w : World) (hL : Parts w ao len cap zs) :
    CallsIn Fence.wide n Tryz.prog 73 #[.agg #[.slice ao len cap, .int .i64 a.l, .int .u64 a.c, .int .i64 a.i]] w (WplP (befW (pts zs) a) (endW (pts zs) a) w) := by
  have hn1 : 1 ≤ n := by omega
  refine callsIn_of_wp_marks Tryz.func73 rfl trivial ?_ rfl
  simp only [Tryz.ntmps73, List.size_toArray, List.length_cons, List.length_nil, Nat.reduceAdd, Nat.reduceSub, Array.replicate_succ, Array.replicate_zero, List.push_toArray, List.append_toArray, List.nil_append, List.cons_append]
  have HL := Lib.hid hL
  have hlen := hL.hlen
  clear hL
  have hBi : Below w.heap.size w (((w.alloc (.cells #[.slice ao len cap, .int .i64 a.l, .int .u64 a.c, .int .i64 a.i] 65)).alloc (.cells #[.int .i64 0] 3)).alloc (.cells #[.int .i64 0] 3)) := ((Below.new w _).alloc (by simp) _).alloc (by simp; omega) _
  have hr0 : Boxed (((w.alloc (.cells #[.slice ao len cap, .int .i64 a.l, .int .u64 a.c, .int .i64 a.i] 65)).alloc (.cells #[.int .i64 0] 3)).alloc (.cells #[.int .i64 0] 3)) (w.heap.size + 1) 3 (.int .i64 0) := by
    have := Boxed.new (w.alloc (.cells #[.slice ao len cap, .int .i64 a.l, .int .u64 a.c, .int .i64 a.i] 65)) 3 (.int .i64 0)
    rw [World.size_alloc] at this
    exact this.alloc _
  have hr1 : Boxed (((w.alloc (.cells #[.slice ao len cap, .int .i64 a.l, .int .u64 a.c, .int .i64 a.i] 65)).alloc (.cells #[.int .i64 0] 3)).alloc (.cells #[.int .i64 0] 3)) (w.heap.size + 1 + 1) 3 (.int .i64 0) := by
    have := Boxed.new ((w.alloc (.cells #[.slice ao len cap, .int .i64 a.l, .int .u64 a.c, .int .i64 a.i] 65)).alloc (.cells #[.int .i64 0] 3)) 3 (.int .i64 0)
    rw [World.size_alloc, World.size_alloc] at this
    exact this
  have hl0 : ChAt (((w.alloc (.cells #[.slice ao len cap, .int .i64 a.l, .int .u64 a.c, .int .i64 a.i] 65)).alloc (.cells #[.int .i64 0] 3)).alloc (.cells #[.int .i64 0] 3)) w.heap.size ao len cap a := by
    exact ((ChAt.new w ao len cap a 65).more (Below.new _ (.cells #[.int .i64 0] 3))).more (Below.new _ (.cells #[.int .i64 0] 3))
  have hzi : (((w.alloc (.cells #[.slice ao len cap, .int .i64 a.l, .int .u64 a.c, .int .i64 a.i] 65)).alloc (.cells #[.int .i64 0] 3)).alloc (.cells #[.int .i64 0] 3)).heap.size = w.heap.size + 3 := by simp
  obtain ⟨c0, c1, c2, c3⟩ := hl0
  gi_wp2
  refine wpIn_scope_sp ?_
  gi_wp2
  refine wpIn_label ?_
  gi_wp2_with (refine ⟨trivial, ?_⟩; gi_at_call 54; refine (callsIn_wide.2 (allP_any ao len cap _)).mono ?_)
  rintro e W0 ⟨rfl, rfl⟩
  obtain ⟨Wi, hWi⟩ : ∃ Wi, ((w.alloc (.cells #[.slice ao len cap, .int .i64 a.l, .int .u64 a.c, .int .i64 a.i] 65)).alloc (.cells #[.int .i64 0] 3)).alloc (.cells #[.int .i64 0] 3) = Wi := ⟨_, rfl⟩
  rw [hWi] at hBi hr0 hr1 hzi c0 c1 c2 c3 ⊢
  have HI := Lib.hid (And.intro hBi (And.intro hr0 (And.intro hr1 (ChAt.mk c0 c1 c2 c3))))
  clear hBi hr0 hr1
  rw [hzi]
  have hb0 := Below.new Wi (.cells #[.slice ao len cap] 58)
  have hc1 : (Wi.alloc (.cells #[.slice ao len cap] 58)).cell? ⟨w.heap.size + 3, 0, none⟩ = some (.slice ao len cap) := by rw [← hzi]; simp
  have hz0 : (Wi.alloc (.cells #[.slice ao len cap] 58)).heap.size = w.heap.size + 4 := by rw [World.size_alloc, hzi]
  obtain ⟨W0, hW0⟩ : ∃ W0, Wi.alloc (.cells #[.slice ao len cap] 58) = W0 := ⟨_, rfl⟩
  rw [hW0] at hb0 hc1 hz0 ⊢
  have HA := Lib.hid (And.intro hc1 (And.intro hz0 (And.intro (below_more HI.out.1 hb0) (And.intro (boxed_more HI.out.2.1 hb0) (And.intro (boxed_more HI.out.2.2.1 hb0) (HI.out.2.2.2.more hb0))))))
  clear hb0 hc1 HI hW0 c0 c1 c2 c3
  gi_wp2
  refine wpIn_rangeY hn1 (gf := 89) (lb := #[.pointer (some ⟨w.heap.size + 3, 0, none⟩)]) rfl (enters_of Tryz.func89 (by kernel_rfl) rfl)
    (valsP1 (n - 1) (by omega) (fun k => k < w.heap.size) (w.heap.size + 3) len cap ao zs hreach W0 (fun k hk => by omega) HA.out.1 (HL.out.more HA.out.2.2.1) ?hap) KS.trans (fun V o o' _ _ _ => KS.put _ _ _ (by omega)) (fun _ => rfl)
    (PlI ao len cap a w) (PlX a w) ?hI ?hIx ?h0
    (fun x a' W => ∃ Bx, w.heap.size + 4 ≤ Bx ∧ PtAt W Bx 0 x ∧ a' = { tmps := #[.agg #[.slice ao len cap, .int .i64 a.l, .int .u64 a.c, .int .i64 a.i], .pointer (some ⟨w.heap.size, 0, none⟩), .int .i64 0, .int .i64 0, .pointer (some ⟨w.heap.size + 1, 0, none⟩), .pointer (some ⟨w.heap.size + 1 + 1, 0, none⟩), .pointer (some ⟨Bx, 0, none⟩), undef, .pointer (some ⟨w.heap.size, 0, none⟩), .slice ao len cap, .func (.func 89) #[] #[.pointer (some ⟨w.heap.size + 3, 0, none⟩)], .agg #[.int .i64 x.a.l, .int .u64 x.a.c, .int .i64 x.a.i, .slice x.va x.os.length x.vc], undef, undef, undef, undef, undef, undef, undef, undef, undef, undef, undef, undef, undef, undef, undef, undef, undef, undef, undef], defers := [] })
    ?hAx ?assign ?body ?done ?stop
  case hap =>
    intro hp ad e
    obtain ⟨b, off, e', hbl, _⟩ := HL.out.at hp
    rw [e] at e'
    obtain rfl := Option.some.inj e'
    exact hbl
  case hI => exact PlI.own (by omega)
  case hIx => exact fun c => PlX.own (by omega) c
  case hAx =>
    rintro x a' _ A B row ⟨Bx, h0, h1, rfl⟩ hg hr
    exact ⟨Bx, h0, ptat_keep h1 hg (fun r e => (hr r e).2), rfl⟩
  case h0 => exact ⟨⟨HA.out.2.2.2.1, HA.out.2.2.2.2.1, HA.out.2.2.2.2.2, (fun y hy => by cases hy), by omega⟩, HA.out.2.2.1⟩
  case assign =>
    rintro l pre x W K ⟨⟨b0, b1, b2, hp, hs⟩, hB⟩ hH hK
    have HK := Lib.hid hK
    have HP := Lib.hid (And.intro hp (And.intro b0 (And.intro b1 (And.intro b2 hB))))
    clear hK b0 b1 b2 hp hB hH
    simp only [pv]
    gi_wp2
    exact HK.out _ _ ((KeepsOthers.alloc _ _).from _) (KS.of_below (m := W.heap.size) (Below.new W _) (fun k hk => by omega)) ⟨⟨HP.out.2.1.alloc _, HP.out.2.2.1.alloc _, HP.out.2.2.2.1.more (Below.new _ _), HP.out.1, by simp; omega⟩, HP.out.2.2.2.2.alloc HP.out.2.2.2.2.size _⟩ ⟨W.heap.size, hs, PtAt.new W x _, rfl⟩
  case body =>
    rintro l pre x a' W ⟨⟨b0, b1, b2, hp, hs⟩, hB⟩ hH ⟨Bx, hBx, hx, rfl⟩
    have hpl : pre.length < len := by
      have := hH.length_le
      rw [List.length_append, List.length_cons, List.length_nil, hlen] at this
      omega
    obtain ⟨c0, c1, c2, c3⟩ := b2
    obtain ⟨y0, y1, y2, _⟩ := hx.var
    have HV := Lib.hid (And.intro b0 (And.intro b1 (And.intro hp (And.intro hB (And.intro hH (ChAt.mk c0 c1 c2 c3))))))
    have hdp : 1 ≤ n - 1 - 1 := by omega
    have hlt := cmp_lt x.a a
    have heq := cmp_same x.a a
    obtain ⟨cv, hcv⟩ : ∃ cv, x.a.cmp a = cv := ⟨_, rfl⟩
    have HC := Lib.hid (cmpW_any x.a a W)
    rw [hcv] at hlt heq HC
    clear b0 b1 hp hB hx hH hcv
    gi_wp2_with (refine ⟨trivial, ?_⟩; gi_at_call 77; refine (CallsIn.inRound l (callsIn_wide.2 HC.out)).mono ?_)
    rintro e w1 ⟨rfl, hb1⟩
    have hB1 := below_more HV.out.2.2.2.1 hb1
    have k0 := boxed_more HV.out.1 hb1
    have k1 := boxed_more HV.out.2.1 hb1
    have k2 := HV.out.2.2.2.2.2.more hb1
    have g1 := k1.cell
    have gf1 := k1.frozen
    have HB := Lib.hid (And.intro hb1 (And.intro hB1 (And.intro k0 (And.intro k1 k2))))
    have hs1 : w.heap.size + 4 ≤ w1.heap.size := Nat.le_trans hs hb1.size
    clear hb1 hB1 k0 k1 k2 y0 y1 y2 c0 c1 c2 c3
    cases hah : x.a.ahead a with
    | true =>
      rw [hah] at hlt
      have HX := Lib.hid hah
      clear hah heq g1 gf1
      gi_wp2
      refine wpIn_round_any (k := 6) (by kernel_rfl) rfl ?_
      have hd : Below w1.heap.size w1 w1.drew := (Below.refl _ w1).drew
      have k0 := boxed_more HB.out.2.2.1 hd
      have k1 := boxed_more HB.out.2.2.2.1 hd
      have k2 := HB.out.2.2.2.2.more hd
      refine pl_region (k := pre.length) (X := w.heap.size + 1) (Y := w.heap.size + 1 + 1) (by omega) (by omega) k0.cell k1.cell k0.frozen k1.frozen ?_
      have hb2 : Below w.heap.size w1 ((w1.drew.setCell ⟨w.heap.size + 1, 0, none⟩ (.int .i64 ((pre.length : Int) + 1))).setCell ⟨w.heap.size + 1 + 1, 0, none⟩ (.int .i64 ((pre.length : Int) + 1))) := ((hd.mono (by omega)).setCell (p := ⟨w.heap.size + 1, 0, none⟩) (by simp) _).setCell (p := ⟨w.heap.size + 1 + 1, 0, none⟩) (by simp; omega) _
      have HU := Lib.hid (show KeepsFrom W0.heap.size W ((w1.drew.setCell ⟨w.heap.size + 1, 0, none⟩ (.int .i64 ((pre.length : Int) + 1))).setCell ⟨w.heap.size + 1 + 1, 0, none⟩ (.int .i64 ((pre.length : Int) + 1))) ∧ KS (fun k => k < w.heap.size) W ((w1.drew.setCell ⟨w.heap.size + 1, 0, none⟩ (.int .i64 ((pre.length : Int) + 1))).setCell ⟨w.heap.size + 1 + 1, 0, none⟩ (.int .i64 ((pre.length : Int) + 1))) ∧ PlI ao len cap a w (pre ++ [x]) ((w1.drew.setCell ⟨w.heap.size + 1, 0, none⟩ (.int .i64 ((pre.length : Int) + 1))).setCell ⟨w.heap.size + 1 + 1, 0, none⟩ (.int .i64 ((pre.length : Int) + 1))) from by
        refine ⟨(((keeps_below HB.out.1).trans (keeps_below hd)).trans ((KeepsOthers.setCell _ ⟨w.heap.size + 1, 0, none⟩ _).trans (KeepsOthers.setCell _ ⟨w.heap.size + 1 + 1, 0, none⟩ _))).from _, KS.of_below ((HB.out.1.mono (by omega)).trans hb2) (fun k hk => hk), ⟨?_, ?_, ?_, ?_, ?_⟩, HB.out.2.1.trans hb2⟩
        · rw [List.length_append]
          exact (k0.set _).other (by omega) _
        · rw [List.length_append]
          exact (k1.other (by omega) _).set _
        · exact (k2.eq (Below.heap_setCell _ ⟨w.heap.size + 1, 0, none⟩ _ _ (fun e => by have : w.heap.size = w.heap.size + 1 := e; omega))).eq (Below.heap_setCell _ ⟨w.heap.size + 1 + 1, 0, none⟩ _ _ (fun e => by have : w.heap.size = w.heap.size + 1 + 1 := e; omega))
        · intro y hy
          rcases List.mem_append.1 hy with h | h
          · exact HV.out.2.2.1 y h
          · obtain rfl : y = x := by simpa using h
            exact HX.out
        · have := hb2.size
          omega)
      clear k0 k1 k2 hb2 hd
      gi_wp2
      exact HU.out
    | false =>
      rw [hah] at hlt
      have HX := Lib.hid hah
      clear hah
      cases hsm : x.a.same a with
      | true =>
        rw [hsm] at heq
        have HS := Lib.hid hsm
        clear hsm
        have hwr : IntKind.i64.wrap ((pre.length : Int) + 1) = (pre.length : Int) + 1 := by rw [IntKind.wrap_i64]; omega
        gi_wp2
        refine ⟨((keeps_below HB.out.1).trans (KeepsOthers.setCell _ _ _)).from _, ⟨rfl, pre, x, rfl, HV.out.2.2.1, HX.out, HB.out.2.2.1.other (by omega) _, ?_⟩, HB.out.2.1.setCell (p := ⟨w.heap.size + 1 + 1, 0, none⟩) (by simp; omega) _⟩
        rw [HS.out]
        exact HB.out.2.2.2.1.set _
      | false =>
        rw [hsm] at heq
        have HS := Lib.hid hsm
        clear hsm
        gi_wp2
        refine ⟨(keeps_below HB.out.1).from _, ⟨rfl, pre, x, rfl, HV.out.2.2.1, HX.out, HB.out.2.2.1, ?_⟩, HB.out.2.1⟩
        rw [HS.out]
        exact HB.out.2.2.2.1
  case done =>
    rintro D ys W hD rfl ⟨⟨b0, b1, _, hp, hs⟩, hB⟩ hK
    have c0 := b0.cell
    have c1 := b1.cell
    have hpe := place_end hp
    have HU := Lib.hid (And.intro hpe (And.intro hB hK))
    clear hp hK b0 b1 hB hpe
    gi_wp2
    refine wpIn_wide.2 ?_
    go_quiet (fail)
    gi_wp2
    rw [Exit.noGoto_ret]
    refine ⟨by simp, .inl ⟨_, _, rfl, run_takeDeferred (by rw [heap_drewN]; exact HU.out.2.2), ?_⟩⟩
    refine ⟨_, results_tmp2 rfl _ _ _, by rw [HU.out.1.1, HU.out.1.2, hlen]; rfl, ?_⟩
    exact (below_drewN HU.out.2.1 _).trans (belowK_b (w := w) (Nat.le_refl _) _ D _ _ (by omega) (by rw [heap_drewN]; exact HU.out.2.2) rfl rfl)
  case stop =>
    rintro D c pre W hD hpre ⟨⟨rfl, q, x, rfl, hq, hpx, b0, b1⟩, hB⟩ hK
    have hph := place_hit hq hpx hpre
    rw [← hph.2] at b1
    have c0 := b0.cell
    have c1 := b1.cell
    have HU := Lib.hid (And.intro hph.1 (And.intro hB hK))
    clear hK b0 b1 hB hph hq hpx hpre
    gi_wp2
    refine wpIn_wide.2 ?_
    go_quiet (fail)
    gi_wp2
    rw [Exit.noGoto_ret]
    refine ⟨by simp, .inl ⟨_, _, rfl, run_takeDeferred (by rw [heap_drewN]; exact HU.out.2.2), ?_⟩⟩
    refine ⟨_, results_tmp2 rfl _ _ _, by rw [HU.out.1]; rfl, ?_⟩
    exact (below_drewN HU.out.2.1 _).trans (belowK_b (w := w) (Nat.le_refl _) _ D _ _ (by omega) (by rw [heap_drewN]; exact HU.out.2.2) rfl rfl)
theorem place_any (a : Lab) {ao : Option Addr} {len cap : Nat} {zs : List Pv} {l : List Pt} {w : World} (hL : SP w ao len cap zs l) :
    Calls Tryz.prog 73 #[.agg #[.slice ao len cap, .int .i64 a.l, .int .u64 a.c, .int .i64 a.i]] w (WplP (befW l a) (endW l a) w) := by
  obtain rfl := hL.e
  exact (callsIn_wide (n := 3)).1 (place_in 3 (by omega) a ao len cap zs (by have := hL.le; omega) w hL.o)

end Go.Proofs.YtlafcplcjpcikaaGreatDoor
