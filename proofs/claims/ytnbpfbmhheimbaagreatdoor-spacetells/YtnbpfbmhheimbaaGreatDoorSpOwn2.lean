/- own: objects in new memory, what their rings hold too. -/
import Derived.Test.YtnbpfbmhheimbaaGreatDoorSpOwn
import Derived.Test.YtnbpfbmhheimbaaGreatDoorRgB
namespace Go.Proofs.YtnbpfbmhheimbaaGreatDoor
open Go.RowKit Go.Proofs.Fld Go.Proofs.Rng Go.Proofs.Spc Go.Shelf Go.Sort

theorem offB_new {W W' : World} {x : Ov} {v : Value} {n0 : Nat} (h : OwnT n0 W (.slice x.a x.o.l.length x.c) x.o.l) (hv : ∀ g, v.ownBlock = some g → g < n0) (_ : W = W') : offB x v := by
  intro a ea hz g hg
  have := hv g hg
  rcases h.2 with ⟨e, h0⟩ | ⟨g', cap, cur, e, hb, _⟩
  · exact absurd (List.eq_nil_of_length_eq_zero h0) hz
  · injection e with e1
    rw [ea] at e1
    obtain rfl := Option.some.inj e1
    simp only
    omega
theorem obs_take_next {zs : List Ov} {k : Nat} {x : Ov} (h : zs[k]? = some x) : obs (zs.take (k + 1)) = obs (zs.take k) ++ [x.o] := by
  rw [take_next zs k x h, obs_append]
  rfl

set_option maxRecDepth 100000 in
set_option maxHeartbeats 4000000 in
theorem own_any (ao : Option Addr) (len cap : Nat) (zs : List Ov) (hreach : len ≤ 1000000) (hbd : ∀ x ∈ zs, Bd x.o) (w : World) (hL : Objs w ao len cap zs) :
    Calls Tryz.prog 122 #[.slice ao len cap] w (SeqO (obs zs) len w) := by
  obtain ⟨i0, hi, hz0, hz1, hz2⟩ := info_parts infoO
  have hll := hL.hlen
  have HL := Lib.hid (And.intro hL hbd)
  clear hL hbd
  go_enter Tryz.func122, Tryz.ntmps122
  go_wp2
  go_loopw [3, 8] (fun o v wr => ∃ (k : Nat) (va : Option Addr) (vc : Nat) (vs : List Ov), k ≤ len ∧ o = .slice va k vc ∧ v = .int .i64 k ∧ Hid (OutO w.heap.size w (.slice va k vc) k vs wr) ∧ Hid (obs vs = obs (zs.take k))) (fun _ v _ => len - (intOf v).toNat)
  case atStart => exact ⟨0, none, 0, [], Nat.zero_le _, rfl, rfl, OutO.nil w, rfl⟩
  case round =>
    obtain ⟨k, va, vc, vs, hk, rfl, rfl, HO, HQ⟩ := hrel
    by_cases hlt : k < len
    · obtain ⟨x, hx⟩ : ∃ x, zs[k]? = some x := ⟨_, List.getElem?_eq_getElem (by rw [hll]; exact hlt)⟩
      obtain ⟨b, off, rfl, hb, hcs⟩ := HL.out.1.at (by omega)
      obtain ⟨q0, q1, q2, q3, q4⟩ := (hcs k x hx).of_block (HO.out.below.block b hb)
      have hlv := (HL.out.1.row hx).more (HO.out.below.mono HO.out.le)
      have hlen := (HL.out.2 x (List.mem_of_getElem? hx)).len
      have HX := Lib.hid (obs_take_next hx)
      have hd1 : decide ((k : Int) < (len : Int)) = true := decide_eq_true (by omega)
      have hO1 := ObAt.new wr x 55
      have hb1 := Below.new wr (.cells #[.string (bs x.o.n), .int .i64 x.o.k, .string (bs x.o.d), .int .i64 x.o.m, .slice x.a x.o.l.length x.c] 55)
      have f4 : (wr.alloc (.cells #[.string (bs x.o.n), .int .i64 x.o.k, .string (bs x.o.d), .int .i64 x.o.m, .slice x.a x.o.l.length x.c] 55)).frozen? ⟨wr.heap.size, 4, none⟩ = false := by simp
      have hz1 : (wr.alloc (.cells #[.string (bs x.o.n), .int .i64 x.o.k, .string (bs x.o.d), .int .i64 x.o.m, .slice x.a x.o.l.length x.c] 55)).heap.size = wr.heap.size + 1 := by simp
      have hbn := Below.new (wr.alloc (.cells #[.string (bs x.o.n), .int .i64 x.o.k, .string (bs x.o.d), .int .i64 x.o.m, .slice x.a x.o.l.length x.c] 55)) (.cells #[.slice x.a x.o.l.length x.c] 31)
      have hb2 := below_more hb1 hbn
      have t0 : ((wr.alloc (.cells #[.string (bs x.o.n), .int .i64 x.o.k, .string (bs x.o.d), .int .i64 x.o.m, .slice x.a x.o.l.length x.c] 55)).alloc (.cells #[.slice x.a x.o.l.length x.c] 31)).cell? ⟨wr.heap.size + 1, 0, none⟩ = some (.slice x.a x.o.l.length x.c) := by rw [← hz1]; simp
      have HC := Lib.hid (concatS_any (wr.heap.size + 1) x.a x.o.l.length x.c x.o.l hlen _ t0 ((hlv.more hb2).t))
      have HA := Lib.hid (And.intro hb2 (And.intro (hO1.more hbn) (And.intro ((hbn.frozen (p := ⟨wr.heap.size, 4, none⟩) (by simp)).trans f4) (And.intro hlv (show (((wr.alloc (.cells #[.string (bs x.o.n), .int .i64 x.o.k, .string (bs x.o.d), .int .i64 x.o.m, .slice x.a x.o.l.length x.c] 55)).alloc (.cells #[.slice x.a x.o.l.length x.c] 31)).heap.size = wr.heap.size + 2) by simp)))))
      clear hx hcs hlv hlen hO1 hb1 f4 hz1 hbn hb2 t0
      go_wp2_with (go_at_call 138; refine HC.out.mono ?_)
      rintro e w3 ⟨va', vc', rfl, ⟨hT, hO⟩, hb3⟩
      obtain ⟨x', hx'⟩ : ∃ x' : Ov, x' = ⟨x.o, va', vc'⟩ := ⟨_, rfl⟩
      have hob := HA.out.2.1.more hb3
      obtain ⟨z0, z1, z2, z3, z4⟩ := hob.var
      have f4 := (hb3.frozen (p := ⟨wr.heap.size, 4, none⟩) (by have := HA.out.2.2.2.2; simp only; omega)).trans HA.out.2.2.1
      have hsz3 := hb3.size
      rw [HA.out.2.2.2.2] at hsz3
      have hne : ∀ a, va' = some a → a.block ≠ wr.heap.size := fun a ea => OwnT.apart hO (by have := HA.out.2.2.2.2; omega) a ea
      have hx4 : ObAt (w3.setCell ⟨wr.heap.size, 4, none⟩ (.slice va' x.o.l.length vc')) wr.heap.size 0 x' := by
        subst hx'
        exact ⟨setO z0 (ne_off (by omega)), setO z1 (ne_off (by omega)), setO z2 (ne_off (by omega)), setO z3 (ne_off (by omega)), setS _ z4⟩
      have hb4 : Below wr.heap.size wr (w3.setCell ⟨wr.heap.size, 4, none⟩ (.slice va' x.o.l.length vc')) := (below_more HA.out.1 hb3).setCell (p := ⟨wr.heap.size, 4, none⟩) (Nat.le_refl _) _
      have hl4 : Lv (w3.setCell ⟨wr.heap.size, 4, none⟩ (.slice va' x.o.l.length vc')) x' := by
        subst hx'
        exact ⟨hT.set hne, HA.out.2.2.2.1.hn, HA.out.2.2.2.1.hd⟩
      have ho4 : offB x' (.slice va k vc) := by
        subst hx'
        exact offB_new (W' := w3) hO (fun g hg => by have := (World.ownsRow.lt HO.out.row g hg).1; have := HA.out.2.2.2.2; have := (World.ownsRow.lt HO.out.row g hg).2; omega) rfl
      have hs4 : (w3.setCell ⟨wr.heap.size, 4, none⟩ (.slice va' x.o.l.length vc')).heap.size = w3.heap.size := by simp [World.setCell]
      obtain ⟨y0, y1, y2, y3, y4⟩ := hx4.var
      obtain ⟨W4, hW4⟩ : ∃ W4, w3.setCell ⟨wr.heap.size, 4, none⟩ (.slice va' x.o.l.length vc') = W4 := ⟨_, rfl⟩
      rw [hW4] at hx4 hb4 hl4 hs4 y0 y1 y2 y3 y4
      have hb5 := Below.new W4 (.cells #[.string (bs x'.o.n), .int .i64 x'.o.k, .string (bs x'.o.d), .int .i64 x'.o.m, .slice x'.a x'.o.l.length x'.c] 55)
      have HO5 := Lib.hid (HO.out.more (below_more hb4 hb5))
      have HN := Lib.hid (And.intro (ob_new W4 x' 55) (And.intro (hl4.more hb5) (And.intro ho4 (And.intro HO5.out.size (show x'.o = x.o by rw [hx'])))))
      have HE := Lib.hid (And.intro hx' (show x'.o = x.o by rw [hx']))
      clear hT hO hb3 hx4 hb4 hl4 ho4 hb5 hs4 hob hne hsz3 z0 z1 z2 z3 hx'
      go_wp2_with (at_builtin; go_loud (refine wpList_append_lies _ rfl _ _ 60 rfl w.heap.size 55 i0 (.agg #[.string { data := #[] }, .int .i64 0, .string { data := #[] }, .int .i64 0, .slice none 0 0]) 5 72 Tryz.underlying60 hi hz0 hz1 hz2 rfl (by decide) (.slice va k vc) k (ocl vs) rfl HO5.out.row ⟨W4.heap.size, 0, none⟩ 1 1 (cells5 x') rfl rfl HN.out.1 (by simp [cells5, Value.oneCell']) (by decide) (by unfold maxLen; omega) (by omega) HN.out.2.2.2.1 (W4.heap.size + 1) (by simp) ?_; intro g cap w6 hown hgrow hat hlt6; have HF := Lib.hid (HO5.out.snoc HN.out.2.1 HN.out.2.2.1 (by simp) hown hgrow hat); clear hown hgrow hat))
      go_wp2
      go_roundw
      case rel => exact ⟨k + 1, some ⟨g, 0, none⟩, cap, vs ++ [x'], by omega, rfl, by simp, HF.out, by rw [obs_append, HQ.out, HX.out]; show _ ++ [x'.o] = _; rw [HE.out.2]⟩
      case measure => simp [intOf]; omega
    · obtain rfl : k = len := by omega
      have hd1 : decide ((k : Int) < (k : Int)) = false := decide_eq_false (by omega)
      have HF := Lib.hid (And.intro (HO.out.own.objs HO.out.len (fun x hx => (HO.out.rows x hx).1)) (And.intro (show obs vs = obs zs by rw [HQ.out, List.take_of_length_le (Nat.le_of_eq hll)]) HO.out.below))
      go_wp2
      go_ret
      exact ⟨vs, va, vc, rfl, HF.out.2.1, HF.out.1, HF.out.2.2⟩

end Go.Proofs.YtnbpfbmhheimbaaGreatDoor
