/- The document's Seen, set. -/
import Derived.Test.YtpaaeojojbdikaaDoorLgRef
import Derived.Deep.RegionHeld3
namespace Go.Proofs.YtpaaeojojbdikaaDoor
open Go.RowKit Go.Proofs.Cats Go.Proofs.Lgr Go.Shelf Go.Sort

theorem refUnderP (a b : Lab) (v : Bool) (ha : a.fits) (hb : b.fits) (h : a.under b = v) (w : World) (hg : ErrT w) : Calls Tryd.prog 36 #[.agg #[.int .i64 a.l, .int .u64 a.c, .int .i64 a.i], .agg #[.int .i64 b.l, .int .u64 b.c, .int .i64 b.i]] w (BoolP v w) := h ▸ refUnder_any a b ha hb w hg
theorem refCmpQ (a b : Lab) (w : World) : Calls Tryd.prog 32 #[.agg #[.int .i64 a.l, .int .u64 a.c, .int .i64 a.i], .agg #[.int .i64 b.l, .int .u64 b.c, .int .i64 b.i]] w (IntP (a.cmp b) w) := refCompare_any a b w
/-- Out, grown by appends: a row of the call's own. -/
structure OutW (n0 : Nat) (w0 : World) (v : Value) (k : Nat) (l : List Ln) (w : World) : Prop where
  row : w.ownsRow n0 43 4 v k (lcl l)
  len : l.length = k
  below : Below n0 w0 w
  le : n0 ≤ w0.heap.size
theorem OutW.more {n0 : Nat} {w0 : World} {v : Value} {k : Nat} {l : List Ln} {w w' : World} (h : OutW n0 w0 v k l w) (hb : Below w.heap.size w w') : OutW n0 w0 v k l w' := by
  have hr : OwnL n0 w v l := by unfold OwnL; rw [h.len]; exact h.row
  have := ownL_more hr hb
  unfold OwnL at this
  rw [h.len] at this
  exact ⟨this, h.len, h.below.trans (hb.mono (Nat.le_trans h.le h.below.size)), h.le⟩
theorem OutW.snoc {n0 : Nat} {w0 : World} {v v' : Value} {k : Nat} {l : List Ln} {w w' : World} {x : Ln} (h : OutW n0 w0 v k l w) (hown : w'.ownsRow n0 43 4 v' (k + 1) (lcl l ++ cells4 x)) (hg : w.grownBy w' v.ownBlock) : OutW n0 w0 v' (k + 1) (l ++ [x]) w' := by
  refine ⟨?_, by rw [List.length_append, h.len]; rfl, h.below.grown hg (Nat.le_trans h.le h.below.size) (fun k e => (World.ownsRow.lt h.row k e).1), h.le⟩
  rw [lcl_append]
  exact hown
theorem OutW.kx {n0 : Nat} {w0 : World} {v : Value} {k : Nat} {l : List Ln} {w : World} (h : OutW n0 w0 v k l w) {b : Nat} (hb : b < n0) : w.heap[b]? = w0.heap[b]? := h.below.block b hb

set_option maxRecDepth 100000 in
set_option maxHeartbeats 4000000 in
theorem refSeen_any (a : Lab) (ha : a.fits) (ao : Option Addr) (len cap : Nat) (l : List Ln) (hreach : len ≤ 100000) (w : World) (hL : Lns w ao len cap l) (hg : ErrT w) :
    Calls Tryd.prog 19 #[.slice ao len cap, .agg #[.int .i64 a.l, .int .u64 a.c, .int .i64 a.i]] w (SeqP (seenL l a) w) := by
  obtain ⟨i0, hi, hz0, hz1, hz2⟩ := info_parts infoLn
  have hB0 := Below.new w (.cells #[.int .i64 a.l, .int .u64 a.c, .int .i64 a.i] 25)
  have hll := hL.hlen
  have HL := Lib.hid (And.intro (hL.more hB0) (And.intro hB0 (And.intro (La3.new w a) (And.intro hll (hg.more hB0)))))
  clear hL hB0 hll hg
  go_enter Tryd.func19, Tryd.ntmps19
  go_wp2
  obtain ⟨W0, hW0⟩ : ∃ W0, w.alloc (.cells #[.int .i64 a.l, .int .u64 a.c, .int .i64 a.i] 25) = W0 := ⟨_, rfl⟩
  rw [hW0] at HL ⊢
  go_loopw [5, 6] (fun o v wr => ∃ (k n : Nat) (va : Option Addr) (vc : Nat), k ≤ len ∧ n ≤ k ∧ o = .slice va n vc ∧ v = .int .i64 k ∧ Hid (OutW W0.heap.size W0 (.slice va n vc) n (pf (fun x => x.a.under a) l k) wr)) (fun _ v _ => len - (intOf v).toNat)
  case atStart => exact ⟨0, 0, none, 0, Nat.zero_le _, Nat.le_refl _, rfl, rfl, ⟨World.ownsRow_nil _ _ _ _, by simp [pf], Below.refl _ _, Nat.le_refl _⟩⟩
  case round =>
    obtain ⟨k, n, va, vc, hk, hnk, rfl, rfl, HO⟩ := hrel
    by_cases hlt : k < len
    · obtain ⟨x, hx⟩ : ∃ x, l[k]? = some x := ⟨_, List.getElem?_eq_getElem (by rw [HL.out.2.2.2.1]; exact hlt)⟩
      obtain ⟨b, off, rfl, hb, hcs⟩ := HL.out.1.at (by omega)
      have hfx := HL.out.1.hfits x (List.mem_of_getElem? hx)
      obtain ⟨q0, q1, q2, q3⟩ := (hcs k x hx).of_block (HO.out.below.block b hb)
      obtain ⟨a0, a1, a2⟩ := HL.out.2.2.1.more HO.out.below
      have HE := Lib.hid (HL.out.2.2.2.2.more HO.out.below)
      have k0 := cell_regrown q0
      have k1 := cell_regrown q1
      have k2 := cell_regrown q2
      have e0 := cell_regrown a0
      have e1 := cell_regrown a1
      have e2 := cell_regrown a2
      have HX := Lib.hid hx
      have HC := Lib.hid hcs
      clear hx hcs
      cases hu : x.a.under a with
      | false =>
        have cU := rg_bool (V := wr) fun W hb => refUnderP x.a a false hfx ha hu W (HE.out.more hb)
        have HS := Lib.hid (pf_no (p := fun x => x.a.under a) HX.out hu)
        clear hu
        go_wp2
        refine wp_region_quiet_below (by kernel_rfl) (by kernel_rfl) ?_
        repeat (quiet_step (with_reducible (first | exact cU _ _)))
        refine wpQuiet_nil ?_
        intro _ hw'
        obtain ⟨⟨dq, osq⟩, hw''⟩ := hw'
        subst hw''
        go_wp2
        go_roundw
        case rel => exact ⟨k + 1, n, va, vc, by omega, by omega, rfl, by simp, by rw [HS.out]; exact HO.out.more (below_regrown wr dq osq)⟩
        case measure => simp [intOf]; omega
      | true =>
        have cU := rg_bool (V := wr) fun W hb => refUnderP x.a a true hfx ha hu W (HE.out.more hb)
        have HS := Lib.hid (pf_yes (p := fun x => x.a.under a) HX.out hu)
        clear hu
        go_wp2
        refine wp_region_quiet_below (by kernel_rfl) (by kernel_rfl) ?_
        repeat (quiet_step (with_reducible (first | exact cU _ _)))
        refine wpQuiet_nil ?_
        intro W1 hw'
        obtain ⟨⟨dq, osq⟩, hw''⟩ := hw'
        have hbq : Below wr.heap.size wr W1 := hw'' ▸ below_regrown wr dq osq
        clear hw''
        have p0 := cell_later hbq q0
        have p1 := cell_later hbq q1
        have p2 := cell_later hbq q2
        have p3 := cell_later hbq q3
        have HO1 := Lib.hid (HO.out.more hbq)
        have hO2 := HO1.out.more (Below.new W1 (.cells #[.int .i64 x.a.l, .int .u64 x.a.c, .int .i64 x.a.i, .int .i64 x.u] 43))
        have HO2 := Lib.hid hO2
        have HN := Lib.hid (ln_new W1 x)
        have hsz : W0.heap.size ≤ (W1.alloc (.cells #[.int .i64 x.a.l, .int .u64 x.a.c, .int .i64 x.a.i, .int .i64 x.u] 43)).heap.size := hO2.below.size
        have HSZ := Lib.hid hsz
        clear hbq hO2 hsz q0 q1 q2 q3 a0 a1 a2 k0 k1 k2 e0 e1 e2 cU
        go_wp2_with (at_builtin; go_loud (refine wpList_append_own _ rfl _ _ 22 rfl W0.heap.size 43 i0 (.agg #[.int .i64 0, .int .u64 0, .int .i64 0, .int .i64 0]) 4 32 Tryd.underlying22 hi hz0 hz1 hz2 rfl (by decide) (.slice va n vc) n _ rfl HO2.out.row ⟨W1.heap.size, 0, none⟩ 1 1 (cells4 x) rfl rfl HN.out (by simp [cells4, Value.oneCell']) (by unfold maxLen; omega) (by omega) HSZ.out ?_))
        intro v' w5 hown hgrow _
        obtain ⟨g', cap', rfl⟩ := ownsRow_succ hown
        have HF := Lib.hid (HO2.out.snoc hown hgrow)
        clear hown hgrow
        go_wp2
        go_roundw
        case rel => exact ⟨k + 1, n + 1, _, cap', by omega, by omega, rfl, by simp, by rw [HS.out]; exact HF.out⟩
        case measure => simp [intOf]; omega
    · obtain rfl : k = len := by omega
      have hpa : pf (fun x => x.a.under a) l k = seenL l a := pf_all (Nat.le_of_eq HL.out.2.2.2.1)
      have ho := HO.out
      rw [hpa] at ho
      have HF := Lib.hid (And.intro (show OwnL W0.heap.size wr (.slice va n vc) (seenL l a) by unfold OwnL; rw [ho.len]; exact ho.row) (And.intro ho.len (below_more HL.out.2.1 ho.below)))
      have hsz := HL.out.2.1.size
      clear ho hpa
      go_wp2
      go_ret
      exact ⟨va, vc, by rw [HF.out.2.1]; rfl, by rw [HF.out.2.1]; exact HF.out.1.mono hsz, HF.out.2.2⟩
theorem refSeen_p {a1 : Option Addr} {len1 c1 : Nat} {l m : List Ln} {a : Lab} {k : Nat} (ha : a.fits) (hr1 : len1 ≤ 100000) (hb : seenL l a = m) (hk : m.length = k) {w : World} (h1 : Lns w a1 len1 c1 l) (hg : ErrT w) :
    Calls Tryd.prog 19 #[.slice a1 len1 c1, .agg #[.int .i64 a.l, .int .u64 a.c, .int .i64 a.i]] w (SeenP m k w) := by
  have := refSeen_any a ha a1 len1 c1 l hr1 w h1 hg
  have hf := seen_fits (a := a) h1.hfits
  rw [hb] at this hf
  refine this.mono ?_
  rintro e w' ⟨va, vc, he, hO, hbw⟩
  simp only [hk] at he hO
  exact ⟨va, vc, he, ⟨hO.lns hk hf, hO⟩, hbw⟩

end Go.Proofs.YtpaaeojojbdikaaDoor
