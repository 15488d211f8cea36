/- check, Right, Cost. -/
import Derived.Test.YtnbpfbmhheimbaaGreatDoorSpCheck
namespace Go.Proofs.YtnbpfbmhheimbaaGreatDoor
open Go.RowKit Go.Proofs.Fld Go.Proofs.Rng Go.Proofs.Spc Go.Shelf Go.Sort

attribute [local go_sem] Oper.semAt_some

/-- What check tells. -/
def ErrV (v : Value) (c : Int) : Prop := (∃ s, v = Sp.flt c s) ∨ (∃ nm s, v = Sp.abt nm c s)
def ChP (b : Bool) (w : World) (e : Ending) (w' : World) : Prop := ((b = true ∧ e = .returned .nilIface) ∨ (b = false ∧ ∃ v, e = .returned v ∧ ErrV v 110)) ∧ Below w.heap.size w w'
theorem ErrV.is {v : Value} {c : Int} (h : ErrV v c) : Sp.ErrIs v c := by
  rcases h with ⟨s, rfl⟩ | ⟨nm, s, rfl⟩
  · exact .flt _ _
  · exact .abt _ _ _
theorem ErrV.iface {v : Value} {c : Int} (h : ErrV v c) : ∃ t u, v = .iface t u := by
  rcases h with ⟨s, rfl⟩ | ⟨nm, s, rfl⟩
  · exact ⟨_, _, rfl⟩
  · exact ⟨_, _, rfl⟩
/-- judged: the iterator, and its box. -/
def JdgP (ao : Option Addr) (len cap : Nat) (w : World) (e : Ending) (w' : World) : Prop :=
  e = .returned (.func (.func 102) #[] #[.pointer (some ⟨w.heap.size, 0, none⟩)]) ∧ w.alloc (.cells #[.slice ao len cap] 60) = w'
set_option maxHeartbeats 1000000 in
theorem judged_any (ao : Option Addr) (len cap : Nat) (w : World) :
    Calls Tryz.prog 79 #[.slice ao len cap] w (JdgP ao len cap w) := by
  go_enter Tryz.func79, Tryz.ntmps79
  go_wp2
  go_ret
  exact ⟨rfl, rfl⟩
/-- check between two rounds. -/
def CkI (w : World) (pre : List (Ov × Value)) (W : World) : Prop := (Boxed W w.heap.size 59 .nilIface ∧ goodF [] (obs (fsts pre)) = true ∧ w.heap.size + 2 ≤ W.heap.size) ∧ Below w.heap.size w W
/-- .. when a round has left. -/
def CkX (zs : List Ov) (w : World) (c : Code) (_ : List (Ov × Value)) (W : World) : Prop := (c = .ret ∧ goodF [] (obs zs) = false ∧ ∃ nm s, Boxed W w.heap.size 59 (Sp.abt nm 110 s)) ∧ Below w.heap.size w W
theorem boxed_low {A B : World} {m b : Nat} {t : TypeId} {v : Value} (h : Boxed A b t v) (k : Below m A B) (hb : b < m) : Boxed B b t v := (k.block b hb).trans h
theorem CkI.ab {w : World} : AbB (w.heap.size + 2) (CkI w) := by
  rintro pre A B ⟨⟨b0, hg, hz⟩, hb⟩ hk
  exact ⟨⟨boxed_low b0 hk (by omega), hg, Nat.le_trans hz hk.size⟩, hb.trans (hk.mono (by omega))⟩
theorem CkX.ab {zs : List Ov} {w : World} (c : Code) : AbB (w.heap.size + 2) (CkX zs w c) := by
  rintro pre A B ⟨⟨hc, hg, nm, s, b0⟩, hb⟩ hk
  exact ⟨⟨hc, hg, nm, s, boxed_low b0 hk (by omega)⟩, hb.trans (hk.mono (by omega))⟩
theorem good_prefix {zs p : List Ov} {x : Ov} (h : p ++ [x] <+: zs) (hn : nextB (lastN [] (obs p)) x.o = false) : goodF [] (obs zs) = false := by
  obtain ⟨t, rfl⟩ := h
  rw [show obs (p ++ [x] ++ t) = obs p ++ x.o :: obs t by simp [obs]]
  exact goodF_stop hn

set_option maxRecDepth 100000 in
set_option maxHeartbeats 4000000 in
theorem check_in (n : Nat) (hn : 6 ≤ n) {s : Sn} (ao : Option Addr) (len cap : Nat) (zs : List Ov) (hreach : len ≤ 1000000) (w : World) (hs : Ev s w) (hbd : ∀ x ∈ zs, Bd x.o) (hL : Objs w ao len cap zs) :
    CallsIn Fence.wide n Tryz.prog 45 #[.slice ao len cap] w (ChP (rightB (obs zs)) w) := by
  have hn1 : 1 ≤ n := by omega
  refine callsIn_of_wp_marks Tryz.func45 rfl trivial ?_ rfl
  simp only [Tryz.ntmps45, List.size_toArray, List.length_cons, List.length_nil, Nat.reduceAdd, Nat.reduceSub, Array.replicate_succ, Array.replicate_zero, List.push_toArray, List.append_toArray, List.nil_append, List.cons_append]
  have hlen := hL.hlen
  have hB1 := Below.new w (.cells #[.nilIface] 59)
  have b1 := Boxed.new w 59 .nilIface
  by_cases h20 : 20 < len
  · have hd : decide ((len : Int) > 20) = true := decide_eq_true (by omega)
    have HR := Lib.hid (show rightB (obs zs) = false by unfold rightB; rw [obs_length, hlen, decide_eq_false (by omega)]; rfl)
    clear hs hbd hL hB1 b1 hlen
    gi_wp2
    refine ⟨.iface 95 (.agg #[.int .i64 110, .string { data := #[116, 111, 111, 32, 109, 97, 110, 121, 32, 111, 98, 106, 101, 99, 116, 115] }]), ?_, .inr ⟨HR.out, _, rfl, .inl ⟨_, rfl⟩⟩, Below.new _ _⟩
    simp [results, Tryz.results45, go_sem]
  · have hd : decide ((len : Int) > 20) = false := decide_eq_false (by omega)
    have HR := Lib.hid (show rightB (obs zs) = goodF [] (obs zs) by unfold rightB; rw [obs_length, hlen, decide_eq_true (by omega)]; rfl)
    have hB2 := hB1.alloc (by simp) (.cells #[.slice ao len cap] 60)
    have b2 := b1.alloc (.cells #[.slice ao len cap] 60)
    have hz : ((w.alloc (.cells #[.nilIface] 59)).alloc (.cells #[.slice ao len cap] 60)).heap.size = w.heap.size + 2 := by simp
    have hc : ((w.alloc (.cells #[.nilIface] 59)).alloc (.cells #[.slice ao len cap] 60)).cell? ⟨w.heap.size + 1, 0, none⟩ = some (.slice ao len cap) := by simp
    obtain ⟨W0, hW0⟩ : ∃ W0, (w.alloc (.cells #[.nilIface] 59)).alloc (.cells #[.slice ao len cap] 60) = W0 := ⟨_, rfl⟩
    rw [hW0] at hB2 b2 hz hc
    have HA := Lib.hid (And.intro hB2 (And.intro b2 (And.intro hc (And.intro (hL.more hB2) (And.intro (hs.more hB2) hbd)))))
    have HG := Lib.hid hlen
    have HJ := Lib.hid (judged_any ao len cap (w.alloc (.cells #[.nilIface] 59)))
    have HWE := Lib.hid hW0
    clear hs hbd hL hB1 hB2 b1 b2 hc hlen hW0
    gi_wp2_with (refine ⟨trivial, ?_⟩; gi_at_call 79; refine (callsIn_wide.2 HJ.out).mono ?_)
    rintro e w0 ⟨rfl, rfl⟩
    rw [HWE.out, World.size_alloc]
    gi_wp2
    refine wpIn_rangeB hn1 (gf := 102) (lb := #[.pointer (some ⟨w.heap.size + 1, 0, none⟩)]) rfl (enters_of Tryz.func102 (by kernel_rfl) rfl)
      (judged1 (n - 1) (by omega) (w.heap.size + 1) len cap ao zs hreach W0 HA.out.2.2.2.2.1 HA.out.2.2.2.2.2 HA.out.2.2.1 HA.out.2.2.2.1) KA.trans (fun V o o' _ _ _ => grownBy_putObj' V _ o') (fun _ => rfl)
      (CkI w) (CkX zs w) ?hI ?hIx ?h0
      (fun y a' V => ∃ Bx, w.heap.size + 2 ≤ Bx ∧ ObAt V Bx 0 y.1 ∧ a' = { tmps := #[.slice ao len cap, undef, .pointer (some ⟨w.heap.size, 0, none⟩), .pointer (some ⟨Bx, 0, none⟩), y.2, .slice ao len cap, .int .i64 (len : Int), .bool false, undef, undef, .slice ao len cap, .func (.func 102) #[] #[.pointer (some ⟨w.heap.size + 1, 0, none⟩)], .agg #[.string (bs y.1.o.n), .int .i64 y.1.o.k, .string (bs y.1.o.d), .int .i64 y.1.o.m, .slice y.1.a y.1.o.l.length y.1.c], y.2, undef, undef, undef, undef, undef, undef, undef], defers := [] })
      ?hAx ?assign ?body ?done ?stop
    case hI => rw [hz]; exact CkI.ab
    case hIx => rw [hz]; exact fun c => CkX.ab c
    case hAx =>
      rintro x a' _ A B row ⟨Bx, h0, h1, rfl⟩ hg hr
      exact ⟨Bx, h0, obat_keep h1 hg (fun r e => (hr r e).2), rfl⟩
    case h0 => exact ⟨⟨HA.out.2.1, rfl, by omega⟩, HA.out.1⟩
    case assign =>
      rintro l pre ⟨x, v⟩ V K ⟨⟨b0, hg, hz1⟩, hB⟩ hH hK
      have HK := Lib.hid hK
      have hb := Below.new V (.cells #[.string (bs x.o.n), .int .i64 x.o.k, .string (bs x.o.d), .int .i64 x.o.m, .slice x.a x.o.l.length x.c] 55)
      have HP := Lib.hid (show CkI w pre (V.alloc (.cells #[.string (bs x.o.n), .int .i64 x.o.k, .string (bs x.o.d), .int .i64 x.o.m, .slice x.a x.o.l.length x.c] 55)) from CkI.ab pre V _ ⟨⟨b0, hg, hz1⟩, hB⟩ (hb.mono hz1))
      have HB := Lib.hid hb
      clear hK b0 hg hB hb hH
      simp only [encE, ov]
      gi_wp2
      exact HK.out _ _ ((KeepsOthers.alloc _ _).from _) (KA.of_below HB.out) HP.out ⟨V.heap.size, hz1, ObAt.new V x _, rfl⟩
    case body =>
      rintro l pre ⟨x, v⟩ a' V ⟨⟨b0, hg, hz1⟩, hB⟩ ⟨hH, hv⟩ ⟨Bx, hBx, hx, rfl⟩
      obtain ⟨y0, _, _, _, _⟩ := hx.var
      have cb := b0.cell
      have fb := b0.frozen
      have HP := Lib.hid (And.intro b0 (And.intro hg (And.intro hB hH)))
      rcases hv with ⟨hn, rfl⟩ | ⟨hn, s1, rfl⟩
      · have HN := Lib.hid hn
        clear b0 hg hB hH hn hx
        gi_wp2
        refine ⟨KeepsFrom.refl _ _, World.grownBy.refl _ _, ⟨HP.out.1, ?_, hz1⟩, HP.out.2.2.1⟩
        rw [fsts_snoc, show obs (fsts pre ++ [(x, Value.nilIface).1]) = obs (fsts pre) ++ [x.o] by simp [obs], goodF_snoc, HP.out.2.1]
        exact HN.out
      · have HN := Lib.hid (good_prefix hH hn)
        clear hg hB hH hn hx b0
        simp only [Sp.flt]
        gi_wp2
        exact ⟨(KeepsOthers.setCell _ _ _).from _, ⟨rfl, HN.out, bs x.o.n, s1, HP.out.1.set _⟩, HP.out.2.2.1.setCell (p := ⟨w.heap.size, 0, none⟩) (Nat.le_refl _) _⟩
    case done =>
      rintro D ys V hD hy ⟨⟨b0, hg, hz1⟩, hB⟩ hK
      have cb := b0.cell
      have fb := b0.frozen
      have HU := Lib.hid (And.intro (show rightB (obs zs) = true by rw [HR.out, ← hy]; exact hg) (And.intro (b0.set .nilIface) (And.intro (hB.setCell (p := ⟨w.heap.size, 0, none⟩) (Nat.le_refl _) .nilIface) ((KeepsOthers.setCell V ⟨w.heap.size, 0, none⟩ .nilIface).same D _ hK rfl))))
      clear b0 hg hB hK hy
      gi_wp2
      refine ⟨by simp, .inl ⟨_, _, rfl, run_takeDeferred HU.out.2.2.2, ?_⟩⟩
      have c1 := (boxed_put (.deferred none) HU.out.2.1 HU.out.2.2.2 rfl).cell
      refine ⟨.nilIface, ?_, .inl ⟨HU.out.1, rfl⟩, HU.out.2.2.1.trans (belowK_b (w := w) (Nat.le_refl _) _ D _ _ (by omega) HU.out.2.2.2 rfl rfl)⟩
      generalize ((V.setCell ⟨w.heap.size, 0, none⟩ .nilIface).putObj D (.deferred none)) = WF at c1 ⊢
      simp [results, Tryz.results45, go_sem, c1]
    case stop =>
      rintro D c pre V hD _ ⟨⟨rfl, hg, nm, s1, b0⟩, hB⟩ hK
      have cb := b0.cell
      have HU := Lib.hid (And.intro (show rightB (obs zs) = false by rw [HR.out]; exact hg) (And.intro b0 (And.intro hB hK)))
      clear b0 hg hB hK
      gi_wp2
      refine ⟨by simp, .inl ⟨_, _, rfl, run_takeDeferred HU.out.2.2.2, ?_⟩⟩
      have c1 := (boxed_put (.deferred none) HU.out.2.1 HU.out.2.2.2 rfl).cell
      refine ⟨Sp.abt nm 110 s1, ?_, .inr ⟨HU.out.1, _, rfl, .inr ⟨_, _, rfl⟩⟩, HU.out.2.2.1.trans (belowK_b (w := w) (Nat.le_refl _) _ D _ _ (by omega) HU.out.2.2.2 rfl rfl)⟩
      generalize (V.putObj D (.deferred none)) = WF at c1 ⊢
      simp [results, Tryz.results45, go_sem, c1]
theorem check_any {s : Sn} (ao : Option Addr) (len cap : Nat) (zs : List Ov) (hreach : len ≤ 1000000) (w : World) (hs : Ev s w) (hbd : ∀ x ∈ zs, Bd x.o) (hL : Objs w ao len cap zs) :
    Calls Tryz.prog 45 #[.slice ao len cap] w (ChP (rightB (obs zs)) w) := (callsIn_wide (n := 6)).1 (check_in 6 (by omega) ao len cap zs hreach w hs hbd hL)

set_option maxHeartbeats 1000000 in
theorem Right_s {s : Sn} {ao : Option Addr} {len cap : Nat} {zs : List Ov} {b : Bool} (hb : rightB (obs zs) = b) (hreach : len ≤ 1000000) {w : World} (hs : Ev s w) (hbd : ∀ x ∈ zs, Bd x.o) (hL : Objs w ao len cap zs) :
    Calls Tryz.prog 17 #[.slice ao len cap] w (BoolP b w) := by
  have HC := Lib.hid (check_any ao len cap zs hreach w hs hbd hL)
  rw [hb] at HC
  clear hs hbd hL hb
  go_enter Tryz.func17, Tryz.ntmps17
  go_wp2_with (go_at_call 45; refine HC.out.mono ?_)
  rintro e w1 ⟨⟨rfl, rfl⟩ | ⟨rfl, v, rfl, hv⟩, hb1⟩
  · have HB := Lib.hid hb1
    clear hb1
    go_wp2
    go_ret
    exact ⟨rfl, HB.out⟩
  · obtain ⟨t, u, rfl⟩ := hv.iface
    have HB := Lib.hid hb1
    clear hb1 hv
    go_wp2
    go_ret
    exact ⟨rfl, HB.out⟩
set_option maxHeartbeats 1000000 in
theorem Cost_s {s : Sn} {ao : Option Addr} {len cap : Nat} {zs : List Ov} {c : Int} (hc : costR (obs zs) = c) (hreach : len ≤ 1000000) {w : World} (hs : Ev s w) (hbd : ∀ x ∈ zs, Bd x.o) (hL : Objs w ao len cap zs) :
    Calls Tryz.prog 19 #[.slice ao len cap] w (IntP c w) := by
  unfold costR at hc
  cases hr : rightB (obs zs) with
  | false =>
    have HC := Lib.hid (Right_s hr hreach hs hbd hL)
    rw [hr, if_neg (by decide)] at hc
    subst hc
    clear hs hbd hL hr
    go_enter Tryz.func19, Tryz.ntmps19
    go_wp2_with (go_at_call 17; refine HC.out.mono ?_)
    rintro e w1 ⟨rfl, hb1⟩
    have HB := Lib.hid hb1
    clear hb1
    go_wp2
    go_ret
    exact ⟨rfl, HB.out⟩
  | true =>
    have HC := Lib.hid (Right_s hr hreach hs hbd hL)
    have HF := Lib.hid (And.intro hL (show ∀ x ∈ zs, fair x.o from fun x hx => fair_right hr x.o (mem_obs hx)))
    rw [hr, if_pos rfl] at hc
    have HE := Lib.hid hc
    clear hs hbd hL hr hc
    go_enter Tryz.func19, Tryz.ntmps19
    go_wp2_with (go_at_call 17; refine HC.out.mono ?_)
    rintro e w1 ⟨rfl, hb1⟩
    have HB := Lib.hid hb1
    clear hb1
    go_wp2_with (go_at_call 47; refine (costS_any ao len cap zs hreach HF.out.2 w1 (HF.out.1.more HB.out)).mono ?_)
    rintro e w2 ⟨rfl, hb2⟩
    have HB2 := Lib.hid (below_more HB.out hb2)
    clear hb2
    go_wp2
    go_ret
    exact ⟨by rw [← HE.out]; rfl, HB2.out⟩

end Go.Proofs.YtnbpfbmhheimbaaGreatDoor
