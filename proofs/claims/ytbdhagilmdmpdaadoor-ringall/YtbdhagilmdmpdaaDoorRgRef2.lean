/- The document's Put, Take. -/
import Derived.Test.YtbdhagilmdmpdaaDoorRgRef
import Derived.Deep.RegionLaw
namespace Go.Proofs.YtbdhagilmdmpdaaDoor
open Go.RowKit Go.Proofs.Fld Go.Proofs.Rng Go.Shelf Go.Sort

/-- What an append leaves. -/
def AppQ (base e size : Nat) (v : Value) (w : World) (v' : Value) (n : Nat) (xs : List Value) (w' : World) : Prop := w'.ownsRow base e size v' n xs ∧ w.grownBy w' v.ownBlock
/-- append(buf, xs...) where buf is the call's own, and xs came in, nil or not: a step of a region that draws. -/
theorem step_append_some {P : Program} {ops : Array Oper} {o : Oper} {a : Act} {w : World} {K : Act → World → Prop} {Q : Exit → Act → World → Prop} {E : Prop} (hgd : o.guard = none) (sl x : Operand) (t : TypeId)
    (ho : o.op = .call { callee := .builtin .append, args := #[sl, x], argTypes := #[t, t] })
    (base : Nat) (e : TypeId) (i : TypeInfo) (z : Value) (size bytes : Nat) (ht : P.underlying t = some (.slice e)) (hi : P.info? e = some i) (hz : i.zero = some z)
    (hsize : i.size = size) (hby : i.bytes = bytes) (hzs : z.cells.size = size) (hsz : 0 < size)
    (v : Value) (n : Nat) (xs : List Value) (hs : a.eval sl = v) (hown : w.ownsRow base e size v n xs)
    (ao : Option Addr) (m c : Nat) (news : List Value) (hx : a.eval x = .slice ao m c) (hl : news.length = m * size) (hnone : ao = none → m = 0 ∧ c = 0) (hnews : ∀ ad, ao = some ad → ∀ j u, news[j]? = some u → w.cell? (ad.add j) = some u) (h1 : ∀ u ∈ news, u.oneCell' = true)
    (h63 : n + m ≤ maxLen) (hbytes : (n + m) * bytes ≤ 140737488355328) (hbase : base ≤ w.heap.size)
    (h : ∀ v' w', AppQ base e size v w v' (n + m) (xs ++ news) w' → K (a.put o.dst v') w') : if Region.wanted o (yielded ops a.tmps) = true then Oper.wp P o a w K Q else E := by
  have hw : Region.wanted o (yielded ops a.tmps) = true := by simp [Region.wanted, hgd]
  rw [if_pos hw]
  cases ao with
  | none =>
    obtain ⟨rfl, rfl⟩ := hnone rfl
    have hn : news = [] := List.eq_nil_of_length_eq_zero (by rw [hl]; omega)
    subst hn
    have hrun := run_append_owned_none (P := P) (w := w) base t o.type e i size ht hi v n xs hown
    unfold Oper.wp
    simp [execOp, ho, resolve, invoke, builtin, hs, hx, hrun, Result.andThen]
    exact h v w ⟨by rw [List.append_nil]; exact hown, World.grownBy.refl w _⟩
  | some ad => exact wp_append_own w sl x t ho base e i z size bytes ht hi hz hsize hby hzs hsz v n xs hs hown ad m c news hx hl (hnews ad rfl) h1 h63 hbytes hbase (fun v' w' h2 h3 _ => h v' w' ⟨h2, h3⟩)
theorem row_slice {w : World} {base e size : Nat} {n : Nat} {v : Value} {xs : List Value} (h : w.ownsRow base e size v n xs) : ∃ a cap, v = .slice a n cap := by
  rcases h.2 with ⟨rfl, rfl⟩ | ⟨g, cap, cur, rfl, _⟩
  · exact ⟨none, 0, rfl⟩
  · exact ⟨_, cap, rfl⟩
theorem row_more {w w' : World} {base e size : Nat} {n : Nat} {v : Value} {xs : List Value} (h : w.ownsRow base e size v n xs) (hb : Below w.heap.size w w') : w'.ownsRow base e size v n xs := by
  refine ⟨h.1, ?_⟩
  rcases h.2 with ⟨e, h0⟩ | ⟨g, cap, cur, e, hb', hg, rest⟩
  · exact .inl ⟨e, h0⟩
  · exact .inr ⟨g, cap, cur, e, hb', (hb.block g (Array.getElem?_eq_some_iff.1 hg).1).trans hg, rest⟩
theorem app_below {V w w' : World} {v v' : Value} {n n' : Nat} {xs xs' : List Value} {e size : Nat} (hV : Below V.heap.size V w) (h0 : w.ownsRow V.heap.size e size v n' xs') (h : AppQ V.heap.size e size v w v' n xs w') : Below V.heap.size V w' :=
  hV.grown h.2 hV.size (fun k hk => (World.ownsRow.lt h0 k hk).1)
theorem Txs.nones2 {W : World} {ao : Option Addr} {len cap : Nat} {zs : List It} (h : Txs W ao len cap zs) : ao = none → len = 0 ∧ cap = 0 := fun e => ⟨h.nones e, h.hnone e⟩
theorem Txs.fromc {W : World} {ao : Option Addr} {len cap : Nat} {zs : List It} (h : Txs W ao len cap zs) (e : Nat) (he : e ≤ len) : Txs W (fromA ao e cap) (len - e) (cap - e) (zs.drop e) := by
  have hm := h.hmax
  have hle := h.hle
  refine ⟨by rw [List.length_drop, h.hlen], by omega, by omega, fun q => ?_, fun x hx => h.hfits x (List.mem_of_mem_drop hx), fun hz => ?_⟩
  · unfold fromA at q
    by_cases e1 : cap = e
    · omega
    · rw [if_neg e1] at q
      cases ao with
      | none => have := h.hnone rfl; omega
      | some x => simp at q
  · have hlt : e < len := by
      rcases Nat.lt_or_ge e len with q | q
      · exact q
      · exact absurd (List.drop_eq_nil_of_le (by rw [h.hlen]; exact q)) hz
    obtain ⟨b, off, rfl, hc⟩ := h.hcells (fun q => hz (by rw [q]; simp))
    refine ⟨b, off + e, ?_, fun j x hj => ?_⟩
    · unfold fromA
      rw [if_neg (by omega)]
      simp [add_at]
    · rw [List.getElem?_drop] at hj
      have := hc _ x hj
      rw [show off + e + j = off + (e + j) by omega]
      exact this

set_option maxRecDepth 100000 in
set_option maxHeartbeats 4000000 in
theorem RPut_q {m : Int} {ao : Option Addr} {len cap : Nat} {zs : List It} {x : It} {pm : Int} {pl : List It} {c : Int} {k : Nat} (hx : x.length ≤ 900000) (hreach : len ≤ 1000000) (hsum : takes zs ≤ 1000000) (hpm : putM m zs x = pm) (hpl : putL m zs x = pl) (hc : errN (putE m zs x) = c) (hk : pl.length = k) {w : World} (hL : Txs w ao len cap zs) :
    Calls Tryd.prog 15 #[.agg #[.int .i64 m, .slice ao len cap], .string (bs x)] w (TellR pm pl k c w) := by
  obtain ⟨i0, hi, hz0, hz1, hz2⟩ := info_parts infoS
  have hfz : ∀ y ∈ zs, y.length ≤ 9223372036854775807 := hL.hfits
  have HFZ := Lib.hid hfz
  have hB1 := Below.new w (.cells #[.int .i64 m, .slice ao len cap] 24)
  have hN2 := Below.new (w.alloc (.cells #[.int .i64 m, .slice ao len cap] 24)) (.cells #[.int .i64 0, .slice none 0 0] 24)
  have hB2 := below_more hB1 hN2
  have R := (Rv.new w m ao len cap zs hL).more hN2
  have r2 := R2.new (w.alloc (.cells #[.int .i64 m, .slice ao len cap] 24)) (.int .i64 0) (.slice none 0 0) 24
  rw [World.size_alloc] at r2
  obtain ⟨W0, hW0⟩ : ∃ W0, (w.alloc (.cells #[.int .i64 m, .slice ao len cap] 24)).alloc (.cells #[.int .i64 0, .slice none 0 0] 24) = W0 := ⟨_, rfl⟩
  rw [hW0] at hB2 R r2
  have HX := Lib.hid (And.intro R (And.intro r2 hB2))
  have c0 := R.r.c0
  have c1 := R.r.c1
  have hzl := hL.hlen
  clear hB1 hB2 hN2 r2 hL R
  have HW := Lib.hid (And.intro hpm (And.intro hpl (And.intro hc hk)))
  have hsz := bs_size x
  clear hpm hpl hc hk hfz
  cases hr : rightR m zs with
  | false =>
    obtain ⟨q1, q2, q3⟩ := put_wrong (x := x) hr
    obtain ⟨h1, h2, h3, h4⟩ := HW.out
    rw [q2] at h1
    rw [q3] at h2
    rw [q1] at h3
    subst h1 h2 h4
    obtain rfl : (2 : Int) = c := h3
    have HR := Lib.hid hr
    clear hr q1 q2 q3
    go_enter Tryd.func15, Tryd.ntmps15
    go_wp2_with (go_at_call 20; refine (RRight_p hreach hsum HR.out HX.out.1.t).mono ?_)
    rintro e w1 ⟨rfl, hb⟩
    have R1 := HX.out.1.more hb
    have HY := Lib.hid (And.intro R1 (And.intro (HX.out.2.1.more hb) (below_more HX.out.2.2 hb)))
    clear c0 c1
    have c0 := R1.r.c0
    have c1 := R1.r.c1
    clear hb R1
    obtain ⟨y0, y1, _, _⟩ := HY.out.2.1.set (.int .i64 0) (.slice none 0 0)
    obtain ⟨d0, d1, f0, f1⟩ := HY.out.2.1
    have HB3 := Lib.hid (set2B HY.out.2.2 (b := w.heap.size + 1) (by omega) (.int .i64 0) (.slice none 0 0))
    go_wp2
    generalize hWF : ((w1.setCell ⟨w.heap.size + 1, 0, none⟩ (.int .i64 0)).setCell ⟨w.heap.size + 1, 1, none⟩ (.slice none 0 0)) = WF at y0 y1 HB3 ⊢
    refine bodyPost_ret (v := .tuple #[.agg #[.int .i64 0, .slice none 0 0], .int .i64 2]) (by simp [results, Tryd.results15, go_sem, y0, y1]) rfl ?_
    exact ⟨none, 0, rfl, ⟨Txs.nil _, OwnT.nil _ _⟩, HB3.out⟩
  | true =>
    have HR := Lib.hid hr
    by_cases h2 : 200 < x.length
    · have hd : decide ((x.length : Int) > 200) = true := decide_eq_true (by omega)
      obtain ⟨q1, q2, q3⟩ := put_no (x := x) (k := 1) hr (by rw [roomE_one, if_pos h2]) (by decide)
      obtain ⟨h1, h2', h3, h4⟩ := HW.out
      rw [q2] at h1
      rw [q3] at h2'
      rw [q1] at h3
      subst h1 h2' h4
      obtain rfl : (2 : Int) = c := h3
      clear hr q1 q2 q3
      go_enter Tryd.func15, Tryd.ntmps15
      go_wp2_with (go_at_call 20; refine (RRight_p hreach hsum HR.out HX.out.1.t).mono ?_)
      rintro e w1 ⟨rfl, hb⟩
      have R1 := HX.out.1.more hb
      have HY := Lib.hid (And.intro R1 (And.intro (HX.out.2.1.more hb) (below_more HX.out.2.2 hb)))
      clear c0 c1
      have c0 := R1.r.c0
      have c1 := R1.r.c1
      clear hb R1
      obtain ⟨y0, y1, _, _⟩ := HY.out.2.1.set (.int .i64 0) (.slice none 0 0)
      obtain ⟨d0, d1, f0, f1⟩ := HY.out.2.1
      have HB3 := Lib.hid (set2B HY.out.2.2 (b := w.heap.size + 1) (by omega) (.int .i64 0) (.slice none 0 0))
      go_wp2
      generalize hWF : ((w1.setCell ⟨w.heap.size + 1, 0, none⟩ (.int .i64 0)).setCell ⟨w.heap.size + 1, 1, none⟩ (.slice none 0 0)) = WF at y0 y1 HB3 ⊢
      refine bodyPost_ret (v := .tuple #[.agg #[.int .i64 0, .slice none 0 0], .int .i64 2]) (by simp [results, Tryd.results15, go_sem, y0, y1]) rfl ?_
      exact ⟨none, 0, rfl, ⟨Txs.nil _, OwnT.nil _ _⟩, HB3.out⟩
    · have hd : decide ((x.length : Int) > 200) = false := decide_eq_false (by omega)
      obtain ⟨u, hu⟩ : ∃ u, takes zs = u := ⟨_, rfl⟩
      obtain ⟨t1, ht1⟩ : ∃ t1 : Int, (u : Int) + (x.length : Int) = t1 := ⟨_, rfl⟩
      obtain ⟨t2, ht2⟩ : ∃ t2 : Int, t1 + 1 = t2 := ⟨_, rfl⟩
      have g1 : 0 ≤ t1 ∧ t1 ≤ 1000000000 := by omega
      have g2 : 0 ≤ t2 ∧ t2 ≤ 1000000000 := by omega
      have HWR := Lib.hid (And.intro (show IntKind.i64.wrap ((u : Int) + (x.length : Int)) = t1 by rw [ht1]; exact (wr1 t1 g1.1 g1.2).1) (show IntKind.i64.wrap (t1 + 1) = t2 by rw [ht2]; exact (wr1 t2 g2.1 g2.2).1))
      have ht3 : t2 = ((u + x.length + 1 : Nat) : Int) := by omega
      have HU := Lib.hid (And.intro hu ht3)
      clear g1 g2
      by_cases hf : m < t2
      · have hd2 : decide (t2 > m) = true := decide_eq_true hf
        obtain ⟨q1, q2, q3⟩ := put_no (x := x) (k := 2) hr (by rw [roomE_one, if_neg h2, hu, ← ht3, if_pos hf]) (by decide)
        obtain ⟨h1, h2', h3, h4⟩ := HW.out
        rw [q2] at h1
        rw [q3] at h2'
        rw [q1] at h3
        subst h1 h2' h4
        obtain rfl : (80 : Int) = c := h3
        clear hr q1 q2 q3 hf ht1 ht2 ht3 hu
        go_enter Tryd.func15, Tryd.ntmps15
        go_wp2_with (go_at_call 20; refine (RRight_p hreach hsum HR.out HX.out.1.t).mono ?_)
        rintro e w1 ⟨rfl, hb⟩
        have R1 := HX.out.1.more hb
        have HY := Lib.hid (And.intro R1 (And.intro (HX.out.2.1.more hb) (below_more HX.out.2.2 hb)))
        clear c0 c1
        have c0 := R1.r.c0
        have c1 := R1.r.c1
        have r0 := cell_regrown c0
        have r1 := cell_regrown c1
        have cT := rg_int (V := w1) fun W hb => Rtakes_p hreach hsum HU.out.1 (HY.out.1.more hb).t
        obtain ⟨e1, e2⟩ := HWR.out
        clear hb R1
        go_wp2
        refine wp_region_quiet_below (by kernel_rfl) (by kernel_rfl) ?_
        repeat (quiet_step (with_reducible (first | exact cT _ _)))
        refine wpQuiet_nil ?_
        intro W3 hw'
        obtain ⟨⟨dq, osq⟩, hw''⟩ := hw'
        have hbq : Below w1.heap.size w1 W3 := hw'' ▸ below_regrown w1 dq osq
        have HZ := Lib.hid (And.intro (HY.out.1.more hbq) (And.intro (HY.out.2.1.more hbq) (below_more HY.out.2.2 hbq)))
        clear hw'' hbq cT r0 r1 c0 c1 e1 e2 HWR
        obtain ⟨y0, y1, _, _⟩ := HZ.out.2.1.set (.int .i64 0) (.slice none 0 0)
        obtain ⟨d0, d1, f0, f1⟩ := HZ.out.2.1
        have HB3 := Lib.hid (set2B HZ.out.2.2 (b := w.heap.size + 1) (by omega) (.int .i64 0) (.slice none 0 0))
        go_wp2
        generalize hWF : ((W3.setCell ⟨w.heap.size + 1, 0, none⟩ (.int .i64 0)).setCell ⟨w.heap.size + 1, 1, none⟩ (.slice none 0 0)) = WF at y0 y1 HB3 ⊢
        refine bodyPost_ret (v := .tuple #[.agg #[.int .i64 0, .slice none 0 0], .int .i64 80]) (by simp [results, Tryd.results15, go_sem, y0, y1]) rfl ?_
        exact ⟨none, 0, rfl, ⟨Txs.nil _, OwnT.nil _ _⟩, HB3.out⟩
      · have hd2 : decide (t2 > m) = false := decide_eq_false (by omega)
        obtain ⟨q1, q2, q3⟩ := put_yes (x := x) hr (by rw [roomE_one, if_neg h2, hu, ← ht3, if_neg hf])
        obtain ⟨h1, h2', h3, h4⟩ := HW.out
        rw [q2] at h1
        rw [q3] at h2'
        rw [q1] at h3
        subst h1 h2'
        have hk1 : len + 1 = k := by rw [← h4, List.length_append, hzl]; rfl
        subst hk1
        obtain rfl : (0 : Int) = c := h3
        clear hr q1 q2 q3 hf ht1 ht2 ht3 hu h4
        go_enter Tryd.func15, Tryd.ntmps15
        go_wp2_with (go_at_call 20; refine (RRight_p hreach hsum HR.out HX.out.1.t).mono ?_)
        rintro e w1 ⟨rfl, hb⟩
        have R1 := HX.out.1.more hb
        have HY := Lib.hid (And.intro R1 (And.intro (HX.out.2.1.more hb) (below_more HX.out.2.2 hb)))
        clear c0 c1
        have c0 := R1.r.c0
        have c1 := R1.r.c1
        have r0 := cell_regrown c0
        have r1 := cell_regrown c1
        have cT := rg_int (V := w1) fun W hb => Rtakes_p hreach hsum HU.out.1 (HY.out.1.more hb).t
        obtain ⟨e1, e2⟩ := HWR.out
        clear hb R1
        go_wp2
        refine wp_region_quiet_below (by kernel_rfl) (by kernel_rfl) ?_
        repeat (quiet_step (with_reducible (first | exact cT _ _)))
        refine wpQuiet_nil ?_
        intro W3 hw'
        obtain ⟨⟨dq, osq⟩, hw''⟩ := hw'
        have hbq : Below w1.heap.size w1 W3 := hw'' ▸ below_regrown w1 dq osq
        have HZ := Lib.hid (And.intro (HY.out.1.more hbq) (And.intro (HY.out.2.1.more hbq) (below_more HY.out.2.2 hbq)))
        clear hw'' hbq cT r0 r1 c0 c1 e1 e2 HWR
        obtain ⟨l1, hl1⟩ : ∃ l1, tcl zs = l1 := ⟨_, rfl⟩
        have hl2 : l1.length = len * 1 := by rw [← hl1, tcl_length, hzl, Nat.mul_one]
        have HO1 := Lib.hid (show ∀ u ∈ l1, u.oneCell' = true from hl1 ▸ tcl_one zs)
        have HNW := Lib.hid (And.intro HZ.out.1.t.nones2 (And.intro (show ∀ W, Below W3.heap.size W3 W → ∀ ad, ao = some ad → ∀ j u, l1[j]? = some u → W.cell? (ad.add j) = some u from fun W hb => hl1 ▸ (HZ.out.1.more hb).t.news) (And.intro hl1 hl2)))
        clear hl1 hl2
        have hV0 : Below W3.heap.size W3 W3.drew := (Below.refl _ W3).drew
        have hV1 : Below W3.heap.size W3 (W3.alloc (.cells #[.string (bs x)] 9)).drew := (Below.new _ _).drew
        have c0 := HZ.out.1.r.c0
        have c1 := HZ.out.1.r.c1
        have c0a : ∀ o, (W3.alloc o).cell? ⟨w.heap.size, 0, none⟩ = some (.int .i64 m) := fun o => cell_later (Below.new _ _) c0
        have c1a : ∀ o, (W3.alloc o).cell? ⟨w.heap.size, 1, none⟩ = some (.slice ao len cap) := fun o => cell_later (Below.new _ _) c1
        have HI1 := Lib.hid (it_new W3 x)
        have hzs : W3.heap.size ≤ (W3.alloc (.cells #[.string (bs x)] 9)).drew.heap.size := hV1.size
        have HVV := Lib.hid (And.intro hV0 (And.intro hV1 hzs))
        clear hV0 hV1 hzs
        go_wp2
        go_region_law (first
          | (refine step_append_some rfl (.tmp 29) (.tmp 31) 22 rfl W3.heap.size 9 i0 (.string { data := #[] }) 1 16 Tryd.underlying22 hi hz0 hz1 hz2 rfl (by decide) (.slice none 0 0) 0 [] (by simp [Act.eval]) (World.ownsRow_nil _ _ _ _) ao len cap l1 (by simp [Act.eval]) HNW.out.2.2.2 HNW.out.1 (HNW.out.2.1 _ (by first | exact HVV.out.1 | exact HVV.out.2.1)) HO1.out (by unfold maxLen; omega) (by omega) (by first | exact HVV.out.1.size | exact HVV.out.2.2) ?_; rintro v1 w5 hA1; have hB5 := app_below (by first | exact HVV.out.1 | exact HVV.out.2.1) (World.ownsRow_nil _ _ _ _) hA1; obtain ⟨va1, vc1, rfl⟩ := row_slice hA1.1; have k0 := cell_later hB5 c0; have k1 := cell_later hB5 c1; have k0a := fun o => cell_later (Below.new w5 o) k0; have k1a := fun o => cell_later (Below.new w5 o) k1)
          | (refine step_append_some rfl (.tmp 32) (.tmp 34) 22 rfl W3.heap.size 9 i0 (.string { data := #[] }) 1 16 Tryd.underlying22 hi hz0 hz1 hz2 rfl (by decide) (.slice va1 (0 + len) vc1) (0 + len) ([] ++ l1) (by simp [Act.eval]) (row_more hA1.1 (Below.new _ _)) (some ⟨w5.heap.size, 0, none⟩) 1 1 [.string (bs x)] (by simp [Act.eval]) rfl (fun h => by cases h) (fun ad e => by cases e; exact it_new w5 x) (by simp [Value.oneCell']) (by unfold maxLen; omega) (by omega) (Nat.le_trans hB5.size (Below.new _ _).size) ?_; rintro v2 w6 hA2; have hB6 := app_below (below_more hB5 (Below.new _ _)) (row_more hA1.1 (Below.new _ _)) hA2; obtain ⟨va2, vc2, rfl⟩ := row_slice hA2.1; have n0 := cell_later hB6 c0; have n1 := cell_later hB6 c1; obtain ⟨d0, d1, f0, f1⟩ := HZ.out.2.1.more hB6)
          | (refine step_append_some rfl (.tmp 32) (.tmp 34) 22 rfl W3.heap.size 9 i0 (.string { data := #[] }) 1 16 Tryd.underlying22 hi hz0 hz1 hz2 rfl (by decide) (.slice va1 (0 + len) vc1) (0 + len) ([] ++ l1) (by simp [Act.eval]) hA1.1 (some ⟨W3.heap.size, 0, none⟩) 1 1 [.string (bs x)] (by simp [Act.eval]) rfl (fun h => by cases h) (fun ad e => by cases e; exact fun j u hj => (World.cell?_of_block (hA1.2.block _ (by simp [add_at]) (by simp [Value.ownBlock]))).trans (HI1.out j u hj)) (by simp [Value.oneCell']) (by unfold maxLen; omega) (by omega) hB5.size ?_; rintro v2 w6 hA2; have hB6 := app_below hB5 hA1.1 hA2; obtain ⟨va2, vc2, rfl⟩ := row_slice hA2.1; have n0 := cell_later hB6 c0; have n1 := cell_later hB6 c1; obtain ⟨d0, d1, f0, f1⟩ := HZ.out.2.1.more hB6))
        all_goals
          have hlt := HZ.out.2.1.lt
          have hO : OwnT W3.heap.size w6 (.slice va2 (len + 1) vc2) (zs ++ [x]) := by
            have hh := hA2.1
            rw [Nat.zero_add, List.nil_append, ← HNW.out.2.2.1] at hh
            unfold OwnT
            rw [List.length_append, hzl, tcl_append]
            exact hh
          obtain ⟨y0, y1, _, _⟩ := R2.set ⟨d0, d1, f0, f1⟩ (.int .i64 m) (.slice va2 (len + 1) vc2)
          have HB3 := Lib.hid (set2B (below_more HZ.out.2.2 hB6) (b := w.heap.size + 1) (by omega) (.int .i64 m) (.slice va2 (len + 1) vc2))
          have HO := Lib.hid (((hO.set1 (b := w.heap.size + 1) (i := 0) (x := .int .i64 m) (by omega)).set1 (b := w.heap.size + 1) (i := 1) (x := .slice va2 (len + 1) vc2) (by omega)).mono (n1 := w.heap.size) (by omega))
          clear hO hlt hA1 hA2 hB5 hB6 k0 k1 k0a k1a n0 n1
          go_wp2
          generalize hWF : ((w6.setCell ⟨w.heap.size + 1, 0, none⟩ (.int .i64 m)).setCell ⟨w.heap.size + 1, 1, none⟩ (.slice va2 (len + 1) vc2)) = WF at y0 y1 HB3 HO ⊢
          refine bodyPost_ret (v := .tuple #[.agg #[.int .i64 m, .slice va2 (len + 1) vc2], .int .i64 0]) (by simp [results, Tryd.results15, go_sem, y0, y1]) rfl ?_
          exact ⟨va2, vc2, rfl, ⟨HO.out.txs (by rw [List.length_append, hzl]; rfl) (fun y hy => by
            rcases List.mem_append.1 hy with h | h
            · exact HFZ.out y h
            · obtain rfl : y = x := by simpa using h
              omega), HO.out⟩, HB3.out⟩

set_option maxRecDepth 100000 in
set_option maxHeartbeats 4000000 in
theorem RTake_q {m : Int} {ao : Option Addr} {len cap : Nat} {zs : List It} {px : It} {pm : Int} {pl : List It} {c : Int} {k : Nat} (hreach : len ≤ 1000000) (hsum : takes zs ≤ 1000000) (hpx : takeX m zs = px) (hpm : takeM m zs = pm) (hpl : takeL m zs = pl) (hc : errN (takeE m zs) = c) (hk : pl.length = k) {w : World} (hL : Txs w ao len cap zs) :
    Calls Tryd.prog 17 #[.agg #[.int .i64 m, .slice ao len cap]] w (TellX px pm pl k c w) := by
  obtain ⟨i0, hi, hz0, hz1, hz2⟩ := info_parts infoS
  have hfz : ∀ y ∈ zs, y.length ≤ 9223372036854775807 := hL.hfits
  have HFZ := Lib.hid hfz
  have hB1 := Below.new w (.cells #[.int .i64 m, .slice ao len cap] 24)
  have hN2 := Below.new (w.alloc (.cells #[.int .i64 m, .slice ao len cap] 24)) (.cells #[.int .i64 0, .slice none 0 0] 24)
  have hB2 := below_more hB1 hN2
  have R := (Rv.new w m ao len cap zs hL).more hN2
  have r2 := R2.new (w.alloc (.cells #[.int .i64 m, .slice ao len cap] 24)) (.int .i64 0) (.slice none 0 0) 24
  rw [World.size_alloc] at r2
  obtain ⟨W0, hW0⟩ : ∃ W0, (w.alloc (.cells #[.int .i64 m, .slice ao len cap] 24)).alloc (.cells #[.int .i64 0, .slice none 0 0] 24) = W0 := ⟨_, rfl⟩
  rw [hW0] at hB2 R r2
  have HX := Lib.hid (And.intro R (And.intro r2 hB2))
  have c0 := R.r.c0
  have c1 := R.r.c1
  have hzl := hL.hlen
  clear hB1 hB2 hN2 r2 hL R
  have HW := Lib.hid (And.intro hpx (And.intro hpm (And.intro hpl (And.intro hc hk))))
  clear hpx hpm hpl hc hk hfz
  cases hr : rightR m zs with
  | false =>
    obtain ⟨q1, q2, q3, q4⟩ := take_wrong hr
    obtain ⟨h0, h1, h2, h3, h4⟩ := HW.out
    rw [q4] at h0
    rw [q2] at h1
    rw [q3] at h2
    rw [q1] at h3
    subst h0 h1 h2 h4
    obtain rfl : (2 : Int) = c := h3
    have HR := Lib.hid hr
    clear hr q1 q2 q3 q4
    go_enter Tryd.func17, Tryd.ntmps17
    go_wp2_with (go_at_call 20; refine (RRight_p hreach hsum HR.out HX.out.1.t).mono ?_)
    rintro e w1 ⟨rfl, hb⟩
    have R1 := HX.out.1.more hb
    have HY := Lib.hid (And.intro R1 (And.intro (HX.out.2.1.more hb) (below_more HX.out.2.2 hb)))
    clear c0 c1
    have c0 := R1.r.c0
    have c1 := R1.r.c1
    clear hb R1
    obtain ⟨y0, y1, _, _⟩ := HY.out.2.1.set (.int .i64 0) (.slice none 0 0)
    obtain ⟨d0, d1, f0, f1⟩ := HY.out.2.1
    have HB3 := Lib.hid (set2B HY.out.2.2 (b := w.heap.size + 1) (by omega) (.int .i64 0) (.slice none 0 0))
    go_wp2
    generalize hWF : ((w1.setCell ⟨w.heap.size + 1, 0, none⟩ (.int .i64 0)).setCell ⟨w.heap.size + 1, 1, none⟩ (.slice none 0 0)) = WF at y0 y1 HB3 ⊢
    refine bodyPost_ret (v := .tuple #[.string { data := #[] }, .agg #[.int .i64 0, .slice none 0 0], .int .i64 2]) (by simp [results, Tryd.results17, go_sem, y0, y1]) rfl ?_
    exact ⟨none, 0, rfl, ⟨Txs.nil _, OwnT.nil _ _⟩, HB3.out⟩
  | true =>
    have HR := Lib.hid hr
    by_cases hz : len = 0
    · obtain ⟨q1, q2, q3, q4⟩ := take_none hr (List.eq_nil_of_length_eq_zero (hzl.trans hz))
      obtain ⟨h0, h1, h2, h3, h4⟩ := HW.out
      rw [q4] at h0
      rw [q2] at h1
      rw [q3] at h2
      rw [q1] at h3
      subst h0 h1 h2 h4 hz
      obtain rfl : (81 : Int) = c := h3
      clear hr q1 q2 q3 q4
      go_enter Tryd.func17, Tryd.ntmps17
      go_wp2_with (go_at_call 20; refine (RRight_p hreach hsum HR.out HX.out.1.t).mono ?_)
      rintro e w1 ⟨rfl, hb⟩
      have R1 := HX.out.1.more hb
      have HY := Lib.hid (And.intro R1 (And.intro (HX.out.2.1.more hb) (below_more HX.out.2.2 hb)))
      clear c0 c1
      have c0 := R1.r.c0
      have c1 := R1.r.c1
      clear hb R1
      obtain ⟨y0, y1, _, _⟩ := HY.out.2.1.set (.int .i64 0) (.slice none 0 0)
      obtain ⟨d0, d1, f0, f1⟩ := HY.out.2.1
      have HB3 := Lib.hid (set2B HY.out.2.2 (b := w.heap.size + 1) (by omega) (.int .i64 0) (.slice none 0 0))
      go_wp2
      generalize hWF : ((w1.setCell ⟨w.heap.size + 1, 0, none⟩ (.int .i64 0)).setCell ⟨w.heap.size + 1, 1, none⟩ (.slice none 0 0)) = WF at y0 y1 HB3 ⊢
      refine bodyPost_ret (v := .tuple #[.string { data := #[] }, .agg #[.int .i64 0, .slice none 0 0], .int .i64 81]) (by simp [results, Tryd.results17, go_sem, y0, y1]) rfl ?_
      exact ⟨none, 0, rfl, ⟨Txs.nil _, OwnT.nil _ _⟩, HB3.out⟩
    · have hne : 0 < len := by omega
      obtain ⟨x, hx⟩ : ∃ x, zs[0]? = some x := ⟨_, List.getElem?_eq_getElem (by rw [hzl]; exact hne)⟩
      obtain ⟨q1, q2, q3, q4⟩ := take_yes hr hx
      obtain ⟨h0, h1, h2, h3, h4⟩ := HW.out
      rw [q4] at h0
      rw [q2] at h1
      rw [q3] at h2
      rw [q1] at h3
      subst h0 h1 h2
      obtain ⟨k', hk'⟩ : ∃ k', len - 1 = k' := ⟨_, rfl⟩
      have hkk : k = k' := by rw [← h4, List.length_drop, hzl]; exact hk'
      subst hkk
      obtain rfl : (0 : Int) = c := h3
      have hd0 : (((len : Nat) : Int) == 0) = false := by simp; omega
      have hk6 : k ≤ 1000000 := by omega
      have HK := Lib.hid (And.intro hk' (And.intro hx h4))
      clear hr q1 q2 q3 q4 hx hk' h4
      go_enter Tryd.func17, Tryd.ntmps17
      go_wp2_with (go_at_call 20; refine (RRight_p hreach hsum HR.out HX.out.1.t).mono ?_)
      rintro e w1 ⟨rfl, hb⟩
      have R1 := HX.out.1.more hb
      have HY := Lib.hid (And.intro R1 (And.intro (HX.out.2.1.more hb) (below_more HX.out.2.2 hb)))
      clear c0 c1
      have c0 := R1.r.c0
      have c1 := R1.r.c1
      clear hb R1
      obtain ⟨b, off, rfl, hbl, hcs⟩ := HY.out.1.t.at hne
      have i1 := hcs 0 x HK.out.2.1
      rw [Nat.add_zero] at i1
      have sl := slice_l (some ⟨b, off, none⟩) len cap 1 hne (HY.out.1.t.hle)
      have T2 := HY.out.1.t.fromc 1 hne
      rw [HK.out.1] at sl T2
      rw [show ((1 : Nat) : Int) = 1 from rfl] at sl
      obtain ⟨A2, hA2⟩ : ∃ A2, fromA (some ⟨b, off, none⟩) 1 cap = A2 := ⟨_, rfl⟩
      obtain ⟨c2, hc2⟩ : ∃ c2, cap - 1 = c2 := ⟨_, rfl⟩
      rw [hA2, hc2] at sl T2
      obtain ⟨l1, hl1⟩ : ∃ l1, tcl (zs.drop 1) = l1 := ⟨_, rfl⟩
      have hl2 : l1.length = k * 1 := by rw [← hl1, tcl_length, HK.out.2.2, Nat.mul_one]
      have HO1 := Lib.hid (show ∀ u ∈ l1, u.oneCell' = true from hl1 ▸ tcl_one (zs.drop 1))
      have hV0 : Below w1.heap.size w1 w1.drew := (Below.refl _ w1).drew
      have HNW := Lib.hid (And.intro T2.nones2 (And.intro (show ∀ ad, A2 = some ad → ∀ j u, l1[j]? = some u → w1.drew.cell? (ad.add j) = some u from hl1 ▸ (T2.more hV0).news) (And.intro hl1 (And.intro hl2 hV0))))
      clear hl1 hl2 hV0 T2 hA2 hc2 hcs
      go_wp2
      go_region_law (refine step_append_some rfl (.tmp 21) (.tmp 24) 22 rfl w1.heap.size 9 i0 (.string { data := #[] }) 1 16 Tryd.underlying22 hi hz0 hz1 hz2 rfl (by decide) (.slice none 0 0) 0 [] (by simp [Act.eval, Act.put]) (World.ownsRow_nil _ _ _ _) A2 k c2 l1 (by simp [Act.eval, Act.put]) HNW.out.2.2.2.1 HNW.out.1 HNW.out.2.1 HO1.out (by unfold maxLen; omega) (by omega) (HNW.out.2.2.2.2.size) ?_; rintro v1 w5 hA1; have hB5 := app_below HNW.out.2.2.2.2 (World.ownsRow_nil _ _ _ _) hA1; obtain ⟨va1, vc1, rfl⟩ := row_slice hA1.1; have k0 := cell_later hB5 c0; have k1 := cell_later hB5 c1; have k2 := cell_later hB5 i1; obtain ⟨d0, d1, f0, f1⟩ := HY.out.2.1.more hB5)
      all_goals
        have hlt := HY.out.2.1.lt
        have hO : OwnT w1.heap.size w5 (.slice va1 k vc1) (zs.drop 1) := by
          have hh := hA1.1
          rw [Nat.zero_add, List.nil_append, ← HNW.out.2.2.1] at hh
          unfold OwnT
          rw [HK.out.2.2]
          exact hh
        obtain ⟨y0, y1, _, _⟩ := R2.set ⟨d0, d1, f0, f1⟩ (.int .i64 m) (.slice va1 k vc1)
        have HB3 := Lib.hid (set2B (below_more HY.out.2.2 hB5) (b := w.heap.size + 1) (by omega) (.int .i64 m) (.slice va1 k vc1))
        have HO := Lib.hid (((hO.set1 (b := w.heap.size + 1) (i := 0) (x := .int .i64 m) (by omega)).set1 (b := w.heap.size + 1) (i := 1) (x := .slice va1 k vc1) (by omega)).mono (n1 := w.heap.size) (by omega))
        clear hO hlt hA1 hB5 k0 k1 k2
        go_wp2
        generalize hWF : ((w5.setCell ⟨w.heap.size + 1, 0, none⟩ (.int .i64 m)).setCell ⟨w.heap.size + 1, 1, none⟩ (.slice va1 k vc1)) = WF at y0 y1 HB3 HO ⊢
        refine bodyPost_ret (v := .tuple #[.string (bs x), .agg #[.int .i64 m, .slice va1 k vc1], .int .i64 0]) (by simp [results, Tryd.results17, go_sem, y0, y1]) rfl ?_
        first
          | exact ⟨va1, vc1, rfl, ⟨HO.out.txs HK.out.2.2 (fun y hy => HFZ.out y (List.mem_of_mem_drop hy)), HO.out⟩, HB3.out⟩
          | (rw [← List.drop_one]; exact ⟨va1, vc1, rfl, ⟨HO.out.txs HK.out.2.2 (fun y hy => HFZ.out y (List.mem_of_mem_drop hy)), HO.out⟩, HB3.out⟩)

end Go.Proofs.YtbdhagilmdmpdaaDoor
