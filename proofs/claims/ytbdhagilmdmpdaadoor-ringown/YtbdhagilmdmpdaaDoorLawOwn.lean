/- RingOwn: the walk. -/
import Derived.Test.YtbdhagilmdmpdaaDoorLawOrder
import Derived.Deep.CutRange
import Derived.Deep.RegionWith
namespace Go.Proofs.Rng
theorem fewI_few (l : List It) : fewI (fewI l) = fewI l := by
  have h1 := fewI_length l
  show fewK (fewI l) 40 = fewI l
  unfold fewK
  rw [List.take_of_length_le h1]
  conv => rhs; rw [← List.map_id (fewI l)]
  refine List.map_congr_left fun x hx => ?_
  exact List.take_of_length_le (fewI_item hx)
theorem put_none {m : Int} {l : List It} {x : It} (h : ¬ errN (putE m l x) = 0) : (putL m l x).length = 0 := by
  rcases put_or m l x with q | ⟨_, _, q⟩
  · exact absurd (by rw [q]; rfl) h
  · rw [q]; rfl
theorem take_none' {m : Int} {l : List It} (h : ¬ errN (takeE m l) = 0) : (takeL m l).length = 0 := by
  rcases take_or m l with q | ⟨_, _, q, _⟩
  · exact absurd (by rw [q]; rfl) h
  · rw [q]; rfl
theorem all_none {m : Int} {l k : List It} (h : ¬ errN (allE m l) = 0) : (allL m l k).length = 0 := by
  unfold allE at h
  unfold allL
  cases e : rightR m l
  · rfl
  · rw [e] at h; exact absurd rfl h
theorem allL_nil_len (m : Int) (l : List It) : (allL m l []).length ≤ l.length := by
  unfold allL
  split
  · simp
  · simp
end Go.Proofs.Rng
namespace Go.Proofs.YtbdhagilmdmpdaaDoor
open Go.RowKit Go.Proofs.Fld Go.Proofs.Rng Go.Shelf Go.Sort

theorem OwnT.within {n0 : Nat} {W : World} {va : Option Addr} {k c : Nat} {l : List It} (h : OwnT n0 W (.slice va k c) l) : ∀ a, va = some a → n0 ≤ a.block ∧ a.block < W.heap.size := by
  intro a e
  rcases h.2 with ⟨e', _⟩ | ⟨g, cap, cur, e', hg, hb, _⟩
  · injection e' with e1
    rw [e1] at e
    cases e
  · injection e' with e1
    rw [e1] at e
    obtain rfl := Option.some.inj e
    exact ⟨hg, (Array.getElem?_eq_some_iff.1 hb).1⟩
/-- A row of texts that the call made, whatever they are. -/
def Row (W : World) (va : Option Addr) (k c : Nat) : Prop := ∃ n0 xs, W.ownsRow n0 9 1 (.slice va k c) k xs
theorem Row.of {n0 : Nat} {W : World} {va : Option Addr} {k c : Nat} {l : List It} (h : OwnT n0 W (.slice va k c) l) (hk : l.length = k) : Row W va k c := by
  unfold OwnT at h
  rw [hk] at h
  exact ⟨_, _, h⟩
theorem Row.more {W W' : World} {va : Option Addr} {k c : Nat} (h : Row W va k c) (hb : Below W.heap.size W W') : Row W' va k c := by
  obtain ⟨n0, xs, h1, h2⟩ := h
  refine ⟨n0, xs, h1, ?_⟩
  rcases h2 with ⟨e, h0⟩ | ⟨g, cap, cur, e, hb', hg, rest⟩
  · exact .inl ⟨e, h0⟩
  · exact .inr ⟨g, cap, cur, e, hb', (hb.block g (Array.getElem?_eq_some_iff.1 hg).1).trans hg, rest⟩
theorem Row.set {W : World} {va : Option Addr} {k c : Nat} (h : Row W va k c) (g i : Nat) (u : Value) : Row (W.setCell ⟨g, i, none⟩ u) va k c := by
  obtain ⟨n0, xs, h1, h2⟩ := h
  rcases h2 with ⟨e, h0⟩ | ⟨g', cap, cur, e, hb', hg, rest⟩
  · exact ⟨n0, xs, h1, .inl ⟨e, h0⟩⟩
  · by_cases q : g' = g
    · subst q
      have hh : W.ownsRow n0 9 1 (.slice va k c) k xs := ⟨h1, .inr ⟨g', cap, cur, e, hb', hg, rest⟩⟩
      injection e with e1 e2 e3
      subst e1 e3
      exact ⟨n0, _, (World.ownsRow.stored hh i u).1⟩
    · exact ⟨n0, xs, h1, .inr ⟨g', cap, cur, e, hb', (Below.heap_setCell _ _ _ _ (fun e => q e)).trans hg, rest⟩⟩
theorem Row.at {W : World} {va : Option Addr} {k c i : Nat} (h : Row W va k c) (hi : i < k) : ∃ g z, va = some ⟨g, 0, none⟩ ∧ W.cell? ⟨g, i, none⟩ = some z ∧ W.frozen? ⟨g, i, none⟩ = false := by
  obtain ⟨n0, xs, h1, h2⟩ := h
  rcases h2 with ⟨e, h0⟩ | ⟨g', cap, cur, e, hb', hg, rest⟩
  · omega
  · have hh : W.ownsRow n0 9 1 (.slice va k c) k xs := ⟨h1, .inr ⟨g', cap, cur, e, hb', hg, rest⟩⟩
    have e' := e
    injection e' with e1 e2 e3
    subst e1 e3
    exact ⟨g', xs[i]'(by omega), rfl, (World.ownsRow.cellAt hh i (by omega)).trans (List.getElem?_eq_getElem (by omega)), World.ownsRow.frozenAt hh i⟩
theorem R2.set1 {W : World} {b g i : Nat} {u x v : Value} (h : R2 W b u x) (hne : g ≠ b) : R2 (W.setCell ⟨g, i, none⟩ v) b u x := ⟨setO h.c0 (ne_blk hne), setO h.c1 (ne_blk hne), setF h.f0, setF h.f1⟩
theorem Txs.set1 {W : World} {b i : Nat} {ao : Option Addr} {k c : Nat} {l : List It} {u : Value} (h : Txs W ao k c l) (hne : 0 < k → ∀ a, ao = some a → a.block ≠ b) : Txs (W.setCell ⟨b, i, none⟩ u) ao k c l := by
  by_cases hz : l = []
  · subst hz
    exact h.empty
  · have hk : 0 < k := by rw [← h.hlen]; exact List.length_pos_iff.2 hz
    exact h.set (hne hk)
/-- All that is known while the rows are overwritten. -/
structure OwI (s : Sn) (w0 : World) (m : Int) (ys : List It) (k Br Bz Ba Bb Bc : Nat) (ra za va vb vd : Option Addr) (rc zc : Nat) (am bm dm : Int) (ka kb kd ca cb cd : Nat) (W : World) : Prop where
  d : Wd s w0 W
  r : Rv W Br m ra k rc ys
  z : Rv W Bz m za k zc ys
  a : R2 W Ba (.int .i64 am) (.slice va ka ca)
  b : R2 W Bb (.int .i64 bm) (.slice vb kb cb)
  c : R2 W Bc (.int .i64 dm) (.slice vd kd cd)
  xa : Row W va ka ca
  xb : Row W vb kb cb
  xc : Row W vd kd cd
/-- A block that no variable, and neither ring's row, lies in. -/
def Free (w0 : World) (k Br Bz Ba Bb Bc : Nat) (ra za : Option Addr) (g : Nat) : Prop :=
  w0.heap.size ≤ g ∧ g ≠ Br ∧ g ≠ Bz ∧ g ≠ Ba ∧ g ≠ Bb ∧ g ≠ Bc ∧ (0 < k → ∀ a, ra = some a → a.block ≠ g) ∧ (0 < k → ∀ a, za = some a → a.block ≠ g)
theorem OwI.set {s : Sn} {w0 : World} {m : Int} {ys : List It} {k Br Bz Ba Bb Bc : Nat} {ra za va vb vd : Option Addr} {rc zc : Nat} {am bm dm : Int} {ka kb kd ca cb cd : Nat} {W : World} {g : Nat} (h : OwI s w0 m ys k Br Bz Ba Bb Bc ra za va vb vd rc zc am bm dm ka kb kd ca cb cd W) (h0 : Sent s w0) (hf : Free w0 k Br Bz Ba Bb Bc ra za g) (i : Nat) (u : Value) : OwI s w0 m ys k Br Bz Ba Bb Bc ra za va vb vd rc zc am bm dm ka kb kd ca cb cd (W.setCell ⟨g, i, none⟩ u) := by
  obtain ⟨f0, f1, f2, f3, f4, f5, f6, f7⟩ := hf
  have hb := h.d.below.setCell (p := ⟨g, i, none⟩) f0 u
  exact ⟨⟨hb, h0.more hb⟩, ⟨h.r.r.set1 f1, h.r.t.set1 f6⟩, ⟨h.z.r.set1 f2, h.z.t.set1 f7⟩, h.a.set1 f3, h.b.set1 f4, h.c.set1 f5, h.xa.set g i u, h.xb.set g i u, h.xc.set g i u⟩
/-- What is known behind the first call. -/
structure PutI (s : Sn) (w0 : World) (m : Int) (ys : List It) (k Br Bz Ba : Nat) (ra za va : Option Addr) (rc zc : Nat) (am : Int) (ka ca n3 : Nat) (W : World) : Prop where
  d : Wd s w0 W
  r : Rv W Br m ra k rc ys
  z : Rv W Bz m za k zc ys
  a : R2 W Ba (.int .i64 am) (.slice va ka ca)
  xa : Row W va ka ca
  wi : ∀ g, va = some g → n3 ≤ g.block ∧ g.block < W.heap.size ∧ g.block ≠ Ba
  ge : n3 ≤ Ba
  sz : n3 ≤ W.heap.size
theorem PutI.late {s : Sn} {w0 : World} {m : Int} {ys : List It} {k Br Bz : Nat} {ra za va : Option Addr} {rc zc : Nat} {am : Int} {ka ca : Nat} {al : List It} {W3 w9 : World} (hd : Wd s w0 W3) (hr : Rv W3 Br m ra k rc ys) (hz : Rv W3 Bz m za k zc ys) (ho : OwnT W3.drew.heap.size w9 (.slice va ka ca) al) (hk : al.length = ka) (hb : Below W3.drew.heap.size W3.drew w9) :
    PutI s w0 m ys k Br Bz w9.heap.size ra za va rc zc am ka ca W3.heap.size (w9.alloc (.cells #[.int .i64 am, .slice va ka ca] 24)) := by
  have hD : Below W3.heap.size W3 W3.drew := (Below.refl _ W3).drew
  have hN := Below.new w9 (.cells #[.int .i64 am, .slice va ka ca] 24)
  have b := below_more (below_more hD hb) hN
  have hz0 : W3.drew.heap.size = W3.heap.size := rfl
  refine ⟨hd.more b, hr.more b, hz.more b, R2.new _ _ _ _, (Row.of ho hk).more hN, fun g e => ?_, ?_, b.size⟩
  · have := ho.within g e
    exact ⟨by omega, by simp; omega, by omega⟩
  · have := hb.size
    omega
theorem PutI.early {s : Sn} {w0 : World} {m : Int} {ys : List It} {k Br Bz : Nat} {ra za va : Option Addr} {rc zc : Nat} {am : Int} {ka ca : Nat} {al : List It} {W3 w9 : World} (h0 : Sent s w0) (hd : Wd s w0 W3) (hr : Rv W3 Br m ra k rc ys) (hz : Rv W3 Bz m za k zc ys) (ho : OwnT ((W3.alloc (.cells #[.int .i64 0, .slice none 0 0] 24)).drew).heap.size w9 (.slice va ka ca) al) (hk : al.length = ka) (hb : Below ((W3.alloc (.cells #[.int .i64 0, .slice none 0 0] 24)).drew).heap.size ((W3.alloc (.cells #[.int .i64 0, .slice none 0 0] 24)).drew) w9) :
    PutI s w0 m ys k Br Bz W3.heap.size ra za va rc zc am ka ca W3.heap.size ((w9.setCell ⟨W3.heap.size, 0, none⟩ (.int .i64 am)).setCell ⟨W3.heap.size, 1, none⟩ (.slice va ka ca)) := by
  have hN := Below.new W3 (.cells #[.int .i64 0, .slice none 0 0] 24)
  have hD : Below (W3.alloc (.cells #[.int .i64 0, .slice none 0 0] 24)).heap.size (W3.alloc (.cells #[.int .i64 0, .slice none 0 0] 24)) ((W3.alloc (.cells #[.int .i64 0, .slice none 0 0] 24)).drew) := (Below.refl _ _).drew
  have b := below_more (below_more hN hD) hb
  have hz0 : ((W3.alloc (.cells #[.int .i64 0, .slice none 0 0] 24)).drew).heap.size = W3.heap.size + 1 := by simp [World.drew]
  rw [hz0] at ho
  have r9 := (R2.new W3 (.int .i64 0) (.slice none 0 0) 24).more (below_more hD hb)
  have hle := hd.below.size
  have hrl := hr.r.lt
  have hzl := hz.r.lt
  have hrt := hr.t.below
  have hzt := hz.t.below
  have hb2 := set2B (below_more hd.below b) hle (.int .i64 am) (.slice va ka ca)
  have hsz := b.size
  refine ⟨⟨hb2, h0.more hb2⟩, ⟨(hr.more b).r.other (by omega), (hr.more b).t.set2 (fun hp a e q => by have := hrt hp a e; omega)⟩, ⟨(hz.more b).r.other (by omega), (hz.more b).t.set2 (fun hp a e q => by have := hzt hp a e; omega)⟩, r9.set _ _, ((Row.of ho hk).set _ _ _).set _ _ _, fun g e => ?_, Nat.le_refl _, by simp [World.setCell]; omega⟩
  have := ho.within g e
  exact ⟨by omega, by simp [World.setCell]; omega, by omega⟩

set_option maxRecDepth 100000 in
set_option maxHeartbeats 8000000 in
theorem own_walk (s : Sn) (m : Int) (ao : Option Addr) (len cap : Nat) (zs : List It) (x : It) (hx : x.length ≤ 9223372036854775807) (w : World) (hL : Txs w ao len cap zs) (hs : Sent s w) :
    Calls Tryd.prog 7 #[.agg #[.int .i64 m, .slice ao len cap], .string (bs x)] w (TruePost w) := by
  have R := Rv.new w m ao len cap zs hL
  have hN := Below.new w (.cells #[.int .i64 m, .slice ao len cap] 24)
  have D := (Wd.of hs).more hN
  obtain ⟨W0, hW0⟩ : ∃ W0, w.alloc (.cells #[.int .i64 m, .slice ao len cap] 24) = W0 := ⟨_, rfl⟩
  rw [hW0] at R hN D
  have R := Lib.hid R
  have D := Lib.hid D
  have S0 := Lib.hid hs
  obtain ⟨ys, hys⟩ : ∃ ys, fewI zs = ys := ⟨_, rfl⟩
  have hyl := fewI_length zs
  have hyt := fewI_takes zs
  rw [hys] at hyl hyt
  obtain ⟨k, hk⟩ : ∃ k, ys.length = k := ⟨_, rfl⟩
  have hk40 : k ≤ 40 := hk ▸ hyl
  have HY := Lib.hid (And.intro hys hk)
  clear hL hs hN hys hk hyl
  obtain ⟨y, hy⟩ : ∃ y, x.take 210 = y := ⟨_, rfl⟩
  have hy210 : y.length ≤ 210 := by rw [← hy, List.length_take]; omega
  have HC := Lib.hid (fun W => hy ▸ cut_any x hx W)
  clear hy
  go_enter Tryd.func7, Tryd.ntmps7
  go_wp2_with (go_at_call 9; refine (shown_any s _ D.out.sent).mono ?_)
  rintro e w1 ⟨rfl, hb⟩
  replace D := Lib.hid (D.out.more hb)
  replace R := Lib.hid (R.out.more hb)
  clear hb
  have c0 := R.out.r.c0
  have c1 := R.out.r.c1
  have hlt := R.out.r.lt
  go_wp2_with (go_at_call 10; refine (Few_p HY.out.1 HY.out.2 R.out.t).mono ?_)
  rintro e w2 ⟨va2, vc2, rfl, ⟨ht, ho⟩, hb⟩
  clear c0 c1
  replace D := Lib.hid (D.out.more hb)
  replace R := Lib.hid (R.out.more hb)
  have R' := Rv.set (m := m) R.out.r ht (ho.apart hlt)
  have D' := D.out.set S0.out (b := w.heap.size) (Nat.le_refl _) (.int .i64 m) (.slice va2 k vc2)
  obtain ⟨c0, c1, f0, f1⟩ := R.out.r
  obtain ⟨W2, hW2⟩ : ∃ W2, ((w2.setCell ⟨w.heap.size, 0, none⟩ (.int .i64 m)).setCell ⟨w.heap.size, 1, none⟩ (.slice va2 k vc2)) = W2 := ⟨_, rfl⟩
  rw [hW2] at R' D'
  replace R := Lib.hid R'
  replace D := Lib.hid D'
  clear ht ho hb hlt R' D'
  have HY2 := Lib.hid (And.intro (show fewI ys = ys by rw [← HY.out.1]; exact fewI_few zs) HY.out.2)
  have Rc0 := R.out.r.c0
  have Rc1 := R.out.r.c1
  go_wp2_with (go_at_call 10; refine (Few_p HY2.out.1 HY2.out.2 R.out.t).mono ?_)
  rintro e w3 ⟨va3, vc3, rfl, ⟨ht3, ho3⟩, hb3⟩
  clear c0 c1 f0 f1 Rc0 Rc1
  have hN3 := Below.new w3 (.cells #[.int .i64 m, .slice va3 k vc3] 24)
  have b3 := below_more hb3 hN3
  have Z := Rv.new w3 m va3 k vc3 ys ht3
  obtain ⟨W3, hW3⟩ : ∃ W3, w3.alloc (.cells #[.int .i64 m, .slice va3 k vc3] 24) = W3 := ⟨_, rfl⟩
  rw [hW3] at b3 Z
  have Z := Lib.hid Z
  replace D := Lib.hid (D.out.more b3)
  replace R := Lib.hid (R.out.more b3)
  clear ht3 ho3 hb3 hN3 b3
  obtain ⟨am, ham⟩ : ∃ v, putM m ys y = v := ⟨_, rfl⟩
  obtain ⟨al, hal⟩ : ∃ v, putL m ys y = v := ⟨_, rfl⟩
  obtain ⟨ec, hec⟩ : ∃ v, errN (putE m ys y) = v := ⟨_, rfl⟩
  obtain ⟨ak, hak⟩ : ∃ v, al.length = v := ⟨_, rfl⟩
  obtain ⟨px, hpx⟩ : ∃ v, takeX m ys = v := ⟨_, rfl⟩
  obtain ⟨bm, hbm⟩ : ∃ v, takeM m ys = v := ⟨_, rfl⟩
  obtain ⟨bl, hbl⟩ : ∃ v, takeL m ys = v := ⟨_, rfl⟩
  obtain ⟨fc, hfc⟩ : ∃ v, errN (takeE m ys) = v := ⟨_, rfl⟩
  obtain ⟨bk, hbk⟩ : ∃ v, bl.length = v := ⟨_, rfl⟩
  obtain ⟨dm, hdm⟩ : ∃ v, allM m ys = v := ⟨_, rfl⟩
  obtain ⟨dl, hdl⟩ : ∃ v, allL m ys [] = v := ⟨_, rfl⟩
  obtain ⟨dn, hdn⟩ : ∃ v, allN m ys [] = v := ⟨_, rfl⟩
  obtain ⟨gc, hgc⟩ : ∃ v, errN (allE m ys) = v := ⟨_, rfl⟩
  obtain ⟨dk, hdk⟩ : ∃ v, dl.length = v := ⟨_, rfl⟩
  have t2 := putL_len m ys y
  rw [hal] at t2
  have t3 := takeL_len m ys
  rw [hbl] at t3
  have t4 := allL_nil_len m ys
  rw [hdl] at t4
  have hkk := HY.out.2
  have a1 : ak ≤ 41 := by omega
  have a2 : bk ≤ 41 := by omega
  have a3 : dk ≤ 41 := by omega
  have o1 : ¬ ec = 0 → ak = 0 := fun h => by rw [← hak, ← hal]; exact put_none (by rw [hec]; exact h)
  have o2 : ¬ fc = 0 → bk = 0 := fun h => by rw [← hbk, ← hbl]; exact take_none' (by rw [hfc]; exact h)
  have o3 : ¬ gc = 0 → dk = 0 := fun h => by rw [← hdk, ← hdl]; exact all_none (by rw [hgc]; exact h)
  have HO := Lib.hid (And.intro o1 (And.intro o2 o3))
  have a7 : k ≤ 1000000 := by omega
  have a8 : takes ys ≤ 1000000 := by omega
  have a9 : y.length ≤ 900000 := by omega
  have HW := Lib.hid (And.intro ham (And.intro hal (And.intro hec hak)))
  have HV := Lib.hid (And.intro hpx (And.intro hbm (And.intro hbl (And.intro hfc hbk))))
  have HU := Lib.hid (And.intro hdm (And.intro hdl (And.intro hdn (And.intro hgc hdk))))
  clear t2 t3 t4 hkk ham hal hec hak hpx hbm hbl hfc hbk hdm hdl hdn hgc hdk o1 o2 o3
  have c0 := R.out.r.c0
  have c1 := R.out.r.c1
  have d0 : ∀ o, (W3.alloc o).cell? ⟨w.heap.size, 0, none⟩ = _ := fun o => cell_later (Below.new W3 o) c0
  have d1 : ∀ o, (W3.alloc o).cell? ⟨w.heap.size, 1, none⟩ = _ := fun o => cell_later (Below.new W3 o) c1
  have HPl := Lib.hid (Put_q (w := W3.drew) a9 a7 a8 HW.out.1 HW.out.2.1 HW.out.2.2.1 HW.out.2.2.2 (R.out.more (Below.refl _ _).drew).t (D.out.more (Below.refl _ _).drew).sent)
  have HPa := Lib.hid (Put_q (w := (W3.alloc (.cells #[.int .i64 0, .slice none 0 0] 24)).drew) a9 a7 a8 HW.out.1 HW.out.2.1 HW.out.2.2.1 HW.out.2.2.2 (R.out.more (Below.new _ _).drew).t (D.out.more (Below.new _ _).drew).sent)
  have hz9 : (W3.alloc (.cells #[.int .i64 0, .slice none 0 0] 24)).drew.heap.size = W3.heap.size + 1 := by simp [World.drew]
  have HQ9 := Lib.hid (fun w9 (hb : Below ((W3.alloc (.cells #[.int .i64 0, .slice none 0 0] 24)).drew).heap.size ((W3.alloc (.cells #[.int .i64 0, .slice none 0 0] 24)).drew) w9) => (R2.new W3 (.int .i64 0) (.slice none 0 0) 24).more (below_more ((Below.refl _ (W3.alloc (.cells #[.int .i64 0, .slice none 0 0] 24))).drew) hb))
  clear hz9
  go_upto_region 4 with fail
  go_cut [7, 8] from 23 to 29 (fun p e wx => ∃ (Ba : Nat) (va : Option Addr) (ca : Nat), p = .pointer (some ⟨Ba, 0, none⟩) ∧ e = .int .i64 ec ∧ Hid (PutI s w m ys k w.heap.size w3.heap.size Ba va2 va3 va vc2 vc3 am ak ca W3.heap.size wx))
  case first =>
    go_region_with (first | (go_at_call 14; refine (HC.out _).mono ?_; rintro e w' ⟨rfl, rfl⟩) | (go_at_call 13; (with_reducible refine HPa.out.mono ?_); rintro e w9 ⟨va9, vc9, rfl, ⟨ht9, ho9⟩, hb9⟩; obtain ⟨e0, e1, g0, g1⟩ := HQ9.out _ hb9) | (go_at_call 13; (with_reducible refine HPl.out.mono ?_); rintro e w9 ⟨va9, vc9, rfl, ⟨ht9, ho9⟩, hb9⟩))
    all_goals go_wp2_with fail
    all_goals go_meet
    all_goals first | exact ⟨_, _, _, rfl, rfl, PutI.late D.out R.out Z.out ho9 HW.out.2.2.2 hb9⟩ | exact ⟨_, _, _, rfl, rfl, PutI.early S0.out D.out R.out Z.out ho9 HW.out.2.2.2 hb9⟩
  case rest =>
    obtain ⟨Ba, va, ca, rfl, rfl, HA⟩ := hcut
    clear c0 c1 d0 d1 HPl HPa HQ9 D
    have D := Lib.hid HA.out.d
    have hrl := R.out.r.lt
    have hzl := Z.out.r.lt
    have hrt := Lib.hid R.out.t.below
    have hzt := Lib.hid Z.out.t.below
    have hw3 : w.heap.size ≤ W3.heap.size := by omega
    replace R := Lib.hid HA.out.r
    replace Z := Lib.hid HA.out.z
    have A := Lib.hid (And.intro HA.out.a HA.out.xa)
    have hA1 := HA.out.a.lt
    have hA2 := HA.out.ge
    have hA3 := HA.out.sz
    have hAw := Lib.hid HA.out.wi
    clear HA
    have Rc0 := R.out.r.c0
    have Rc1 := R.out.r.c1
    go_wp2_with (go_at_call 16; refine (Take_q a7 a8 HV.out.1 HV.out.2.1 HV.out.2.2.1 HV.out.2.2.2.1 HV.out.2.2.2.2 R.out.t D.out.sent).mono ?_)
    rintro e w4 ⟨va4, vc4, rfl, ⟨ht, ho⟩, hb⟩
    clear Rc0 Rc1
    have hw4 := Lib.hid ho.within
    have hs4 := hb.size
    have hN := Below.new w4 (.cells #[.int .i64 bm, .slice va4 bk vc4] 24)
    have b := below_more hb hN
    have B := And.intro (R2.new w4 (.int .i64 bm) (.slice va4 bk vc4) 24) ((Row.of ho HV.out.2.2.2.2).more hN)
    have hS4 : (w4.alloc (.cells #[.int .i64 bm, .slice va4 bk vc4] 24)).heap.size = w4.heap.size + 1 := by simp
    obtain ⟨W4, hW4⟩ : ∃ W4, w4.alloc (.cells #[.int .i64 bm, .slice va4 bk vc4] 24) = W4 := ⟨_, rfl⟩
    rw [hW4] at b B hS4
    have B := Lib.hid B
    replace D := Lib.hid (D.out.more b)
    replace R := Lib.hid (R.out.more b)
    replace Z := Lib.hid (Z.out.more b)
    replace A := Lib.hid (And.intro (A.out.1.more b) (A.out.2.more b))
    clear ht ho hb hN b
    have Rc0 := R.out.r.c0
    have Rc1 := R.out.r.c1
    go_wp2_with (go_at_call 24; refine (All_q a7 a8 (by omega) (by simp [takes]) HU.out.1 HU.out.2.1 HU.out.2.2.1 HU.out.2.2.2.1 HU.out.2.2.2.2 R.out.t (Txs.nil _) D.out.sent).mono ?_)
    rintro e w5 ⟨va5, vc5, rfl, ⟨ht, ho⟩, hb⟩
    clear Rc0 Rc1
    have hw5 := Lib.hid ho.within
    have hs5 := hb.size
    have hN := Below.new w5 (.cells #[.int .i64 dm, .slice va5 dk vc5] 24)
    have b := below_more hb hN
    have C := And.intro (R2.new w5 (.int .i64 dm) (.slice va5 dk vc5) 24) ((Row.of ho HU.out.2.2.2.2).more hN)
    have hS5 : (w5.alloc (.cells #[.int .i64 dm, .slice va5 dk vc5] 24)).heap.size = w5.heap.size + 1 := by simp
    obtain ⟨W5, hW5⟩ : ∃ W5, w5.alloc (.cells #[.int .i64 dm, .slice va5 dk vc5] 24) = W5 := ⟨_, rfl⟩
    rw [hW5] at b C hS5
    have C := Lib.hid C
    replace D := Lib.hid (D.out.more b)
    replace R := Lib.hid (R.out.more b)
    replace Z := Lib.hid (Z.out.more b)
    replace A := Lib.hid (And.intro (A.out.1.more b) (A.out.2.more b))
    replace B := Lib.hid (And.intro (B.out.1.more b) (B.out.2.more b))
    clear ht ho hb hN b
    have O := Lib.hid (show OwI s w m ys k w.heap.size w3.heap.size Ba w4.heap.size w5.heap.size va2 va3 va va4 va5 vc2 vc3 am bm dm ak bk dk ca vc4 vc5 W5 from ⟨D.out, R.out, Z.out, A.out.1, B.out.1, C.out.1, A.out.2, B.out.2, C.out.2⟩)
    have Fa := Lib.hid (show ∀ g, va = some g → Free w k w.heap.size w3.heap.size Ba w4.heap.size w5.heap.size va2 va3 g.block from fun g e => by
      have f0 := hAw.out g e
      exact ⟨by omega, by omega, by omega, by omega, by omega, by omega, fun hp a ea q => by have := hrt.out hp a ea; omega, fun hp a ea q => by have := hzt.out hp a ea; omega⟩)
    have Fb := Lib.hid (show ∀ g, va4 = some g → Free w k w.heap.size w3.heap.size Ba w4.heap.size w5.heap.size va2 va3 g.block from fun g e => by
      have f0 := hw4.out g e
      exact ⟨by omega, by omega, by omega, by omega, by omega, by omega, fun hp a ea q => by have := hrt.out hp a ea; omega, fun hp a ea q => by have := hzt.out hp a ea; omega⟩)
    have Fc := Lib.hid (show ∀ g, va5 = some g → Free w k w.heap.size w3.heap.size Ba w4.heap.size w5.heap.size va2 va3 g.block from fun g e => by
      have f0 := hw5.out g e
      exact ⟨by omega, by omega, by omega, by omega, by omega, by omega, fun hp a ea q => by have := hrt.out hp a ea; omega, fun hp a ea q => by have := hzt.out hp a ea; omega⟩)
    clear A B C D R Z hAw hrt hzt
    have q0 := O.out.a.c1
    go_wp2
    clear q0
    go_loopw [15] (fun v wr => ∃ j : Nat, j ≤ ak ∧ v = .int .i64 j ∧ Hid (OwI s w m ys k w.heap.size w3.heap.size Ba w4.heap.size w5.heap.size va2 va3 va va4 va5 vc2 vc3 am bm dm ak bk dk ca vc4 vc5 wr)) (fun v _ => ak - (intOf v).toNat)
    case atStart => exact ⟨0, Nat.zero_le _, rfl, O.out⟩
    case round =>
      obtain ⟨j, hj, rfl, HO1⟩ := hrel
      clear O
      have O := HO1
      clear HO1
      by_cases hlt : j < ak
      · obtain ⟨g, z, e, h1, h2⟩ := O.out.xa.at hlt
        have HF := Lib.hid (Fa.out _ e)
        have q0 := O.out.a.c1
        rw [e] at q0
        have hd1 : decide ((j : Int) < (ak : Int)) = true := decide_eq_true (by omega)
        have HN := Lib.hid (O.out.set S0.out HF.out j (.string { data := #[111, 116, 104, 101, 114] }))
        clear e
        go_wp2
        go_roundw
        case rel => exact ⟨j + 1, by omega, by simp, HN.out⟩
        case measure => simp [intOf]; omega
      · obtain rfl : j = ak := by omega
        have hd1 : decide ((j : Int) < (j : Int)) = false := decide_eq_false (by omega)
        have q0 := O.out.a.c1
        go_wp2
        clear q0
        go_loopw [16] (fun v wr => ∃ i : Nat, i ≤ bk ∧ v = .int .i64 i ∧ Hid (OwI s w m ys k w.heap.size w3.heap.size Ba w4.heap.size w5.heap.size va2 va3 va va4 va5 vc2 vc3 am bm dm j bk dk ca vc4 vc5 wr)) (fun v _ => bk - (intOf v).toNat)
        case atStart => exact ⟨0, Nat.zero_le _, rfl, O.out⟩
        case round =>
          obtain ⟨i16, hi16, rfl, HO1⟩ := hrel
          clear O
          have O := HO1
          clear HO1
          by_cases hlt : i16 < bk
          · obtain ⟨g, z, e, h1, h2⟩ := O.out.xb.at hlt
            have HF := Lib.hid (Fb.out _ e)
            have q0 := O.out.b.c1
            rw [e] at q0
            have hd1 : decide ((i16 : Int) < (bk : Int)) = true := decide_eq_true (by omega)
            have HN := Lib.hid (O.out.set S0.out HF.out i16 (.string { data := #[111, 116, 104, 101, 114] }))
            clear e
            go_wp2
            go_roundw
            case rel => exact ⟨i16 + 1, by omega, by simp, HN.out⟩
            case measure => simp [intOf]; omega
          · obtain rfl : i16 = bk := by omega
            have hd1 : decide ((i16 : Int) < (i16 : Int)) = false := decide_eq_false (by omega)
            have q0 := O.out.b.c1
            go_wp2
            clear q0
            go_loopw [17] (fun v wr => ∃ i : Nat, i ≤ dk ∧ v = .int .i64 i ∧ Hid (OwI s w m ys k w.heap.size w3.heap.size Ba w4.heap.size w5.heap.size va2 va3 va va4 va5 vc2 vc3 am bm dm j i16 dk ca vc4 vc5 wr)) (fun v _ => dk - (intOf v).toNat)
            case atStart => exact ⟨0, Nat.zero_le _, rfl, O.out⟩
            case round =>
              obtain ⟨i17, hi17, rfl, HO1⟩ := hrel
              clear O
              have O := HO1
              clear HO1
              by_cases hlt : i17 < dk
              · obtain ⟨g, z, e, h1, h2⟩ := O.out.xc.at hlt
                have HF := Lib.hid (Fc.out _ e)
                have q0 := O.out.c.c1
                rw [e] at q0
                have hd1 : decide ((i17 : Int) < (dk : Int)) = true := decide_eq_true (by omega)
                have HN := Lib.hid (O.out.set S0.out HF.out i17 (.string { data := #[111, 116, 104, 101, 114] }))
                clear e
                go_wp2
                go_roundw
                case rel => exact ⟨i17 + 1, by omega, by simp, HN.out⟩
                case measure => simp [intOf]; omega
              · obtain rfl : i17 = dk := by omega
                have hd1 : decide ((i17 : Int) < (i17 : Int)) = false := decide_eq_false (by omega)
                have q9 := O.out.c.c1
                have q0 := O.out.r.r.c0
                have q1 := O.out.r.r.c1
                have q2 := O.out.z.r.c0
                have q3 := O.out.z.r.c1
                have HSm := Lib.hid (show sameR m ys m ys = true from sameR_iff.2 ⟨rfl, rfl⟩)
                go_wp2_with (go_at_call 18; refine (RSame_p a7 a7 HSm.out O.out.r.t O.out.z.t).mono ?_)
                rintro e w99 ⟨rfl, hb⟩
                have p0 := (O.out.a.more hb).c1
                have p1 := (O.out.b.more hb).c1
                have p2 := (O.out.c.more hb).c1
                have HD := Lib.hid (O.out.d.more hb)
                clear hb q0 q1 q2 q3
                obtain ⟨o1, o2, o3⟩ := HO.out
                by_cases h1 : ec = 0 <;> by_cases h2 : fc = 0 <;> by_cases h3 : gc = 0
                all_goals
                  have bh1 : (ec == 0) = decide (ec = 0) := by by_cases q : ec = 0 <;> simp [q]
                  have kh1 : ¬ ec = 0 → (((j : Nat) : Int) == 0) = true := fun h => by rw [o1 h]; rfl
                  have bh2 : (fc == 0) = decide (fc = 0) := by by_cases q : fc = 0 <;> simp [q]
                  have kh2 : ¬ fc = 0 → (((i16 : Nat) : Int) == 0) = true := fun h => by rw [o2 h]; rfl
                  have bh3 : (gc == 0) = decide (gc = 0) := by by_cases q : gc = 0 <;> simp [q]
                  have kh3 : ¬ gc = 0 → (((i17 : Nat) : Int) == 0) = true := fun h => by rw [o3 h]; rfl
                  simp only [h1, h2, h3, decide_true, decide_false, not_true, not_false_eq_true, true_implies, false_implies] at bh1 bh2 bh3 kh1 kh2 kh3
                  clear o1 o2 o3
                  go_wp2
                  go_ret
                  exact ⟨rfl, HD.out.below⟩

end Go.Proofs.YtbdhagilmdmpdaaDoor
