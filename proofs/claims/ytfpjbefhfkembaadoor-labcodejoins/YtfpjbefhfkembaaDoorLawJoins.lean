/- LabcodeJoins, walked: for every two lists of labels it returns true. -/
import Derived.Test.YtfpjbefhfkembaaDoorLawLists
import Derived.Laws.AppendOwnNone
namespace Go.Proofs.YtfpjbefhfkembaaDoor
open Go.RowKit Go.Shelf Go.Proofs.Fld Go.Proofs.Cats Go.Proofs.Lcd

attribute [local go_sem] bs_toList

/-- What such an append leaves. -/
def AppQ (base e size : Nat) (v : Value) (w : World) (v' : Value) (n : Nat) (xs : List Value) (w' : World) : Prop := w'.ownsRow base e size v' n xs ∧ w.grownBy w' v.ownBlock
/-- append(buf, xs...) where buf is the call's own, and xs came in: nil or not. -/
theorem wpList_append_some {P : Program} (w : World) {ops : Array Oper} {rest : List Oper} {o : Oper} {a : Act} {Q : Exit → Act → World → Prop} (hgd : o.guard = none) (sl x : Operand) (t : TypeId)
    (ho : o.op = .call { callee := .builtin .append, args := #[sl, x], argTypes := #[t, t] })
    (base : Nat) (e : TypeId) (i : TypeInfo) (z : Value) (size bytes : Nat) (ht : P.underlying t = some (.slice e)) (hi : P.info? e = some i) (hz : i.zero = some z)
    (hsize : i.size = size) (hby : i.bytes = bytes) (hzs : z.cells.size = size) (hsz : 0 < size)
    (v : Value) (n : Nat) (xs : List Value) (hs : a.eval sl = v) (hown : w.ownsRow base e size v n xs)
    (ao : Option Addr) (m c : Nat) (news : List Value) (hx : a.eval x = .slice ao m c) (hl : news.length = m * size) (hnone : ao = none → m = 0 ∧ c = 0) (hnews : ∀ ad, ao = some ad → ∀ j u, news[j]? = some u → w.cell? (ad.add j) = some u) (h1 : ∀ u ∈ news, u.oneCell' = true)
    (h63 : n + m ≤ maxLen) (hbytes : (n + m) * bytes ≤ 140737488355328) (hbase : base ≤ w.heap.size)
    (h : ∀ v' w', AppQ base e size v w v' (n + m) (xs ++ news) w' → wpList P ops Q rest (a.put o.dst v') w') : wpList P ops Q (o :: rest) a w := by
  cases ao with
  | none =>
    obtain ⟨rfl, rfl⟩ := hnone rfl
    have hn : news = [] := List.eq_nil_of_length_eq_zero (by rw [hl]; omega)
    subst hn
    exact wpList_append_own_none hgd sl x t ho base e i size ht hi v n xs hs hown hx (h v w ⟨by rw [List.append_nil]; exact hown, World.grownBy.refl w _⟩)
  | some ad => exact wpList_append_own w hgd sl x t ho base e i z size bytes ht hi hz hsize hby hzs hsz v n xs hs hown ad m c news hx hl (hnews ad rfl) h1 h63 hbytes hbase (fun v' w' h2 h3 _ => h v' w' ⟨h2, h3⟩)
theorem labs_news {n₀ : Nat} {W : World} {ao : Option Addr} {len cap : Nat} {zs : List Lab} (h : Lb.Labs n₀ W (.slice ao len cap) zs) : ∀ ad, ao = some ad → ∀ j u, (labCells zs)[j]? = some u → W.cell? (ad.add j) = some u := by
  obtain ⟨ao', cp, e, hk⟩ := h
  obtain ⟨rfl, _, _⟩ := Value.slice.inj e
  intro ad had j u hu
  have hz : zs ≠ [] := fun h0 => by rw [h0] at hu; simp [labCells] at hu
  obtain ⟨b, off, hao, _, hc⟩ := hk hz
  rw [had] at hao
  obtain rfl := Option.some.inj hao
  exact labs_cells hc j u hu

set_option maxRecDepth 100000 in
set_option maxHeartbeats 4000000 in
theorem joins_a (s : Sn) (t : SnL) (a : Option Addr) (len cap : Nat) (zs : List Lab) (b : Option Addr) (len2 cap2 : Nat) (xs : List Lab) (h1 : (zs.take 30).all Lab.right = true) (h2 : (xs.take 30).all Lab.right = true) (w : World) (hI : LabsIn w a len cap zs) (hJ : LabsIn w b len2 cap2 xs) (hs : SentL s t w) :
    Calls Tryd.prog 8 #[.slice a len cap, .slice b len2 cap2] w fun e w' => e = .returned (.bool true) ∧ Below w.heap.size w w' := by
  have HS := Lib.hid hs
  obtain ⟨i0, hi, hz0, hz1, hz2⟩ := info_parts infoLab
  obtain ⟨hI1, hlen, hlc, hcm, hnil⟩ := hI
  obtain ⟨hJ1, hlen2, hlc2, hcm2, hnil2⟩ := hJ
  obtain ⟨ys, hys⟩ : ∃ ys, zs.take 30 = ys := ⟨_, rfl⟩
  obtain ⟨us, hus⟩ : ∃ us, xs.take 30 = us := ⟨_, rfl⟩
  have hyl : ys.length = min len 30 := by rw [← hys, List.length_take, hlen, Nat.min_comm]
  have hul : us.length = min len2 30 := by rw [← hus, List.length_take, hlen2, Nat.min_comm]
  have hm : min (len : Int) 30 = (ys.length : Int) := by omega
  have hm2 : min (len2 : Int) 30 = (us.length : Int) := by omega
  have hyc : ys.length ≤ cap := by omega
  have huc : us.length ≤ cap2 := by omega
  have hy30 : ys.length ≤ 30 := by omega
  have hu30 : us.length ≤ 30 := by omega
  have IL := Lib.hid (show Lb.Labs w.heap.size w (.slice a ys.length cap) ys by rw [hyl, ← hys]; exact labs_take hI1 30)
  have JL := Lib.hid (show Lb.Labs w.heap.size w (.slice b us.length cap2) us by rw [hul, ← hus]; exact labs_take hJ1 30)
  have hvf : ∀ x ∈ ys ++ us, x.fits := fun x hx => by
    rcases List.mem_append.1 hx with h | h
    · exact Lb.Labs.fits IL.out x h
    · exact Lb.Labs.fits JL.out x h
  have hno : a = none → ys.length = 0 ∧ cap = 0 := fun h => by have := hnil h; omega
  have hno2 : b = none → us.length = 0 ∧ cap2 = 0 := fun h => by have := hnil2 h; omega
  have hcm3 : cap ≤ 9223372036854775807 := by unfold maxLen at hcm; omega
  have hcm4 : cap2 ≤ 9223372036854775807 := by unfold maxLen at hcm2; omega
  obtain ⟨vs, hvs⟩ : ∃ vs, ys ++ us = vs := ⟨_, rfl⟩
  have hvl : vs.length ≤ 60 := by rw [← hvs, List.length_append]; omega
  rw [hys] at h1
  rw [hus] at h2
  have HP := Lib.hid (fun w h h2 => PutList_any s t a ys.length cap ys (by omega) w h h2)
  have HP2 := Lib.hid (fun w h h2 => PutList_any s t b us.length cap2 us (by omega) w h h2)
  have HP3 := Lib.hid (fun aa ca w h h2 => PutList_any s t aa vs.length ca vs (by omega) w h h2)
  have hv : vs.all Lab.right = true := by rw [← hvs, List.all_append, h1, h2]; rfl
  have e1 : getListR (listB vs) = (vs, 0) := by obtain ⟨i1, i2⟩ := list_listB vs hv (hvs ▸ hvf); rw [getListR_ok i1, i2]
  have HG := Lib.hid (fun w h => GetList_any s t (listB vs) (by rw [listB_length]; omega) w h)
  have HL := Lib.hid (fun aa ab ca cb w h h2 => labelsA vs (by omega) aa ab ca cb w h h2)
  have hap : bs (listB ys) ++ bs (listB us) = bs (listB vs) := by rw [bs_append, ← hvs, listB_append]
  have z1 : (bs (listB ys)).size ≤ 300 := by rw [bs_size, listB_length]; omega
  have z2 : (bs (listB us)).size ≤ 300 := by rw [bs_size, listB_length]; omega
  have HE := Lib.hid (And.intro (putListR_ok h1) (And.intro (putListR_ok h2) (And.intro (putListR_ok hv) e1)))
  clear h1 h2 hv e1
  have Ih := Lib.hid (Below.refl w.heap.size w)
  have Jh := Lib.hid (Below.refl w.heap.size w)
  have HN := Lib.hid (And.intro (And.intro hno hno2) (And.intro hvs (And.intro hvf (And.intro hy30 hu30))))
  clear hs hI1 hJ1 hlen hlen2 hys hus hyl hul hcm hcm2 hlc hlc2 hy30 hu30 hvf hno hno2 hvs hvl hnil hnil2
  go_enter Tryd.func8, Tryd.ntmps8
  go_wp2_with (go_at_call 9; refine (shownA s t _ HS.out).mono ?_)
  rintro e w1 ⟨he, bk1⟩
  have he2 : e = .returned (.bool true) := by rw [he]
  subst he2
  clear he
  have In := Lib.hid (below_more Ih.out bk1)
  clear Ih
  have Ih := In
  clear In
  have Jn := Lib.hid (below_more Jh.out bk1)
  clear Jh
  have Jh := Jn
  clear Jn
  have hB := bk1
  clear bk1
  go_wp2_with (go_at_call 19; refine (HP.out _ (HS.out.more hB) ((IL.out.below Ih.out).mono Ih.out.size)).mono ?_)
  rintro e w2 ⟨he, bk2⟩
  have he2 : e = .returned (.tuple #[.string (bs (listB ys)), .int .i64 0]) := by rw [he, HE.out.1]
  subst he2
  clear he
  have In := Lib.hid (below_more Ih.out bk2)
  clear Ih
  have Ih := In
  clear In
  have Jn := Lib.hid (below_more Jh.out bk2)
  clear Jh
  have Jh := Jn
  clear Jn
  replace hB := below_more hB bk2
  clear bk2
  go_wp2_with (go_at_call 19; refine (HP2.out _ (HS.out.more hB) ((JL.out.below Jh.out).mono Jh.out.size)).mono ?_)
  rintro e w3 ⟨he, bk3⟩
  have he2 : e = .returned (.tuple #[.string (bs (listB us)), .int .i64 0]) := by rw [he, HE.out.2.1]
  subst he2
  clear he
  have In := Lib.hid (below_more Ih.out bk3)
  clear Ih
  have Ih := In
  clear In
  have Jn := Lib.hid (below_more Jh.out bk3)
  clear Jh
  have Jh := Jn
  clear Jn
  replace hB := below_more hB bk3
  clear bk3
  go_wp2_with (at_builtin; refine wpList_append_some _ rfl _ _ 36 rfl w3.heap.size 24 i0 (.agg #[.int .i64 0, .int .u64 0, .int .i64 0]) 3 24 Tryd.underlying36 hi hz0 hz1 hz2 rfl (by decide) (.slice none 0 0) 0 [] rfl (World.ownsRow_nil _ _ _ _) a ys.length cap (labCells ys) rfl (by rw [labCells_length]) HN.out.1.1 (labs_news (IL.out.below Ih.out)) (labCells_one _) (by have := HN.out.2.2.2; unfold maxLen; omega) (by have := HN.out.2.2.2; omega) (Nat.le_refl _) ?_)
  rintro v1 wA ⟨hown0, hgrow1⟩
  have hown1 : wA.ownsRow w3.heap.size 24 3 v1 ys.length (labCells ys) := by simpa using hown0
  clear hown0
  have bA : Below w3.heap.size w3 wA := (Below.refl _ _).grown hgrow1 (Nat.le_refl _) (fun k e => by cases e)
  have bAs := bA.size
  obtain ⟨v1a, v1c, rfl⟩ := rowG_slice hown1
  go_wp2_with (at_builtin; refine wpList_append_some _ rfl _ _ 36 rfl w3.heap.size 24 i0 (.agg #[.int .i64 0, .int .u64 0, .int .i64 0]) 3 24 Tryd.underlying36 hi hz0 hz1 hz2 rfl (by decide) (.slice v1a ys.length v1c) ys.length (labCells ys) rfl hown1 b us.length cap2 (labCells us) rfl (by rw [labCells_length]) HN.out.1.2 (labs_news (JL.out.below (Jh.out.trans (bA.mono Jh.out.size)))) (labCells_one _) (by have := HN.out.2.2.2; unfold maxLen; omega) (by have := HN.out.2.2.2; omega) bAs ?_)
  rintro v2 wB ⟨hown2, hgrow2⟩
  have bB : Below w3.heap.size w3 wB := bA.grown hgrow2 bAs (fun k e => (hown1.lt k e).1)
  have hrow : wB.ownsRow w3.heap.size 24 3 v2 vs.length (labCells vs) := by
    rw [← HN.out.2.1, labCells_append, List.length_append]
    simpa using hown2
  obtain ⟨va, vc, rfl⟩ := rowG_slice hrow
  have KL := Lib.hid (labs_row hrow (HN.out.2.1 ▸ HN.out.2.2.1))
  clear hown1 hgrow1 hown2 hgrow2 hrow bA bAs
  have In := Lib.hid (below_more Ih.out bB)
  clear Ih
  have Ih := In
  clear In
  have Jn := Lib.hid (below_more Jh.out bB)
  clear Jh
  have Jh := Jn
  clear Jn
  replace hB := below_more hB bB
  clear bB
  have Kh := Lib.hid (Below.refl wB.heap.size wB)
  go_wp2_with (go_at_call 19; refine (HP3.out va vc _ (HS.out.more hB) ((KL.out.below Kh.out).mono Kh.out.size)).mono ?_)
  rintro e w4 ⟨he, bk4⟩
  have he2 : e = .returned (.tuple #[.string (bs (listB vs)), .int .i64 0]) := by rw [he, HE.out.2.2.1]
  subst he2
  clear he
  have In := Lib.hid (below_more Ih.out bk4)
  clear Ih
  have Ih := In
  clear In
  have Jn := Lib.hid (below_more Jh.out bk4)
  clear Jh
  have Jh := Jn
  clear Jn
  have Kn := Lib.hid (below_more Kh.out bk4)
  clear Kh
  have Kh := Kn
  clear Kn
  replace hB := below_more hB bk4
  clear bk4
  go_wp2_with (go_at_call 21; refine (HG.out _ (HS.out.more hB)).mono ?_)
  rintro e w5 ⟨Da, Dc, he, Dl, bk5⟩
  have he2 : e = .returned (.tuple #[.slice Da vs.length Dc, .int .i64 0]) := by rw [he, HE.out.2.2.2]
  subst he2
  clear he
  have DL := Lib.hid Dl
  clear Dl
  have DL2 := DL.out
  rw [HE.out.2.2.2] at DL2
  clear DL
  have DL := Lib.hid DL2
  clear DL2
  have In := Lib.hid (below_more Ih.out bk5)
  clear Ih
  have Ih := In
  clear In
  have Jn := Lib.hid (below_more Jh.out bk5)
  clear Jh
  have Jh := Jn
  clear Jn
  have Kn := Lib.hid (below_more Kh.out bk5)
  clear Kh
  have Kh := Kn
  clear Kn
  replace hB := below_more hB bk5
  clear bk5
  have Dh := Lib.hid (Below.refl w5.heap.size w5)
  go_wp2_with (go_at_call 23; refine (HL.out va Da vc Dc _ ((KL.out.below Kh.out).mono Kh.out.size) ((DL.out.below Dh.out).mono Dh.out.size)).mono ?_)
  rintro e w6 ⟨he, bk6⟩
  have he2 : e = .returned (.bool true) := by rw [he]
  subst he2
  clear he
  have In := Lib.hid (below_more Ih.out bk6)
  clear Ih
  have Ih := In
  clear In
  have Jn := Lib.hid (below_more Jh.out bk6)
  clear Jh
  have Jh := Jn
  clear Jn
  have Kn := Lib.hid (below_more Kh.out bk6)
  clear Kh
  have Kh := Kn
  clear Kn
  have Dn := Lib.hid (below_more Dh.out bk6)
  clear Dh
  have Dh := Dn
  clear Dn
  replace hB := below_more hB bk6
  clear bk6
  go_wp2
  go_ret
  exact ⟨rfl, hB⟩

set_option maxRecDepth 100000 in
set_option maxHeartbeats 4000000 in
theorem joins_b (s : Sn) (t : SnL) (a : Option Addr) (len cap : Nat) (zs : List Lab) (b : Option Addr) (len2 cap2 : Nat) (xs : List Lab) (h1 : (zs.take 30).all Lab.right = true) (h2 : (xs.take 30).all Lab.right = false) (w : World) (hI : LabsIn w a len cap zs) (hJ : LabsIn w b len2 cap2 xs) (hs : SentL s t w) :
    Calls Tryd.prog 8 #[.slice a len cap, .slice b len2 cap2] w fun e w' => e = .returned (.bool true) ∧ Below w.heap.size w w' := by
  have HS := Lib.hid hs
  obtain ⟨i0, hi, hz0, hz1, hz2⟩ := info_parts infoLab
  obtain ⟨hI1, hlen, hlc, hcm, hnil⟩ := hI
  obtain ⟨hJ1, hlen2, hlc2, hcm2, hnil2⟩ := hJ
  obtain ⟨ys, hys⟩ : ∃ ys, zs.take 30 = ys := ⟨_, rfl⟩
  obtain ⟨us, hus⟩ : ∃ us, xs.take 30 = us := ⟨_, rfl⟩
  have hyl : ys.length = min len 30 := by rw [← hys, List.length_take, hlen, Nat.min_comm]
  have hul : us.length = min len2 30 := by rw [← hus, List.length_take, hlen2, Nat.min_comm]
  have hm : min (len : Int) 30 = (ys.length : Int) := by omega
  have hm2 : min (len2 : Int) 30 = (us.length : Int) := by omega
  have hyc : ys.length ≤ cap := by omega
  have huc : us.length ≤ cap2 := by omega
  have hy30 : ys.length ≤ 30 := by omega
  have hu30 : us.length ≤ 30 := by omega
  have IL := Lib.hid (show Lb.Labs w.heap.size w (.slice a ys.length cap) ys by rw [hyl, ← hys]; exact labs_take hI1 30)
  have JL := Lib.hid (show Lb.Labs w.heap.size w (.slice b us.length cap2) us by rw [hul, ← hus]; exact labs_take hJ1 30)
  have hvf : ∀ x ∈ ys ++ us, x.fits := fun x hx => by
    rcases List.mem_append.1 hx with h | h
    · exact Lb.Labs.fits IL.out x h
    · exact Lb.Labs.fits JL.out x h
  have hno : a = none → ys.length = 0 ∧ cap = 0 := fun h => by have := hnil h; omega
  have hno2 : b = none → us.length = 0 ∧ cap2 = 0 := fun h => by have := hnil2 h; omega
  have hcm3 : cap ≤ 9223372036854775807 := by unfold maxLen at hcm; omega
  have hcm4 : cap2 ≤ 9223372036854775807 := by unfold maxLen at hcm2; omega
  obtain ⟨vs, hvs⟩ : ∃ vs, ys ++ us = vs := ⟨_, rfl⟩
  have hvl : vs.length ≤ 60 := by rw [← hvs, List.length_append]; omega
  rw [hys] at h1
  rw [hus] at h2
  have HP := Lib.hid (fun w h h2 => PutList_any s t a ys.length cap ys (by omega) w h h2)
  have HP2 := Lib.hid (fun w h h2 => PutList_any s t b us.length cap2 us (by omega) w h h2)
  have HP3 := Lib.hid (fun aa ca w h h2 => PutList_any s t aa vs.length ca vs (by omega) w h h2)
  have hv : vs.all Lab.right = false := by rw [← hvs, List.all_append, h2, Bool.and_false]
  obtain ⟨gl, gc, hg⟩ : ∃ gl gc, getListR (listB ys) = (gl, gc) := ⟨_, _, rfl⟩
  have HG := Lib.hid (fun w h => GetList_any s t (listB ys) (by rw [listB_length]; omega) w h)
  have hap : bs (listB ys) ++ bs [] = bs (listB ys) := by rw [bs_append, List.append_nil]
  have z1 : (bs (listB ys)).size ≤ 300 := by rw [bs_size, listB_length]; omega
  have z2 : (bs []).size = 0 := rfl
  have HE := Lib.hid (And.intro (putListR_ok h1) (And.intro (putListR_no h2) (And.intro (putListR_no hv) hg)))
  clear h1 h2 hv hg
  have Ih := Lib.hid (Below.refl w.heap.size w)
  have Jh := Lib.hid (Below.refl w.heap.size w)
  have HN := Lib.hid (And.intro (And.intro hno hno2) (And.intro hvs (And.intro hvf (And.intro hy30 hu30))))
  clear hs hI1 hJ1 hlen hlen2 hys hus hyl hul hcm hcm2 hlc hlc2 hy30 hu30 hvf hno hno2 hvs hvl hnil hnil2
  go_enter Tryd.func8, Tryd.ntmps8
  go_wp2_with (go_at_call 9; refine (shownA s t _ HS.out).mono ?_)
  rintro e w1 ⟨he, bk1⟩
  have he2 : e = .returned (.bool true) := by rw [he]
  subst he2
  clear he
  have In := Lib.hid (below_more Ih.out bk1)
  clear Ih
  have Ih := In
  clear In
  have Jn := Lib.hid (below_more Jh.out bk1)
  clear Jh
  have Jh := Jn
  clear Jn
  have hB := bk1
  clear bk1
  go_wp2_with (go_at_call 19; refine (HP.out _ (HS.out.more hB) ((IL.out.below Ih.out).mono Ih.out.size)).mono ?_)
  rintro e w2 ⟨he, bk2⟩
  have he2 : e = .returned (.tuple #[.string (bs (listB ys)), .int .i64 0]) := by rw [he, HE.out.1]
  subst he2
  clear he
  have In := Lib.hid (below_more Ih.out bk2)
  clear Ih
  have Ih := In
  clear In
  have Jn := Lib.hid (below_more Jh.out bk2)
  clear Jh
  have Jh := Jn
  clear Jn
  replace hB := below_more hB bk2
  clear bk2
  go_wp2_with (go_at_call 19; refine (HP2.out _ (HS.out.more hB) ((JL.out.below Jh.out).mono Jh.out.size)).mono ?_)
  rintro e w3 ⟨he, bk3⟩
  have he2 : e = .returned (.tuple #[.string (bs []), .int .i64 20]) := by rw [he, HE.out.2.1]
  subst he2
  clear he
  have In := Lib.hid (below_more Ih.out bk3)
  clear Ih
  have Ih := In
  clear In
  have Jn := Lib.hid (below_more Jh.out bk3)
  clear Jh
  have Jh := Jn
  clear Jn
  replace hB := below_more hB bk3
  clear bk3
  go_wp2_with (at_builtin; refine wpList_append_some _ rfl _ _ 36 rfl w3.heap.size 24 i0 (.agg #[.int .i64 0, .int .u64 0, .int .i64 0]) 3 24 Tryd.underlying36 hi hz0 hz1 hz2 rfl (by decide) (.slice none 0 0) 0 [] rfl (World.ownsRow_nil _ _ _ _) a ys.length cap (labCells ys) rfl (by rw [labCells_length]) HN.out.1.1 (labs_news (IL.out.below Ih.out)) (labCells_one _) (by have := HN.out.2.2.2; unfold maxLen; omega) (by have := HN.out.2.2.2; omega) (Nat.le_refl _) ?_)
  rintro v1 wA ⟨hown0, hgrow1⟩
  have hown1 : wA.ownsRow w3.heap.size 24 3 v1 ys.length (labCells ys) := by simpa using hown0
  clear hown0
  have bA : Below w3.heap.size w3 wA := (Below.refl _ _).grown hgrow1 (Nat.le_refl _) (fun k e => by cases e)
  have bAs := bA.size
  obtain ⟨v1a, v1c, rfl⟩ := rowG_slice hown1
  go_wp2_with (at_builtin; refine wpList_append_some _ rfl _ _ 36 rfl w3.heap.size 24 i0 (.agg #[.int .i64 0, .int .u64 0, .int .i64 0]) 3 24 Tryd.underlying36 hi hz0 hz1 hz2 rfl (by decide) (.slice v1a ys.length v1c) ys.length (labCells ys) rfl hown1 b us.length cap2 (labCells us) rfl (by rw [labCells_length]) HN.out.1.2 (labs_news (JL.out.below (Jh.out.trans (bA.mono Jh.out.size)))) (labCells_one _) (by have := HN.out.2.2.2; unfold maxLen; omega) (by have := HN.out.2.2.2; omega) bAs ?_)
  rintro v2 wB ⟨hown2, hgrow2⟩
  have bB : Below w3.heap.size w3 wB := bA.grown hgrow2 bAs (fun k e => (hown1.lt k e).1)
  have hrow : wB.ownsRow w3.heap.size 24 3 v2 vs.length (labCells vs) := by
    rw [← HN.out.2.1, labCells_append, List.length_append]
    simpa using hown2
  obtain ⟨va, vc, rfl⟩ := rowG_slice hrow
  have KL := Lib.hid (labs_row hrow (HN.out.2.1 ▸ HN.out.2.2.1))
  clear hown1 hgrow1 hown2 hgrow2 hrow bA bAs
  have In := Lib.hid (below_more Ih.out bB)
  clear Ih
  have Ih := In
  clear In
  have Jn := Lib.hid (below_more Jh.out bB)
  clear Jh
  have Jh := Jn
  clear Jn
  replace hB := below_more hB bB
  clear bB
  have Kh := Lib.hid (Below.refl wB.heap.size wB)
  go_wp2_with (go_at_call 19; refine (HP3.out va vc _ (HS.out.more hB) ((KL.out.below Kh.out).mono Kh.out.size)).mono ?_)
  rintro e w4 ⟨he, bk4⟩
  have he2 : e = .returned (.tuple #[.string (bs []), .int .i64 20]) := by rw [he, HE.out.2.2.1]
  subst he2
  clear he
  have In := Lib.hid (below_more Ih.out bk4)
  clear Ih
  have Ih := In
  clear In
  have Jn := Lib.hid (below_more Jh.out bk4)
  clear Jh
  have Jh := Jn
  clear Jn
  have Kn := Lib.hid (below_more Kh.out bk4)
  clear Kh
  have Kh := Kn
  clear Kn
  replace hB := below_more hB bk4
  clear bk4
  go_wp2_with (go_at_call 21; refine (HG.out _ (HS.out.more hB)).mono ?_)
  rintro e w5 ⟨Da, Dc, he, Dl, bk5⟩
  have he2 : e = .returned (.tuple #[.slice Da gl.length Dc, .int .i64 gc]) := by rw [he, HE.out.2.2.2]
  subst he2
  clear he
  have DL := Lib.hid Dl
  clear Dl
  have DL2 := DL.out
  rw [HE.out.2.2.2] at DL2
  clear DL
  have DL := Lib.hid DL2
  clear DL2
  have In := Lib.hid (below_more Ih.out bk5)
  clear Ih
  have Ih := In
  clear In
  have Jn := Lib.hid (below_more Jh.out bk5)
  clear Jh
  have Jh := Jn
  clear Jn
  have Kn := Lib.hid (below_more Kh.out bk5)
  clear Kh
  have Kh := Kn
  clear Kn
  replace hB := below_more hB bk5
  clear bk5
  have Dh := Lib.hid (Below.refl w5.heap.size w5)
  go_wp2
  go_ret
  exact ⟨rfl, hB⟩

set_option maxRecDepth 100000 in
set_option maxHeartbeats 4000000 in
theorem joins_c (s : Sn) (t : SnL) (a : Option Addr) (len cap : Nat) (zs : List Lab) (b : Option Addr) (len2 cap2 : Nat) (xs : List Lab) (h1 : (zs.take 30).all Lab.right = false) (w : World) (hI : LabsIn w a len cap zs) (hJ : LabsIn w b len2 cap2 xs) (hs : SentL s t w) :
    Calls Tryd.prog 8 #[.slice a len cap, .slice b len2 cap2] w fun e w' => e = .returned (.bool true) ∧ Below w.heap.size w w' := by
  have HS := Lib.hid hs
  obtain ⟨i0, hi, hz0, hz1, hz2⟩ := info_parts infoLab
  obtain ⟨hI1, hlen, hlc, hcm, hnil⟩ := hI
  obtain ⟨hJ1, hlen2, hlc2, hcm2, hnil2⟩ := hJ
  obtain ⟨ys, hys⟩ : ∃ ys, zs.take 30 = ys := ⟨_, rfl⟩
  obtain ⟨us, hus⟩ : ∃ us, xs.take 30 = us := ⟨_, rfl⟩
  have hyl : ys.length = min len 30 := by rw [← hys, List.length_take, hlen, Nat.min_comm]
  have hul : us.length = min len2 30 := by rw [← hus, List.length_take, hlen2, Nat.min_comm]
  have hm : min (len : Int) 30 = (ys.length : Int) := by omega
  have hm2 : min (len2 : Int) 30 = (us.length : Int) := by omega
  have hyc : ys.length ≤ cap := by omega
  have huc : us.length ≤ cap2 := by omega
  have hy30 : ys.length ≤ 30 := by omega
  have hu30 : us.length ≤ 30 := by omega
  have IL := Lib.hid (show Lb.Labs w.heap.size w (.slice a ys.length cap) ys by rw [hyl, ← hys]; exact labs_take hI1 30)
  have JL := Lib.hid (show Lb.Labs w.heap.size w (.slice b us.length cap2) us by rw [hul, ← hus]; exact labs_take hJ1 30)
  have hvf : ∀ x ∈ ys ++ us, x.fits := fun x hx => by
    rcases List.mem_append.1 hx with h | h
    · exact Lb.Labs.fits IL.out x h
    · exact Lb.Labs.fits JL.out x h
  have hno : a = none → ys.length = 0 ∧ cap = 0 := fun h => by have := hnil h; omega
  have hno2 : b = none → us.length = 0 ∧ cap2 = 0 := fun h => by have := hnil2 h; omega
  have hcm3 : cap ≤ 9223372036854775807 := by unfold maxLen at hcm; omega
  have hcm4 : cap2 ≤ 9223372036854775807 := by unfold maxLen at hcm2; omega
  obtain ⟨vs, hvs⟩ : ∃ vs, ys ++ us = vs := ⟨_, rfl⟩
  have hvl : vs.length ≤ 60 := by rw [← hvs, List.length_append]; omega
  rw [hys] at h1
  have HP := Lib.hid (fun w h h2 => PutList_any s t a ys.length cap ys (by omega) w h h2)
  have HP2 := Lib.hid (fun w h h2 => PutList_any s t b us.length cap2 us (by omega) w h h2)
  have HP3 := Lib.hid (fun aa ca w h h2 => PutList_any s t aa vs.length ca vs (by omega) w h h2)
  have hv : vs.all Lab.right = false := by rw [← hvs, List.all_append, h1, Bool.false_and]
  obtain ⟨q, d, hq⟩ : ∃ q d, putListR us = (q, d) := ⟨_, _, rfl⟩
  have hql : q.length ≤ 300 := by
    have : (putListR us).1.length ≤ 300 := by
      unfold putListR
      by_cases h : us.all Lab.right = true
      · rw [if_pos h]; show (listB us).length ≤ 300; rw [listB_length]; omega
      · rw [if_neg h]; exact Nat.zero_le _
    rw [hq] at this
    exact this
  obtain ⟨gl, gc, hg⟩ : ∃ gl gc, getListR q = (gl, gc) := ⟨_, _, rfl⟩
  have HG := Lib.hid (fun w h => GetList_any s t q (by omega) w h)
  have hap : bs [] ++ bs q = bs q := by rw [bs_append]; rfl
  have z1 : (bs []).size = 0 := rfl
  have z2 : (bs q).size ≤ 300 := by rw [bs_size]; exact hql
  have HE := Lib.hid (And.intro (putListR_no h1) (And.intro hq (And.intro (putListR_no hv) hg)))
  clear h1 hv hg hq hql
  have Ih := Lib.hid (Below.refl w.heap.size w)
  have Jh := Lib.hid (Below.refl w.heap.size w)
  have HN := Lib.hid (And.intro (And.intro hno hno2) (And.intro hvs (And.intro hvf (And.intro hy30 hu30))))
  clear hs hI1 hJ1 hlen hlen2 hys hus hyl hul hcm hcm2 hlc hlc2 hy30 hu30 hvf hno hno2 hvs hvl hnil hnil2
  go_enter Tryd.func8, Tryd.ntmps8
  go_wp2_with (go_at_call 9; refine (shownA s t _ HS.out).mono ?_)
  rintro e w1 ⟨he, bk1⟩
  have he2 : e = .returned (.bool true) := by rw [he]
  subst he2
  clear he
  have In := Lib.hid (below_more Ih.out bk1)
  clear Ih
  have Ih := In
  clear In
  have Jn := Lib.hid (below_more Jh.out bk1)
  clear Jh
  have Jh := Jn
  clear Jn
  have hB := bk1
  clear bk1
  go_wp2_with (go_at_call 19; refine (HP.out _ (HS.out.more hB) ((IL.out.below Ih.out).mono Ih.out.size)).mono ?_)
  rintro e w2 ⟨he, bk2⟩
  have he2 : e = .returned (.tuple #[.string (bs []), .int .i64 20]) := by rw [he, HE.out.1]
  subst he2
  clear he
  have In := Lib.hid (below_more Ih.out bk2)
  clear Ih
  have Ih := In
  clear In
  have Jn := Lib.hid (below_more Jh.out bk2)
  clear Jh
  have Jh := Jn
  clear Jn
  replace hB := below_more hB bk2
  clear bk2
  go_wp2_with (go_at_call 19; refine (HP2.out _ (HS.out.more hB) ((JL.out.below Jh.out).mono Jh.out.size)).mono ?_)
  rintro e w3 ⟨he, bk3⟩
  have he2 : e = .returned (.tuple #[.string (bs q), .int .i64 d]) := by rw [he, HE.out.2.1]
  subst he2
  clear he
  have In := Lib.hid (below_more Ih.out bk3)
  clear Ih
  have Ih := In
  clear In
  have Jn := Lib.hid (below_more Jh.out bk3)
  clear Jh
  have Jh := Jn
  clear Jn
  replace hB := below_more hB bk3
  clear bk3
  go_wp2_with (at_builtin; refine wpList_append_some _ rfl _ _ 36 rfl w3.heap.size 24 i0 (.agg #[.int .i64 0, .int .u64 0, .int .i64 0]) 3 24 Tryd.underlying36 hi hz0 hz1 hz2 rfl (by decide) (.slice none 0 0) 0 [] rfl (World.ownsRow_nil _ _ _ _) a ys.length cap (labCells ys) rfl (by rw [labCells_length]) HN.out.1.1 (labs_news (IL.out.below Ih.out)) (labCells_one _) (by have := HN.out.2.2.2; unfold maxLen; omega) (by have := HN.out.2.2.2; omega) (Nat.le_refl _) ?_)
  rintro v1 wA ⟨hown0, hgrow1⟩
  have hown1 : wA.ownsRow w3.heap.size 24 3 v1 ys.length (labCells ys) := by simpa using hown0
  clear hown0
  have bA : Below w3.heap.size w3 wA := (Below.refl _ _).grown hgrow1 (Nat.le_refl _) (fun k e => by cases e)
  have bAs := bA.size
  obtain ⟨v1a, v1c, rfl⟩ := rowG_slice hown1
  go_wp2_with (at_builtin; refine wpList_append_some _ rfl _ _ 36 rfl w3.heap.size 24 i0 (.agg #[.int .i64 0, .int .u64 0, .int .i64 0]) 3 24 Tryd.underlying36 hi hz0 hz1 hz2 rfl (by decide) (.slice v1a ys.length v1c) ys.length (labCells ys) rfl hown1 b us.length cap2 (labCells us) rfl (by rw [labCells_length]) HN.out.1.2 (labs_news (JL.out.below (Jh.out.trans (bA.mono Jh.out.size)))) (labCells_one _) (by have := HN.out.2.2.2; unfold maxLen; omega) (by have := HN.out.2.2.2; omega) bAs ?_)
  rintro v2 wB ⟨hown2, hgrow2⟩
  have bB : Below w3.heap.size w3 wB := bA.grown hgrow2 bAs (fun k e => (hown1.lt k e).1)
  have hrow : wB.ownsRow w3.heap.size 24 3 v2 vs.length (labCells vs) := by
    rw [← HN.out.2.1, labCells_append, List.length_append]
    simpa using hown2
  obtain ⟨va, vc, rfl⟩ := rowG_slice hrow
  have KL := Lib.hid (labs_row hrow (HN.out.2.1 ▸ HN.out.2.2.1))
  clear hown1 hgrow1 hown2 hgrow2 hrow bA bAs
  have In := Lib.hid (below_more Ih.out bB)
  clear Ih
  have Ih := In
  clear In
  have Jn := Lib.hid (below_more Jh.out bB)
  clear Jh
  have Jh := Jn
  clear Jn
  replace hB := below_more hB bB
  clear bB
  have Kh := Lib.hid (Below.refl wB.heap.size wB)
  go_wp2_with (go_at_call 19; refine (HP3.out va vc _ (HS.out.more hB) ((KL.out.below Kh.out).mono Kh.out.size)).mono ?_)
  rintro e w4 ⟨he, bk4⟩
  have he2 : e = .returned (.tuple #[.string (bs []), .int .i64 20]) := by rw [he, HE.out.2.2.1]
  subst he2
  clear he
  have In := Lib.hid (below_more Ih.out bk4)
  clear Ih
  have Ih := In
  clear In
  have Jn := Lib.hid (below_more Jh.out bk4)
  clear Jh
  have Jh := Jn
  clear Jn
  have Kn := Lib.hid (below_more Kh.out bk4)
  clear Kh
  have Kh := Kn
  clear Kn
  replace hB := below_more hB bk4
  clear bk4
  go_wp2_with (go_at_call 21; refine (HG.out _ (HS.out.more hB)).mono ?_)
  rintro e w5 ⟨Da, Dc, he, Dl, bk5⟩
  have he2 : e = .returned (.tuple #[.slice Da gl.length Dc, .int .i64 gc]) := by rw [he, HE.out.2.2.2]
  subst he2
  clear he
  have DL := Lib.hid Dl
  clear Dl
  have DL2 := DL.out
  rw [HE.out.2.2.2] at DL2
  clear DL
  have DL := Lib.hid DL2
  clear DL2
  have In := Lib.hid (below_more Ih.out bk5)
  clear Ih
  have Ih := In
  clear In
  have Jn := Lib.hid (below_more Jh.out bk5)
  clear Jh
  have Jh := Jn
  clear Jn
  have Kn := Lib.hid (below_more Kh.out bk5)
  clear Kh
  have Kh := Kn
  clear Kn
  replace hB := below_more hB bk5
  clear bk5
  have Dh := Lib.hid (Below.refl w5.heap.size w5)
  go_wp2
  go_ret
  exact ⟨rfl, hB⟩

theorem joins_walk (s : Sn) (t : SnL) (a : Option Addr) (len cap : Nat) (zs : List Lab) (b : Option Addr) (len2 cap2 : Nat) (xs : List Lab) (w : World) (hI : LabsIn w a len cap zs) (hJ : LabsIn w b len2 cap2 xs) (hs : SentL s t w) :
    Calls Tryd.prog 8 #[.slice a len cap, .slice b len2 cap2] w fun e w' => e = .returned (.bool true) ∧ Below w.heap.size w w' := by
  cases h1 : (zs.take 30).all Lab.right
  · exact joins_c s t a len cap zs b len2 cap2 xs h1 w hI hJ hs
  · cases h2 : (xs.take 30).all Lab.right
    · exact joins_b s t a len cap zs b len2 cap2 xs h1 h2 w hI hJ hs
    · exact joins_a s t a len cap zs b len2 cap2 xs h1 h2 w hI hJ hs

end Go.Proofs.YtfpjbefhfkembaaDoor
