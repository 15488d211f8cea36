/- The document's Path. -/
import Derived.Test.YtciohfeifihobaaDoorCeRefG
namespace Go.Proofs.Cel
open Go.Proofs.Cats Go.Proofs.YtciohfeifihobaaDoor
theorem pathGo_at {high x y : Lab} {zs : List Lab} {k : Nat} (hy : zs[k]? = some y) (hu : (x.join y).under high = true) : pathGo high x k (zs.drop k) = pathGo high (x.join y) (k + 1) (zs.drop (k + 1)) := by
  obtain ⟨hk, rfl⟩ := List.getElem?_eq_some_iff.1 hy
  rw [List.drop_eq_getElem_cons hk, pathGo_step hu]
theorem pathGo_off {high x y : Lab} {zs : List Lab} {k : Nat} (hy : zs[k]? = some y) (hu : (x.join y).under high = false) : pathGo high x k (zs.drop k) = (120, k, x) := by
  obtain ⟨hk, rfl⟩ := List.getElem?_eq_some_iff.1 hy
  rw [List.drop_eq_getElem_cons hk, pathGo_stop hu]
theorem allr_next {zs : List Lab} {k : Nat} {y : Lab} (hy : zs[k]? = some y) : (zs.take (k + 1)).all Lab.right = ((zs.take k).all Lab.right && y.right) := by
  rw [List.take_add_one, hy, List.all_append]
  simp
end Go.Proofs.Cel
namespace Go.Proofs.YtciohfeifihobaaDoor
open Go.RowKit Go.Proofs.Cats Go.Proofs.Cel Go.Shelf

/-- The cells that a round reads. -/
def PaS (n0 b o : Nat) (x y high : Lab) (W : World) : Prop :=
  (W.cell? ⟨n0, 0, none⟩ = some (.int .i64 x.l) ∧ W.cell? ⟨n0, 1, none⟩ = some (.int .u64 x.c) ∧ W.cell? ⟨n0, 2, none⟩ = some (.int .i64 x.i)) ∧ (W.cell? ⟨b, o, none⟩ = some (.int .i64 y.l) ∧ W.cell? ⟨b, o + 1, none⟩ = some (.int .u64 y.c) ∧ W.cell? ⟨b, o + 2, none⟩ = some (.int .i64 y.i)) ∧ (W.cell? ⟨n0 + 1, 0, none⟩ = some (.int .i64 high.l) ∧ W.cell? ⟨n0 + 1, 1, none⟩ = some (.int .u64 high.c) ∧ W.cell? ⟨n0 + 1, 2, none⟩ = some (.int .i64 high.i))
theorem PaS.more {n0 b o : Nat} {x y high : Lab} {A B : World} (h : PaS n0 b o x y high A) (k : Below A.heap.size A B) : PaS n0 b o x y high B :=
  ⟨⟨cell_later k h.1.1, cell_later k h.1.2.1, cell_later k h.1.2.2⟩, ⟨cell_later k h.2.1.1, cell_later k h.2.1.2.1, cell_later k h.2.1.2.2⟩, ⟨cell_later k h.2.2.1, cell_later k h.2.2.2.1, cell_later k h.2.2.2.2⟩⟩
theorem set_o3 {W : World} {n b o : Nat} {v x y z : Value} (h : W.cell? ⟨b, o, none⟩ = some v) (hb : b < n) : (((W.setCell ⟨n, 0, none⟩ x).setCell ⟨n, 1, none⟩ y).setCell ⟨n, 2, none⟩ z).cell? ⟨b, o, none⟩ = some v := set3 h (by omega)
theorem PaS.set {n0 b o X : Nat} {x y high : Lab} {A : World} {u v t : Value} (h : PaS n0 b o x y high A) (h1 : n0 + 1 < X) (h2 : b < X) : PaS n0 b o x y high (((A.setCell ⟨X, 0, none⟩ u).setCell ⟨X, 1, none⟩ v).setCell ⟨X, 2, none⟩ t) :=
  ⟨⟨set_o3 h.1.1 (by omega), set_o3 h.1.2.1 (by omega), set_o3 h.1.2.2 (by omega)⟩, ⟨set_o3 h.2.1.1 h2, set_o3 h.2.1.2.1 h2, set_o3 h.2.1.2.2 h2⟩, ⟨set_o3 h.2.2.1 h1, set_o3 h.2.2.2.1 h1, set_o3 h.2.2.2.2 h1⟩⟩
theorem GnS.set3 {w W : World} {cur a : Lab} {X : Nat} {u v t : Value} (k : GnS w W cur a) (hX : w.heap.size + 1 + 1 < X) : GnS w (((W.setCell ⟨X, 0, none⟩ u).setCell ⟨X, 1, none⟩ v).setCell ⟨X, 2, none⟩ t) cur a := ((k.set hX).set hX).set hX
theorem GnS.setC {w W : World} {cur a : Lab} (x : Lab) (k : GnS w W cur a) : GnS w (((W.setCell ⟨w.heap.size, 0, none⟩ (.int .i64 x.l)).setCell ⟨w.heap.size, 1, none⟩ (.int .u64 x.c)).setCell ⟨w.heap.size, 2, none⟩ (.int .i64 x.i)) x a := ⟨below_set3 k.b (Nat.le_refl _) _ _ _, k.c.set x, k.a.other3 (by omega), k.r.other3 (by omega)⟩
theorem Ce.low {w W : World} (h : Ce w) (k : Below w.heap.size w W) : Ce W := h.more k
/-- Behind the region of a round. -/
structure PaE (w W : World) (x high z : Lab) (X : Nat) : Prop where
  s : GnS w W x high
  x : BoxL W X z

set_option maxRecDepth 100000 in
set_option maxHeartbeats 8000000 in
theorem RPath_w {cur high xo : Lab} {zs : List Lab} {ao : Option Addr} {len cap : Nat} {c : Int} {n : Nat} {w : World} (hc : cur.fits) (hh : high.fits) (hI : Labs w.heap.size w (.slice ao len cap) zs) (hn : zs.length ≤ 1000) (hcap : len ≤ cap) (hmax : cap ≤ maxLen) (h : pathL cur zs high = (c, n, xo)) (hs : Ce w) :
    Calls Tryd.prog 23 #[.agg #[.int .i64 cur.l, .int .u64 cur.c, .int .i64 cur.i], .slice ao len cap, .agg #[.int .i64 high.l, .int .u64 high.c, .int .i64 high.i]] w (LnP c n xo w) := by
  obtain ⟨ao', cap', he, hz⟩ := hI
  injection he with he1 he2 he3
  subst he1 he3
  have hlen := he2.symm
  clear he2
  have hcm : cap ≤ 9223372036854775807 := by unfold maxLen at hmax; exact hmax
  have hln : len ≤ 1000 := by omega
  obtain ⟨hB, h1, h2, h3⟩ := three_boxZ w cur high
  have HB := Lib.hid (show GnS w _ cur high from ⟨hB, h1, h2, h3⟩)
  obtain ⟨p0, p1, p2⟩ := h1.lab
  have HF := Lib.hid (And.intro hc (And.intro hh (And.intro hs (And.intro hlen hz))))
  cases hr : cur.right with
  | false =>
    have HC := Lib.hid (fun W => RRight_w (w := W) hr)
    rw [path_bad (by rw [hr]; rfl)] at h
    obtain ⟨rfl, h'⟩ := Prod.mk.inj h
    obtain ⟨rfl, rfl⟩ := Prod.mk.inj h'
    clear hB h1 h2 h3 hc hh hs h h' hr hz hmax hlen hn
    go_enter Tryd.func23, Tryd.ntmps23
    go_wp2_with (go_at_call 32; refine (HC.out _).mono ?_)
    rintro e w1 ⟨rfl, hb1⟩
    have HS1 := Lib.hid (HB.out.more hb1)
    clear hb1 p0 p1 p2
    go_wp2
    go_loopw [9, 10] (fun u v wr => ∃ k : Nat, k ≤ len ∧ u = .bool false ∧ v = .int .i64 k ∧ Hid (GnS w wr cur high)) (fun _ v _ => len - (intOf v).toNat)
    case atStart => exact ⟨0, Nat.zero_le _, rfl, rfl, HS1⟩
    case round =>
      obtain ⟨k, hk, rfl, rfl, HM⟩ := hrel
      by_cases hlt : k < len
      · have hd1 : decide ((k : Int) < (len : Int)) = true := decide_eq_true (by omega)
        go_wp2
        go_roundw
        case rel => exact ⟨k + 1, by omega, rfl, by simp, HM⟩
        case measure => simp [intOf]; omega
      · obtain rfl : k = len := by omega
        have hd1 : decide ((k : Int) < (k : Int)) = false := decide_eq_false (by omega)
        obtain ⟨z0, z1, z2⟩ := HM.out.r.lab
        obtain ⟨fz0, fz1, fz2⟩ := HM.out.r.frozen
        go_wp2
        have HU := Lib.hid (show Below w.heap.size w (((wr.setCell ⟨w.heap.size + 1 + 1, 0, none⟩ (.int .i64 0)).setCell ⟨w.heap.size + 1 + 1, 1, none⟩ (.int .u64 0)).setCell ⟨w.heap.size + 1 + 1, 2, none⟩ (.int .i64 0)) ∧ BoxL (((wr.setCell ⟨w.heap.size + 1 + 1, 0, none⟩ (.int .i64 0)).setCell ⟨w.heap.size + 1 + 1, 1, none⟩ (.int .u64 0)).setCell ⟨w.heap.size + 1 + 1, 2, none⟩ (.int .i64 0)) (w.heap.size + 1 + 1) Lab.zero from ⟨below_set3 HM.out.b (by omega) _ _ _, HM.out.r.set Lab.zero⟩)
        obtain ⟨v0, v1, v2⟩ := HU.out.2.lab
        have hbf := HU.out.1
        clear HU z0 z1 z2 fz0 fz1 fz2
        refine bodyPost_ret (v := .tuple #[.agg #[.int .i64 0, .int .u64 0, .int .i64 0], .int .i64 0, .int .i64 20]) ?_ rfl ⟨rfl, hbf⟩
        clear hbf
        generalize (((wr.setCell ⟨w.heap.size + 1 + 1, 0, none⟩ (.int .i64 0)).setCell ⟨w.heap.size + 1 + 1, 1, none⟩ (.int .u64 0)).setCell ⟨w.heap.size + 1 + 1, 2, none⟩ (.int .i64 0)) = WF at v0 v1 v2 ⊢
        simp [results, Tryd.results23, go_sem, v0, v1, v2, Lab.zero]
  | true =>
    have HC := Lib.hid (fun W => RRight_w (w := W) hr)
    cases hr2 : high.right with
    | false =>
      have HC2 := Lib.hid (fun W => RRight_w (w := W) hr2)
      rw [path_bad (by rw [hr2, Bool.and_false]; rfl)] at h
      obtain ⟨rfl, h'⟩ := Prod.mk.inj h
      obtain ⟨rfl, rfl⟩ := Prod.mk.inj h'
      clear hB h1 h2 h3 hc hh hs h h' hr hr2 hz hmax hlen hn
      go_enter Tryd.func23, Tryd.ntmps23
      go_wp2_with (go_at_call 32; refine (HC.out _).mono ?_)
      rintro e w1 ⟨rfl, hb1⟩
      have HS0 := Lib.hid (HB.out.more hb1)
      obtain ⟨q0, q1, q2⟩ := HS0.out.a.lab
      clear hb1 p0 p1 p2
      go_wp2_with (go_at_call 32; refine (HC2.out _).mono ?_)
      rintro e w2 ⟨rfl, hb2⟩
      have HS1 := Lib.hid (HS0.out.more hb2)
      clear hb2 q0 q1 q2
      go_wp2
      go_loopw [9, 10] (fun u v wr => ∃ k : Nat, k ≤ len ∧ u = .bool false ∧ v = .int .i64 k ∧ Hid (GnS w wr cur high)) (fun _ v _ => len - (intOf v).toNat)
      case atStart => exact ⟨0, Nat.zero_le _, rfl, rfl, HS1⟩
      case round =>
        obtain ⟨k, hk, rfl, rfl, HM⟩ := hrel
        by_cases hlt : k < len
        · have hd1 : decide ((k : Int) < (len : Int)) = true := decide_eq_true (by omega)
          go_wp2
          go_roundw
          case rel => exact ⟨k + 1, by omega, rfl, by simp, HM⟩
          case measure => simp [intOf]; omega
        · obtain rfl : k = len := by omega
          have hd1 : decide ((k : Int) < (k : Int)) = false := decide_eq_false (by omega)
          obtain ⟨z0, z1, z2⟩ := HM.out.r.lab
          obtain ⟨fz0, fz1, fz2⟩ := HM.out.r.frozen
          go_wp2
          have HU := Lib.hid (show Below w.heap.size w (((wr.setCell ⟨w.heap.size + 1 + 1, 0, none⟩ (.int .i64 0)).setCell ⟨w.heap.size + 1 + 1, 1, none⟩ (.int .u64 0)).setCell ⟨w.heap.size + 1 + 1, 2, none⟩ (.int .i64 0)) ∧ BoxL (((wr.setCell ⟨w.heap.size + 1 + 1, 0, none⟩ (.int .i64 0)).setCell ⟨w.heap.size + 1 + 1, 1, none⟩ (.int .u64 0)).setCell ⟨w.heap.size + 1 + 1, 2, none⟩ (.int .i64 0)) (w.heap.size + 1 + 1) Lab.zero from ⟨below_set3 HM.out.b (by omega) _ _ _, HM.out.r.set Lab.zero⟩)
          obtain ⟨v0, v1, v2⟩ := HU.out.2.lab
          have hbf := HU.out.1
          clear HU z0 z1 z2 fz0 fz1 fz2
          refine bodyPost_ret (v := .tuple #[.agg #[.int .i64 0, .int .u64 0, .int .i64 0], .int .i64 0, .int .i64 20]) ?_ rfl ⟨rfl, hbf⟩
          clear hbf
          generalize (((wr.setCell ⟨w.heap.size + 1 + 1, 0, none⟩ (.int .i64 0)).setCell ⟨w.heap.size + 1 + 1, 1, none⟩ (.int .u64 0)).setCell ⟨w.heap.size + 1 + 1, 2, none⟩ (.int .i64 0)) = WF at v0 v1 v2 ⊢
          simp [results, Tryd.results23, go_sem, v0, v1, v2, Lab.zero]
    | true =>
      have HC2 := Lib.hid (fun W => RRight_w (w := W) hr2)
      have HRR := Lib.hid (And.intro hr hr2)
      have HP0 := Lib.hid h
      clear hB h1 h2 h3 hc hh hs h hr hr2 hz hmax hlen hn
      go_enter Tryd.func23, Tryd.ntmps23
      go_wp2_with (go_at_call 32; refine (HC.out _).mono ?_)
      rintro e w1 ⟨rfl, hb1⟩
      have HS0 := Lib.hid (HB.out.more hb1)
      obtain ⟨q0, q1, q2⟩ := HS0.out.a.lab
      clear hb1 p0 p1 p2
      go_wp2_with (go_at_call 32; refine (HC2.out _).mono ?_)
      rintro e w2 ⟨rfl, hb2⟩
      have HS1 := Lib.hid (HS0.out.more hb2)
      clear hb2 q0 q1 q2
      go_wp2
      go_loopw [9, 10] (fun u v wr => ∃ (k : Nat) (bb : Bool), k ≤ len ∧ u = .bool bb ∧ v = .int .i64 k ∧ Hid ((zs.take k).all Lab.right = bb) ∧ Hid (GnS w wr cur high)) (fun _ v _ => len - (intOf v).toNat)
      case atStart => exact ⟨0, true, Nat.zero_le _, rfl, rfl, Lib.hid (by simp), HS1⟩
      case round =>
        obtain ⟨k, bb, hk, rfl, rfl, HA, HM⟩ := hrel
        by_cases hlt : k < len
        · obtain ⟨y, hy⟩ : ∃ y, zs[k]? = some y := ⟨_, List.getElem?_eq_getElem (by have := HF.out.2.2.2.1; omega)⟩
          have hd1 : decide ((k : Int) < (len : Int)) = true := decide_eq_true (by omega)
          have HN := Lib.hid (allr_next hy)
          cases bb with
          | false =>
            clear hy
            go_wp2
            go_roundw
            case rel => exact ⟨k + 1, false, by omega, rfl, by simp, Lib.hid (by rw [HN.out, HA.out]; rfl), HM⟩
            case measure => simp [intOf]; omega
          | true =>
            obtain ⟨b, off, rfl, hbl, hcs⟩ := HF.out.2.2.2.2 (fun e => by rw [e] at hy; simp at hy)
            obtain ⟨q0, q1, q2⟩ := (hcs k y hy).2.below HM.out.b hbl
            have HQ := Lib.hid (fun W => RRight_w (a := y) (w := W) rfl)
            have hi1 : (k : Int) < (len : Int) := by omega
            clear hy hcs hbl
            go_wp2_with (go_at_call 32; refine (HQ.out _).mono ?_)
            rintro e w3 ⟨rfl, hb3⟩
            have HM3 := Lib.hid (HM.out.more hb3)
            clear hb3 q0 q1 q2
            go_wp2
            go_roundw
            case rel => exact ⟨k + 1, y.right, by omega, rfl, by simp, Lib.hid (by rw [HN.out, HA.out]; rfl), HM3⟩
            case measure => simp [intOf]; omega
        · obtain rfl : k = len := by omega
          have hd1 : decide ((k : Int) < (k : Int)) = false := decide_eq_false (by omega)
          have HAll := Lib.hid (show zs.all Lab.right = bb by have := HA.out; rwa [List.take_of_length_le (by have := HF.out.2.2.2.1; omega)] at this)
          cases bb with
          | false =>
            have h := HP0.out
            rw [path_bad (by rw [HAll.out, Bool.and_false])] at h
            obtain ⟨rfl, h'⟩ := Prod.mk.inj h
            obtain ⟨rfl, rfl⟩ := Prod.mk.inj h'
            clear h h'
            obtain ⟨z0, z1, z2⟩ := HM.out.r.lab
            obtain ⟨fz0, fz1, fz2⟩ := HM.out.r.frozen
            go_wp2
            have HU := Lib.hid (show Below w.heap.size w (((wr.setCell ⟨w.heap.size + 1 + 1, 0, none⟩ (.int .i64 0)).setCell ⟨w.heap.size + 1 + 1, 1, none⟩ (.int .u64 0)).setCell ⟨w.heap.size + 1 + 1, 2, none⟩ (.int .i64 0)) ∧ BoxL (((wr.setCell ⟨w.heap.size + 1 + 1, 0, none⟩ (.int .i64 0)).setCell ⟨w.heap.size + 1 + 1, 1, none⟩ (.int .u64 0)).setCell ⟨w.heap.size + 1 + 1, 2, none⟩ (.int .i64 0)) (w.heap.size + 1 + 1) Lab.zero from ⟨below_set3 HM.out.b (by omega) _ _ _, HM.out.r.set Lab.zero⟩)
            obtain ⟨v0, v1, v2⟩ := HU.out.2.lab
            have hbf := HU.out.1
            clear HU z0 z1 z2 fz0 fz1 fz2
            refine bodyPost_ret (v := .tuple #[.agg #[.int .i64 0, .int .u64 0, .int .i64 0], .int .i64 0, .int .i64 20]) ?_ rfl ⟨rfl, hbf⟩
            clear hbf
            generalize (((wr.setCell ⟨w.heap.size + 1 + 1, 0, none⟩ (.int .i64 0)).setCell ⟨w.heap.size + 1 + 1, 1, none⟩ (.int .u64 0)).setCell ⟨w.heap.size + 1 + 1, 2, none⟩ (.int .i64 0)) = WF at v0 v1 v2 ⊢
            simp [results, Tryd.results23, go_sem, v0, v1, v2, Lab.zero]
          | true =>
            have HP := Lib.hid (show pathGo high cur 0 zs = (c, n, xo) from by rw [← path_ok (by rw [HRR.out.1, HRR.out.2, HAll.out]; rfl)]; exact HP0.out)
            go_wp2
            go_loopw [11] (fun v wr => ∃ (j : Nat) (x : Lab), j ≤ k ∧ v = .int .i64 j ∧ GnS w wr x high ∧ x.fits ∧ x.right = true ∧ pathGo high cur 0 zs = pathGo high x j (zs.drop j)) (fun v _ => k - (intOf v).toNat)
            case atStart => exact ⟨0, cur, Nat.zero_le _, rfl, HM.out, HF.out.1, HRR.out.1, rfl⟩
            case round =>
              clear HM
              obtain ⟨k2, x, hk2, rfl, hM, hxf, hxr, hN⟩ := hrel
              have HM := Lib.hid hM
              have HX := Lib.hid (And.intro hxf hxr)
              have HN := Lib.hid hN
              clear hM hxf hxr hN
              by_cases hlt : k2 < k
              · obtain ⟨y, hy⟩ : ∃ y, zs[k2]? = some y := ⟨_, List.getElem?_eq_getElem (by have := HF.out.2.2.2.1; omega)⟩
                have hd2 : decide ((k2 : Int) < (k : Int)) = true := decide_eq_true (by omega)
                have hi1 : (k2 : Int) < (k : Int) := by omega
                obtain ⟨b, off, rfl, hbl, hcs⟩ := HF.out.2.2.2.2 (fun e => by rw [e] at hy; simp at hy)
                have hys := (hcs k2 y hy).2.below HM.out.b hbl
                have HYf := Lib.hid (And.intro (hcs k2 y hy).1 (show y.right = true from List.all_eq_true.1 HAll.out y (List.mem_of_getElem? hy)))
                have HY := Lib.hid hy
                have HBl := Lib.hid hbl
                have hd : Below wr.heap.size wr wr.drew := (Below.refl _ wr).drew
                have HD := Lib.hid (below_more HM.out.b hd)
                have HS := Lib.hid (show PaS w.heap.size b (off + k2 * 3) x y high wr.drew from PaS.more ⟨HM.out.c.lab, hys, HM.out.a.lab⟩ hd)
                have HR3 := Lib.hid (show (x.right && y.right && high.right) = true by rw [HX.out.2, HYf.out.2, HRR.out.2]; rfl)
                obtain ⟨cf, z, hfl⟩ : ∃ cf z, floatL x y high = (cf, z) := ⟨_, _, rfl⟩
                have HFl := Lib.hid hfl
                have HC3 := Lib.hid (fun W (h : Below w.heap.size w W) => RFloat_w (w := W) HX.out.1 HYf.out.1 HF.out.2.1 hfl (Ce.low HF.out.2.2.1 h))
                clear hy hcs hbl hys hd hfl
                go_wp2
                refine wp_region_held_drew (S := PaS w.heap.size b (off + k2 * 3) x y high) (by kernel_rfl) HS.out (fun hS0 => ?_)
                refine wpAnyH_take (i := 0) (oi := { dst := some 44, op := Go.Op.load 24 (Go.Operand.tmp 3), type := 24, pos := "ref.go:32", after := #[], guard := none }) (v := ?_) rfl (by kernel_rfl) (by kernel_rfl) (by kernel_rfl) (fun _ _ _ h => h) (Or.inl ⟨by rfl, ?_⟩) hS0 ?_
                rotate_left
                · (intro wq hSw; obtain ⟨⟨y0, y1, y2⟩, ⟨y3, y4, y5⟩, ⟨y6, y7, y8⟩⟩ := hSw; go_simp; try with_reducible rfl)
                try simp only [Act.put, List.setIfInBounds_toArray, List.set_cons_zero, List.set_cons_succ]
                refine wpAnyH_take (i := 1) (oi := { dst := some 45, op := Go.Op.move (Go.Operand.tmp 1), type := 34, pos := "ref.go:32", after := #[], guard := none }) (v := ?_) rfl (by kernel_rfl) (by kernel_rfl) (by kernel_rfl) (fun _ _ _ h => h) (Or.inl ⟨by rfl, ?_⟩) hS0 ?_
                rotate_left
                · (intro wq hSw; obtain ⟨⟨y0, y1, y2⟩, ⟨y3, y4, y5⟩, ⟨y6, y7, y8⟩⟩ := hSw; go_simp; try with_reducible rfl)
                try simp only [Act.put, List.setIfInBounds_toArray, List.set_cons_zero, List.set_cons_succ]
                refine wpAnyH_take (i := 2) (oi := { dst := some 46, op := Go.Op.move (Go.Operand.tmp 11), type := 3, pos := "ref.go:32", after := #[], guard := none }) (v := ?_) rfl (by kernel_rfl) (by kernel_rfl) (by kernel_rfl) (fun _ _ _ h => h) (Or.inl ⟨by rfl, ?_⟩) hS0 ?_
                rotate_left
                · (intro wq hSw; obtain ⟨⟨y0, y1, y2⟩, ⟨y3, y4, y5⟩, ⟨y6, y7, y8⟩⟩ := hSw; go_simp; try with_reducible rfl)
                try simp only [Act.put, List.setIfInBounds_toArray, List.set_cons_zero, List.set_cons_succ]
                refine wpAnyH_take (i := 3) (oi := { dst := some 47, op := Go.Op.indexAddr 34 (Go.Operand.tmp 45) (Go.Operand.tmp 46), type := 0, pos := "ref.go:32", after := #[{ on := 1, ground := Go.Ground.data }, { on := 2, ground := Go.Ground.data }], guard := none }) (v := ?_) rfl (by kernel_rfl) (by kernel_rfl) (by kernel_rfl) (fun _ _ _ h => h) (Or.inl ⟨by rfl, ?_⟩) hS0 ?_
                rotate_left
                · (intro wq hSw; obtain ⟨⟨y0, y1, y2⟩, ⟨y3, y4, y5⟩, ⟨y6, y7, y8⟩⟩ := hSw; go_simp; try with_reducible rfl)
                try simp only [Act.put, List.setIfInBounds_toArray, List.set_cons_zero, List.set_cons_succ]
                refine wpAnyH_take (i := 4) (oi := { dst := some 48, op := Go.Op.load 24 (Go.Operand.tmp 47), type := 24, pos := "ref.go:32", after := #[{ on := 3, ground := Go.Ground.data }], guard := none }) (v := ?_) rfl (by kernel_rfl) (by kernel_rfl) (by kernel_rfl) (fun _ _ _ h => h) (Or.inl ⟨by rfl, ?_⟩) hS0 ?_
                rotate_left
                · (intro wq hSw; obtain ⟨⟨y0, y1, y2⟩, ⟨y3, y4, y5⟩, ⟨y6, y7, y8⟩⟩ := hSw; go_simp; try with_reducible rfl)
                try simp only [Act.put, List.setIfInBounds_toArray, List.set_cons_zero, List.set_cons_succ]
                refine wpAnyH_take (i := 5) (oi := { dst := some 49, op := Go.Op.load 24 (Go.Operand.tmp 5), type := 24, pos := "ref.go:32", after := #[], guard := none }) (v := ?_) rfl (by kernel_rfl) (by kernel_rfl) (by kernel_rfl) (fun _ _ _ h => h) (Or.inl ⟨by rfl, ?_⟩) hS0 ?_
                rotate_left
                · (intro wq hSw; obtain ⟨⟨y0, y1, y2⟩, ⟨y3, y4, y5⟩, ⟨y6, y7, y8⟩⟩ := hSw; go_simp; try with_reducible rfl)
                try simp only [Act.put, List.setIfInBounds_toArray, List.set_cons_zero, List.set_cons_succ]
                refine wpAnyH_ready (rs := [6, 10]) (by kernel_rfl) (by simp) ?_
                refine AllReadyH.cons (o := { dst := some 50, op := Go.Op.call { callee := Go.Callee.value (Go.Operand.func 13), args := #[Go.Operand.tmp 44, Go.Operand.tmp 48, Go.Operand.tmp 49], argTypes := #[24, 24, 24] }, type := 27, pos := "ref.go:32", after := #[{ on := 0, ground := Go.Ground.data }, { on := 4, ground := Go.Ground.data }, { on := 5, ground := Go.Ground.data }], guard := none }) rfl (fun K hK => ?_) (AllReadyH.cons (o := { dst := some 12, op := Go.Op.alloc 24, type := 0, pos := "ref.go:32", after := #[], guard := none }) rfl (fun K hK => ?_) AllReadyH.nil)
                · skip
                  go_simp
                  refine (HC3.out _ HD.out).mono ?_
                  rintro e we ⟨rfl, hb3⟩
                  refine hK.out _ _ (PaS.more hS0 hb3) (fun hSa => ?_)
                  clear hK K
                  try simp only [Act.put, List.setIfInBounds_toArray, List.set_cons_zero, List.set_cons_succ]
                  refine wpAnyH_take (i := 7) (oi := { dst := some 43, op := Go.Op.move (Go.Operand.tmp 50), type := 27, pos := "ref.go:32", after := #[{ on := 6, ground := Go.Ground.data }], guard := none }) (v := ?_) rfl (by kernel_rfl) (by kernel_rfl) (by kernel_rfl) (fun _ _ _ h => h) (Or.inl ⟨by rfl, ?_⟩) hSa ?_
                  rotate_left
                  · (intro wq hSw; obtain ⟨⟨y0, y1, y2⟩, ⟨y3, y4, y5⟩, ⟨y6, y7, y8⟩⟩ := hSw; go_simp; try with_reducible rfl)
                  try simp only [Act.put, List.setIfInBounds_toArray, List.set_cons_zero, List.set_cons_succ]
                  refine wpAnyH_take (i := 8) (oi := { dst := some 51, op := Go.Op.extract (Go.Operand.tmp 43) 0, type := 24, pos := "ref.go:32", after := #[{ on := 7, ground := Go.Ground.data }], guard := none }) (v := ?_) rfl (by kernel_rfl) (by kernel_rfl) (by kernel_rfl) (fun _ _ _ h => h) (Or.inl ⟨by rfl, ?_⟩) hSa ?_
                  rotate_left
                  · (intro wq hSw; obtain ⟨⟨y0, y1, y2⟩, ⟨y3, y4, y5⟩, ⟨y6, y7, y8⟩⟩ := hSw; go_simp; try with_reducible rfl)
                  try simp only [Act.put, List.setIfInBounds_toArray, List.set_cons_zero, List.set_cons_succ]
                  refine wpAnyH_take (i := 9) (oi := { dst := some 52, op := Go.Op.extract (Go.Operand.tmp 43) 1, type := 26, pos := "ref.go:32", after := #[{ on := 7, ground := Go.Ground.data }, { on := 11, ground := Go.Ground.gcOnly Go.Departure.lateStores }], guard := none }) (v := ?_) rfl (by kernel_rfl) (by kernel_rfl) (by kernel_rfl) (fun _ _ _ h => h) (Or.inl ⟨by rfl, ?_⟩) hSa ?_
                  rotate_left
                  · (intro wq hSw; obtain ⟨⟨y0, y1, y2⟩, ⟨y3, y4, y5⟩, ⟨y6, y7, y8⟩⟩ := hSw; go_simp; try with_reducible rfl)
                  try simp only [Act.put, List.setIfInBounds_toArray, List.set_cons_zero, List.set_cons_succ]
                  refine wpAnyH_ready (rs := [10]) (by kernel_rfl) (by simp) ?_
                  refine AllReadyH.cons (o := { dst := some 12, op := Go.Op.alloc 24, type := 0, pos := "ref.go:32", after := #[], guard := none }) rfl (fun K hK => ?_) AllReadyH.nil
                  go_simp
                  refine hK.out _ _ (PaS.more hSa (Below.new _ _)) (fun hS1 => ?_)
                  clear hK K
                  try simp only [Act.put, List.setIfInBounds_toArray, List.set_cons_zero, List.set_cons_succ]
                  refine wpAnyH_ready (rs := [11]) (by kernel_rfl) (by simp) ?_
                  refine AllReadyH.cons (o := { dst := none, op := Go.Op.store 24 (Go.Operand.tmp 12) (Go.Operand.tmp 51), type := 0, pos := "ref.go:32", after := #[{ on := 10, ground := Go.Ground.data }, { on := 8, ground := Go.Ground.data }, { on := 6, ground := Go.Ground.chain }, { on := 0, ground := Go.Ground.phase }, { on := 1, ground := Go.Ground.phase }, { on := 2, ground := Go.Ground.phase }, { on := 3, ground := Go.Ground.phase }, { on := 4, ground := Go.Ground.phase }, { on := 5, ground := Go.Ground.phase }, { on := 6, ground := Go.Ground.phase }, { on := 7, ground := Go.Ground.phase }, { on := 8, ground := Go.Ground.phase }, { on := 9, ground := Go.Ground.textOnly Go.Departure.lateStores }, { on := 10, ground := Go.Ground.phase }], guard := none }) rfl (fun K hK => ?_) AllReadyH.nil
                  go_simp
                  refine hK.out _ _ (PaS.more hSa (Below.new we (.cells #[.int .i64 z.l, .int .u64 z.c, .int .i64 z.i] 24))) (fun hS2 => ?_)
                  clear hK K
                  try simp only [Act.put, List.setIfInBounds_toArray, List.set_cons_zero, List.set_cons_succ]
                  refine wpAnyH_take (i := 12) (oi := { dst := some 13, op := Go.Op.assign (Go.Operand.tmp 52), type := 26, pos := "ref.go:32", after := #[{ on := 9, ground := Go.Ground.data }, { on := 11, ground := Go.Ground.chain }, { on := 0, ground := Go.Ground.phase }, { on := 1, ground := Go.Ground.phase }, { on := 2, ground := Go.Ground.phase }, { on := 3, ground := Go.Ground.phase }, { on := 4, ground := Go.Ground.phase }, { on := 5, ground := Go.Ground.phase }, { on := 6, ground := Go.Ground.phase }, { on := 7, ground := Go.Ground.phase }, { on := 8, ground := Go.Ground.phase }, { on := 9, ground := Go.Ground.phase }, { on := 10, ground := Go.Ground.phase }, { on := 11, ground := Go.Ground.phase }], guard := none }) (v := ?_) rfl (by kernel_rfl) (by kernel_rfl) (by kernel_rfl) (fun _ _ _ h => h) (Or.inl ⟨by rfl, ?_⟩) hS2 ?_
                  rotate_left
                  · (intro wq hSw; obtain ⟨⟨y0, y1, y2⟩, ⟨y3, y4, y5⟩, ⟨y6, y7, y8⟩⟩ := hSw; go_simp; try with_reducible rfl)
                  try simp only [Act.put, List.setIfInBounds_toArray, List.set_cons_zero, List.set_cons_succ]
                  refine wpAnyH_done (by kernel_rfl) ?_ _
                  have HZ := Lib.hid (show PaE w (we.alloc (.cells #[.int .i64 z.l, .int .u64 z.c, .int .i64 z.i] 24)) x high z we.heap.size from ⟨(HM.out.more ((Below.refl _ wr).drew)).more hb3 |>.more (Below.new we _), BoxL.new we z⟩)
                  obtain ⟨wz, hwz⟩ : ∃ wz, we.alloc (.cells #[.int .i64 z.l, .int .u64 z.c, .int .i64 z.i] 24) = wz := ⟨_, rfl⟩
                  obtain ⟨X, hX⟩ : ∃ X, we.heap.size = X := ⟨_, rfl⟩
                  rw [hwz, hX] at HZ
                  rw [hwz, hX]
                  clear hwz hX hb3
                  obtain ⟨x0, x1, x2⟩ := HZ.out.x.lab
                  obtain ⟨c0, c1, c2⟩ := HZ.out.s.c.lab
                  obtain ⟨fc0, fc1, fc2⟩ := HZ.out.s.c.frozen
                  obtain ⟨z0, z1, z2⟩ := HZ.out.s.r.lab
                  obtain ⟨fz0, fz1, fz2⟩ := HZ.out.s.r.frozen
                  cases hu : (x.join y).under high with
                  | true =>
                    obtain ⟨e5, e6⟩ := Prod.mk.inj ((HFl.out).symm.trans (float_ok HR3.out hu))
                    subst e5 e6
                    have HG := Lib.hid (show GnS w (((wz.setCell ⟨w.heap.size, 0, none⟩ (.int .i64 (x.join y).l)).setCell ⟨w.heap.size, 1, none⟩ (.int .u64 (x.join y).c)).setCell ⟨w.heap.size, 2, none⟩ (.int .i64 (x.join y).i)) (x.join y) high from HZ.out.s.setC (x.join y))
                    have HN2 := Lib.hid (HN.out ▸ pathGo_at HY.out hu)
                    clear hu
                    go_wp2
                    go_roundw
                    case rel => exact ⟨k2 + 1, x.join y, by omega, by simp, HG.out, HX.out.1.join HYf.out.1, Lab.right_join HX.out.2 HYf.out.2, HN2.out⟩
                    case measure => simp [intOf]; omega
                  | false =>
                    obtain ⟨e5, e6⟩ := Prod.mk.inj ((HFl.out).symm.trans (float_high HR3.out hu))
                    have e7 := e6.symm
                    subst e5 e7
                    clear e6
                    have hst := HN.out ▸ pathGo_off HY.out hu
                    clear hu
                    go_wp2
                    obtain ⟨e1, e2⟩ := Prod.mk.inj (HP.out.symm.trans hst)
                    obtain ⟨e3, e4⟩ := Prod.mk.inj e2
                    subst e1 e3 e4
                    have HU := Lib.hid (show Below w.heap.size w (((wz.setCell ⟨w.heap.size + 1 + 1, 0, none⟩ (.int .i64 xo.l)).setCell ⟨w.heap.size + 1 + 1, 1, none⟩ (.int .u64 xo.c)).setCell ⟨w.heap.size + 1 + 1, 2, none⟩ (.int .i64 xo.i)) ∧ BoxL (((wz.setCell ⟨w.heap.size + 1 + 1, 0, none⟩ (.int .i64 xo.l)).setCell ⟨w.heap.size + 1 + 1, 1, none⟩ (.int .u64 xo.c)).setCell ⟨w.heap.size + 1 + 1, 2, none⟩ (.int .i64 xo.i)) (w.heap.size + 1 + 1) xo from ⟨below_set3 HZ.out.s.b (by omega) _ _ _, HZ.out.s.r.set xo⟩)
                    obtain ⟨v0, v1, v2⟩ := HU.out.2.lab
                    have hbf := HU.out.1
                    clear HU x0 x1 x2 c0 c1 c2 fc0 fc1 fc2 z0 z1 z2 fz0 fz1 fz2 e2 hst
                    refine bodyPost_ret (v := .tuple #[.agg #[.int .i64 xo.l, .int .u64 xo.c, .int .i64 xo.i], .int .i64 (n : Int), .int .i64 120]) ?_ rfl ⟨rfl, hbf⟩
                    clear hbf
                    generalize (((wz.setCell ⟨w.heap.size + 1 + 1, 0, none⟩ (.int .i64 xo.l)).setCell ⟨w.heap.size + 1 + 1, 1, none⟩ (.int .u64 xo.c)).setCell ⟨w.heap.size + 1 + 1, 2, none⟩ (.int .i64 xo.i)) = WF at v0 v1 v2 ⊢
                    simp [results, Tryd.results23, go_sem, v0, v1, v2]
                · skip
                  have hN := Below.new wr.drew (.cells #[.int .i64 0, .int .u64 0, .int .i64 0] 24)
                  have hZ0 := boxZ_new wr.drew
                  go_simp
                  refine hK.out _ _ (PaS.more hS0 hN) (fun hSb => ?_)
                  clear hK K
                  try simp only [Act.put, List.setIfInBounds_toArray, List.set_cons_zero, List.set_cons_succ]
                  refine wpAnyH_ready (rs := [6]) (by kernel_rfl) (by simp) ?_
                  refine AllReadyH.cons (o := { dst := some 50, op := Go.Op.call { callee := Go.Callee.value (Go.Operand.func 13), args := #[Go.Operand.tmp 44, Go.Operand.tmp 48, Go.Operand.tmp 49], argTypes := #[24, 24, 24] }, type := 27, pos := "ref.go:32", after := #[{ on := 0, ground := Go.Ground.data }, { on := 4, ground := Go.Ground.data }, { on := 5, ground := Go.Ground.data }], guard := none }) rfl (fun K hK => ?_) AllReadyH.nil
                  go_simp
                  refine (HC3.out _ (below_more HD.out hN)).mono ?_
                  rintro e we ⟨rfl, hb3⟩
                  have hz1 : BoxL we wr.heap.size Lab.zero := hZ0.more hb3
                  have hmw := ((HM.out.more ((Below.refl _ wr).drew)).more hN).more hb3
                  refine hK.out _ _ (PaS.more hSb hb3) (fun hSc => ?_)
                  clear hK K
                  try simp only [Act.put, List.setIfInBounds_toArray, List.set_cons_zero, List.set_cons_succ]
                  refine wpAnyH_take (i := 7) (oi := { dst := some 43, op := Go.Op.move (Go.Operand.tmp 50), type := 27, pos := "ref.go:32", after := #[{ on := 6, ground := Go.Ground.data }], guard := none }) (v := ?_) rfl (by kernel_rfl) (by kernel_rfl) (by kernel_rfl) (fun _ _ _ h => h) (Or.inl ⟨by rfl, ?_⟩) hSc ?_
                  rotate_left
                  · (intro wq hSw; obtain ⟨⟨y0, y1, y2⟩, ⟨y3, y4, y5⟩, ⟨y6, y7, y8⟩⟩ := hSw; go_simp; try with_reducible rfl)
                  try simp only [Act.put, List.setIfInBounds_toArray, List.set_cons_zero, List.set_cons_succ]
                  refine wpAnyH_take (i := 8) (oi := { dst := some 51, op := Go.Op.extract (Go.Operand.tmp 43) 0, type := 24, pos := "ref.go:32", after := #[{ on := 7, ground := Go.Ground.data }], guard := none }) (v := ?_) rfl (by kernel_rfl) (by kernel_rfl) (by kernel_rfl) (fun _ _ _ h => h) (Or.inl ⟨by rfl, ?_⟩) hSc ?_
                  rotate_left
                  · (intro wq hSw; obtain ⟨⟨y0, y1, y2⟩, ⟨y3, y4, y5⟩, ⟨y6, y7, y8⟩⟩ := hSw; go_simp; try with_reducible rfl)
                  try simp only [Act.put, List.setIfInBounds_toArray, List.set_cons_zero, List.set_cons_succ]
                  refine wpAnyH_take (i := 9) (oi := { dst := some 52, op := Go.Op.extract (Go.Operand.tmp 43) 1, type := 26, pos := "ref.go:32", after := #[{ on := 7, ground := Go.Ground.data }, { on := 11, ground := Go.Ground.gcOnly Go.Departure.lateStores }], guard := none }) (v := ?_) rfl (by kernel_rfl) (by kernel_rfl) (by kernel_rfl) (fun _ _ _ h => h) (Or.inl ⟨by rfl, ?_⟩) hSc ?_
                  rotate_left
                  · (intro wq hSw; obtain ⟨⟨y0, y1, y2⟩, ⟨y3, y4, y5⟩, ⟨y6, y7, y8⟩⟩ := hSw; go_simp; try with_reducible rfl)
                  try simp only [Act.put, List.setIfInBounds_toArray, List.set_cons_zero, List.set_cons_succ]
                  have hlt : w.heap.size + 1 + 1 < wr.heap.size := HM.out.r.lt
                  have hlb : b < wr.heap.size := Nat.lt_of_lt_of_le HBl.out HM.out.b.size
                  refine wpAnyH_ready (rs := [11]) (by kernel_rfl) (by simp) ?_
                  refine AllReadyH.cons (o := { dst := none, op := Go.Op.store 24 (Go.Operand.tmp 12) (Go.Operand.tmp 51), type := 0, pos := "ref.go:32", after := #[{ on := 10, ground := Go.Ground.data }, { on := 8, ground := Go.Ground.data }, { on := 6, ground := Go.Ground.chain }, { on := 0, ground := Go.Ground.phase }, { on := 1, ground := Go.Ground.phase }, { on := 2, ground := Go.Ground.phase }, { on := 3, ground := Go.Ground.phase }, { on := 4, ground := Go.Ground.phase }, { on := 5, ground := Go.Ground.phase }, { on := 6, ground := Go.Ground.phase }, { on := 7, ground := Go.Ground.phase }, { on := 8, ground := Go.Ground.phase }, { on := 9, ground := Go.Ground.textOnly Go.Departure.lateStores }, { on := 10, ground := Go.Ground.phase }], guard := none }) rfl (fun K hK => ?_) AllReadyH.nil
                  obtain ⟨g0, g1, g2⟩ := hz1.lab
                  obtain ⟨fg0, fg1, fg2⟩ := hz1.frozen
                  go_simp
                  refine hK.out _ _ (PaS.set (X := wr.heap.size) hSc (by omega) (by omega)) (fun hS3 => ?_)
                  clear hK K
                  try simp only [Act.put, List.setIfInBounds_toArray, List.set_cons_zero, List.set_cons_succ]
                  refine wpAnyH_take (i := 12) (oi := { dst := some 13, op := Go.Op.assign (Go.Operand.tmp 52), type := 26, pos := "ref.go:32", after := #[{ on := 9, ground := Go.Ground.data }, { on := 11, ground := Go.Ground.chain }, { on := 0, ground := Go.Ground.phase }, { on := 1, ground := Go.Ground.phase }, { on := 2, ground := Go.Ground.phase }, { on := 3, ground := Go.Ground.phase }, { on := 4, ground := Go.Ground.phase }, { on := 5, ground := Go.Ground.phase }, { on := 6, ground := Go.Ground.phase }, { on := 7, ground := Go.Ground.phase }, { on := 8, ground := Go.Ground.phase }, { on := 9, ground := Go.Ground.phase }, { on := 10, ground := Go.Ground.phase }, { on := 11, ground := Go.Ground.phase }], guard := none }) (v := ?_) rfl (by kernel_rfl) (by kernel_rfl) (by kernel_rfl) (fun _ _ _ h => h) (Or.inl ⟨by rfl, ?_⟩) hS3 ?_
                  rotate_left
                  · (intro wq hSw; obtain ⟨⟨y0, y1, y2⟩, ⟨y3, y4, y5⟩, ⟨y6, y7, y8⟩⟩ := hSw; go_simp; try with_reducible rfl)
                  try simp only [Act.put, List.setIfInBounds_toArray, List.set_cons_zero, List.set_cons_succ]
                  refine wpAnyH_done (by kernel_rfl) ?_ _
                  have HZ := Lib.hid (show PaE w (((we.setCell ⟨wr.heap.size, 0, none⟩ (.int .i64 z.l)).setCell ⟨wr.heap.size, 1, none⟩ (.int .u64 z.c)).setCell ⟨wr.heap.size, 2, none⟩ (.int .i64 z.i)) x high z wr.heap.size from ⟨hmw.set3 hlt, hz1.set z⟩)
                  obtain ⟨wz, hwz⟩ : ∃ wz, (((we.setCell ⟨wr.heap.size, 0, none⟩ (.int .i64 z.l)).setCell ⟨wr.heap.size, 1, none⟩ (.int .u64 z.c)).setCell ⟨wr.heap.size, 2, none⟩ (.int .i64 z.i)) = wz := ⟨_, rfl⟩
                  obtain ⟨X, hX⟩ : ∃ X, wr.heap.size = X := ⟨_, rfl⟩
                  rw [hwz, hX] at HZ
                  rw [hwz, hX]
                  clear hwz hX hb3 hz1 hZ0 hN hlt hlb hmw
                  obtain ⟨x0, x1, x2⟩ := HZ.out.x.lab
                  obtain ⟨c0, c1, c2⟩ := HZ.out.s.c.lab
                  obtain ⟨fc0, fc1, fc2⟩ := HZ.out.s.c.frozen
                  obtain ⟨z0, z1, z2⟩ := HZ.out.s.r.lab
                  obtain ⟨fz0, fz1, fz2⟩ := HZ.out.s.r.frozen
                  cases hu : (x.join y).under high with
                  | true =>
                    obtain ⟨e5, e6⟩ := Prod.mk.inj ((HFl.out).symm.trans (float_ok HR3.out hu))
                    subst e5 e6
                    have HG := Lib.hid (show GnS w (((wz.setCell ⟨w.heap.size, 0, none⟩ (.int .i64 (x.join y).l)).setCell ⟨w.heap.size, 1, none⟩ (.int .u64 (x.join y).c)).setCell ⟨w.heap.size, 2, none⟩ (.int .i64 (x.join y).i)) (x.join y) high from HZ.out.s.setC (x.join y))
                    have HN2 := Lib.hid (HN.out ▸ pathGo_at HY.out hu)
                    clear hu
                    go_wp2
                    go_roundw
                    case rel => exact ⟨k2 + 1, x.join y, by omega, by simp, HG.out, HX.out.1.join HYf.out.1, Lab.right_join HX.out.2 HYf.out.2, HN2.out⟩
                    case measure => simp [intOf]; omega
                  | false =>
                    obtain ⟨e5, e6⟩ := Prod.mk.inj ((HFl.out).symm.trans (float_high HR3.out hu))
                    have e7 := e6.symm
                    subst e5 e7
                    clear e6
                    have hst := HN.out ▸ pathGo_off HY.out hu
                    clear hu
                    go_wp2
                    obtain ⟨e1, e2⟩ := Prod.mk.inj (HP.out.symm.trans hst)
                    obtain ⟨e3, e4⟩ := Prod.mk.inj e2
                    subst e1 e3 e4
                    have HU := Lib.hid (show Below w.heap.size w (((wz.setCell ⟨w.heap.size + 1 + 1, 0, none⟩ (.int .i64 xo.l)).setCell ⟨w.heap.size + 1 + 1, 1, none⟩ (.int .u64 xo.c)).setCell ⟨w.heap.size + 1 + 1, 2, none⟩ (.int .i64 xo.i)) ∧ BoxL (((wz.setCell ⟨w.heap.size + 1 + 1, 0, none⟩ (.int .i64 xo.l)).setCell ⟨w.heap.size + 1 + 1, 1, none⟩ (.int .u64 xo.c)).setCell ⟨w.heap.size + 1 + 1, 2, none⟩ (.int .i64 xo.i)) (w.heap.size + 1 + 1) xo from ⟨below_set3 HZ.out.s.b (by omega) _ _ _, HZ.out.s.r.set xo⟩)
                    obtain ⟨v0, v1, v2⟩ := HU.out.2.lab
                    have hbf := HU.out.1
                    clear HU x0 x1 x2 c0 c1 c2 fc0 fc1 fc2 z0 z1 z2 fz0 fz1 fz2 e2 hst
                    refine bodyPost_ret (v := .tuple #[.agg #[.int .i64 xo.l, .int .u64 xo.c, .int .i64 xo.i], .int .i64 (n : Int), .int .i64 120]) ?_ rfl ⟨rfl, hbf⟩
                    clear hbf
                    generalize (((wz.setCell ⟨w.heap.size + 1 + 1, 0, none⟩ (.int .i64 xo.l)).setCell ⟨w.heap.size + 1 + 1, 1, none⟩ (.int .u64 xo.c)).setCell ⟨w.heap.size + 1 + 1, 2, none⟩ (.int .i64 xo.i)) = WF at v0 v1 v2 ⊢
                    simp [results, Tryd.results23, go_sem, v0, v1, v2]
              · skip
                obtain rfl : k2 = k := by omega
                have hd2 : decide ((k2 : Int) < (k2 : Int)) = false := decide_eq_false (by omega)
                obtain ⟨c0, c1, c2⟩ := HM.out.c.lab
                obtain ⟨z0, z1, z2⟩ := HM.out.r.lab
                obtain ⟨fz0, fz1, fz2⟩ := HM.out.r.frozen
                have hst : pathGo high cur 0 zs = (0, k2, x) := by rw [HN.out, List.drop_of_length_le (by have := HF.out.2.2.2.1; omega)]; rfl
                obtain ⟨e1, e2⟩ := Prod.mk.inj (HP.out.symm.trans hst)
                obtain ⟨e3, e4⟩ := Prod.mk.inj e2
                subst e1 e3 e4
                clear e2 hst
                go_wp2
                have HU := Lib.hid (show Below w.heap.size w (((wr.setCell ⟨w.heap.size + 1 + 1, 0, none⟩ (.int .i64 xo.l)).setCell ⟨w.heap.size + 1 + 1, 1, none⟩ (.int .u64 xo.c)).setCell ⟨w.heap.size + 1 + 1, 2, none⟩ (.int .i64 xo.i)) ∧ BoxL (((wr.setCell ⟨w.heap.size + 1 + 1, 0, none⟩ (.int .i64 xo.l)).setCell ⟨w.heap.size + 1 + 1, 1, none⟩ (.int .u64 xo.c)).setCell ⟨w.heap.size + 1 + 1, 2, none⟩ (.int .i64 xo.i)) (w.heap.size + 1 + 1) xo from ⟨below_set3 HM.out.b (by omega) _ _ _, HM.out.r.set xo⟩)
                obtain ⟨v0, v1, v2⟩ := HU.out.2.lab
                have hbf := HU.out.1
                clear HU c0 c1 c2 z0 z1 z2 fz0 fz1 fz2
                refine bodyPost_ret (v := .tuple #[.agg #[.int .i64 xo.l, .int .u64 xo.c, .int .i64 xo.i], .int .i64 (n : Int), .int .i64 0]) ?_ rfl ⟨rfl, hbf⟩
                clear hbf
                generalize (((wr.setCell ⟨w.heap.size + 1 + 1, 0, none⟩ (.int .i64 xo.l)).setCell ⟨w.heap.size + 1 + 1, 1, none⟩ (.int .u64 xo.c)).setCell ⟨w.heap.size + 1 + 1, 2, none⟩ (.int .i64 xo.i)) = WF at v0 v1 v2 ⊢
                simp [results, Tryd.results23, go_sem, v0, v1, v2]

end Go.Proofs.YtciohfeifihobaaDoor
