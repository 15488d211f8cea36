/- text, Get, GetText, PutText. -/
import Derived.Test.YtpmelbjbkdflgaaDoorFldGet
namespace Go.Proofs.YtpmelbjbkdflgaaDoor
open Go.RowKit Go.Shelf Go.Proofs.Fld

def getRes (k : Int) (l : List UInt8) : Nat × List UInt8 × Int := if getC k l = 0 then (dec 0 (l.take k.toNat), l.drop k.toNat, 0) else (0, [], getC k l)
def textRes : List UInt8 → List UInt8 × List UInt8 × Int
  | [] => ([], [], 30)
  | b :: r => if 200 < b.toNat then ([], [], 31) else if r.length < b.toNat then ([], [], 30) else (r.take b.toNat, r.drop b.toNat, 0)
theorem textRes_cons (b : UInt8) (r : List UInt8) : textRes (b :: r) = if 200 < b.toNat then ([], [], 31) else if r.length < b.toNat then ([], [], 30) else (r.take b.toNat, r.drop b.toNat, 0) := rfl
def putTextRes (l : List UInt8) : List UInt8 × Int := if 200 < l.length then ([], 31) else (UInt8.ofNat l.length :: l, 0)

def GetPost (r : Nat × List UInt8 × Int) (w : World) (e : Ending) (w' : World) : Prop := e = .returned (.tuple #[.int .u64 (r.1 : Int), .string (bs r.2.1), .int .i64 r.2.2]) ∧ Below w.heap.size w w'
def TextPost (s : Sn) (R : Nat) (l : List UInt8) (w : World) (e : Ending) (w' : World) : Prop :=
  ∃ (ev : Value) (t : List UInt8), ErrIs s ev (textRes l).2.2 ∧ e = .returned (.tuple #[.string (bs t), ev]) ∧ w.grownBy w' (some R) ∧ ((textRes l).2.2 = 0 → t = (textRes l).1 ∧ Rd w' R (textRes l).2.1)
def SSC (r : List UInt8 × List UInt8 × Int) (w : World) (e : Ending) (w' : World) : Prop := e = .returned (.tuple #[.string (bs r.1), .string (bs r.2.1), .int .i64 r.2.2]) ∧ Below w.heap.size w w'

theorem only_drew {a w : World} {R : Nat} (h : a.grownBy w (some R)) : a.grownBy w.drew (some R) := ⟨h.os, h.tape, h.output, h.size, h.block⟩
theorem below_drew {B : Nat} {a w : World} (h : Below B a w) : Below B a w.drew := ⟨h.os, h.tape, h.output, h.size, h.block⟩

set_option maxRecDepth 100000 in
set_option maxHeartbeats 1000000 in
theorem text_any (s : Sn) (R : Nat) (hsn : s.w.block ≠ R ∧ s.f.block ≠ R ∧ s.g.block ≠ R) (l : List UInt8) (w : World) (hs : Sent s w) (hR : Rd w R l) :
    Calls Tryd.prog 31 #[.pointer (some ⟨R, 0, none⟩)] w (TextPost s R l w) := by
  have HP := Lib.hid (number_any s 1 (by decide) R hsn l w hs hR)
  have HH := Lib.hid (And.intro hs (And.intro hR hsn))
  clear hs hR hsn
  cases l with
  | nil =>
    go_enter Tryd.func31, Tryd.ntmps31
    go_wp2_with (go_at_call 30; refine HP.out.mono ?_)
    rintro e w1 ⟨x, ev, hev, rfl, hg, _⟩
    have hc : getC 1 [] = 30 := by decide
    rw [hc] at hev
    obtain ⟨fv, rfl⟩ := errIs_some hev (by decide)
    have HX := Lib.hid hev
    clear hev
    go_wp2
    go_ret2
    exact ⟨_, [], HX.out, rfl, hg, fun h => absurd h (by decide)⟩
  | cons b r =>
    have hbl : b.toNat < 256 := b.toNat_lt
    have hc : getC 1 (b :: r) = 0 := by unfold getC; rw [if_pos (by decide), if_neg (by simp)]
    have hd : dec 0 ((b :: r).take (1 : Int).toNat) = b.toNat := by show 0 * 256 + b.toNat = b.toNat; omega
    have HC := Lib.hid (And.intro hc hd)
    clear hc hd
    obtain ⟨y, hy⟩ : ∃ y, b.toNat = y := ⟨_, rfl⟩
    have HY := Lib.hid hy
    rw [hy] at hbl
    clear hy
    by_cases h200 : 200 < y
    · have ht : textRes (b :: r) = ([], [], 31) := by rw [textRes_cons, if_pos (by rw [HY.out]; exact h200)]
      have HT := Lib.hid ht
      clear ht
      go_enter Tryd.func31, Tryd.ntmps31
      go_wp2_with (go_at_call 30; refine HP.out.mono ?_)
      rintro e w1 ⟨x, ev, hev, rfl, hg, hok⟩
      rw [HC.out.1] at hev
      obtain rfl := errIs_zero hev
      obtain ⟨hx, hrd⟩ := hok HC.out.1
      rw [HC.out.2, HY.out] at hx
      subst hx
      have gg := (HH.out.1.only HH.out.2.1 HH.out.2.2 hg).cg
      clear hok hrd hev
      go_wp2
      go_region
      all_goals
        go_wp2
        go_ret2
        exact ⟨_, [], by rw [HT.out]; exact .great _, rfl, only_drew hg, fun h => by rw [HT.out] at h; exact absurd h (by decide)⟩
    · by_cases hr : r.length < y
      · have ht : textRes (b :: r) = ([], [], 30) := by rw [textRes_cons, if_neg (by rw [HY.out]; exact h200), if_pos (by rw [HY.out]; exact hr)]
        have HT := Lib.hid ht
        clear ht
        go_enter Tryd.func31, Tryd.ntmps31
        go_wp2_with (go_at_call 30; refine HP.out.mono ?_)
        rintro e w1 ⟨x, ev, hev, rfl, hg, hok⟩
        rw [HC.out.1] at hev
        obtain rfl := errIs_zero hev
        obtain ⟨hx, hrd⟩ := hok HC.out.1
        rw [HC.out.2, HY.out] at hx
        subst hx
        have hrd2 : Rd w1 R r := hrd
        have cr := hrd2.cell
        have gf := (HH.out.1.only HH.out.2.1 HH.out.2.2 hg).cf
        have hsz := bs_size r
        clear hok hrd hev hrd2
        go_wp2
        go_region
        all_goals
          go_wp2
          go_ret2
          exact ⟨_, [], by rw [HT.out]; exact .few _, rfl, only_drew hg, fun h => by rw [HT.out] at h; exact absurd h (by decide)⟩
      · have ht : textRes (b :: r) = (r.take y, r.drop y, 0) := by rw [textRes_cons, if_neg (by rw [HY.out]; exact h200), if_neg (by rw [HY.out]; exact hr), HY.out]
        have HT := Lib.hid ht
        clear ht
        go_enter Tryd.func31, Tryd.ntmps31
        go_wp2_with (go_at_call 30; refine HP.out.mono ?_)
        rintro e w1 ⟨x, ev, hev, rfl, hg, hok⟩
        rw [HC.out.1] at hev
        obtain rfl := errIs_zero hev
        obtain ⟨hx, hrd⟩ := hok HC.out.1
        rw [HC.out.2, HY.out] at hx
        subst hx
        have hrd2 : Rd w1 R r := hrd
        have cr := hrd2.cell
        have hsz := bs_size r
        have HR := Lib.hid hrd2
        clear hok hrd hev hrd2
        go_wp2_with (go_at_call 39; refine (cut_any R r x (by omega) w1 HR.out).mono ?_)
        rintro e w2 ⟨rfl, hg2, hrd3⟩
        go_wp2
        go_ret2
        exact ⟨_, _, by rw [HT.out]; exact .ok, rfl, only_trans hg hg2, fun _ => by rw [HT.out]; exact ⟨rfl, hrd3⟩⟩

/-- What a reader that the call itself has made leaves. -/
theorem below_read {w w2 : World} {o : Obj} (hg : (w.alloc o).grownBy w2 (some w.heap.size)) : Below w.heap.size w w2 :=
  (Below.new w o).grown hg (by simp) (fun k e => by cases e; exact Nat.le_refl _)
theorem Sent.apart {s : Sn} {w : World} (h : Sent s w) : s.w.block ≠ w.heap.size ∧ s.f.block ≠ w.heap.size ∧ s.g.block ≠ w.heap.size := by
  have := h.bw.lt
  have := h.bf.lt
  have := h.bg.lt
  omega

set_option maxRecDepth 100000 in
set_option maxHeartbeats 1000000 in
theorem get_any (s : Sn) (k : Int) (hk : (Lit.int .i64 k).wf = true) (l : List UInt8) (w : World) (hs : Sent s w) :
    Calls Tryd.prog 13 #[.int .i64 k, .string (bs l)] w (GetPost (getRes k l) w) := by
  have HP := Lib.hid (number_any s k hk w.heap.size hs.apart l (w.alloc (.cells #[.string (bs l)] 60)) (hs.alloc _) (Boxed.new _ _ _))
  have HS := Lib.hid hs
  clear hs hk
  by_cases hz : getC k l = 0
  · have hr : getRes k l = (dec 0 (l.take k.toNat), l.drop k.toNat, 0) := by unfold getRes; rw [if_pos hz]
    have HR := Lib.hid (And.intro hr hz)
    clear hr hz
    go_enter Tryd.func13, Tryd.ntmps13
    go_wp2_with (go_at_call 29; refine (read_any l w).mono ?_; rintro e w' ⟨rfl, rfl⟩)
    go_wp2_with (go_at_call 30; refine HP.out.mono ?_)
    rintro e w1 ⟨x, ev, hev, rfl, hg, hok⟩
    rw [HR.out.2] at hev
    obtain rfl := errIs_zero hev
    obtain ⟨hx, hrd⟩ := hok HR.out.2
    have cr := hrd.cell
    have HX := Lib.hid hx
    have hb := below_read hg
    clear hok hrd hev hx hg
    go_wp2
    go_region
    all_goals
      go_wp2
      go_ret3
      exact ⟨by rw [HR.out.1, HX.out]; rfl, below_drew hb⟩
  · have hr : getRes k l = (0, [], getC k l) := by unfold getRes; rw [if_neg hz]
    have HR := Lib.hid (And.intro hr hz)
    clear hr hz
    go_enter Tryd.func13, Tryd.ntmps13
    go_wp2_with (go_at_call 29; refine (read_any l w).mono ?_; rintro e w' ⟨rfl, rfl⟩)
    go_wp2_with (go_at_call 30; refine HP.out.mono ?_)
    rintro e w1 ⟨x, ev, hev, rfl, hg, hok⟩
    obtain ⟨fv, rfl⟩ := errIs_some hev HR.out.2
    have HX := Lib.hid hev
    have hb := below_read hg
    clear hok hev hg
    go_wp2_with (go_at_call 27; refine (told_any s HX.out w1 (HS.out.more hb)).mono ?_)
    rintro e w2 ⟨rfl, b2⟩
    go_wp2
    go_ret3
    exact ⟨by rw [HR.out.1]; rfl, below_more hb b2⟩

set_option maxRecDepth 100000 in
set_option maxHeartbeats 1000000 in
theorem getText_any (s : Sn) (l : List UInt8) (w : World) (hs : Sent s w) : Calls Tryd.prog 18 #[.string (bs l)] w (SSC (textRes l) w) := by
  have HP := Lib.hid (text_any s w.heap.size hs.apart l (w.alloc (.cells #[.string (bs l)] 60)) (hs.alloc _) (Boxed.new _ _ _))
  have HS := Lib.hid hs
  clear hs
  by_cases hz : (textRes l).2.2 = 0
  · have HZ := Lib.hid hz
    clear hz
    go_enter Tryd.func18, Tryd.ntmps18
    go_wp2_with (go_at_call 29; refine (read_any l w).mono ?_; rintro e w' ⟨rfl, rfl⟩)
    go_wp2_with (go_at_call 31; refine HP.out.mono ?_)
    rintro e w1 ⟨ev, t, hev, rfl, hg, hok⟩
    rw [HZ.out] at hev
    obtain rfl := errIs_zero hev
    obtain ⟨hx, hrd⟩ := hok HZ.out
    have cr := hrd.cell
    have HX := Lib.hid hx
    have hb := below_read hg
    clear hok hrd hev hx hg
    go_wp2
    go_region
    all_goals
      go_wp2
      go_ret3
      exact ⟨by rw [HZ.out, HX.out]; rfl, below_drew hb⟩
  · have HZ := Lib.hid hz
    have ht : textRes l = ([], [], (textRes l).2.2) := by
      cases l with
      | nil => rfl
      | cons b r =>
        rw [textRes_cons] at hz ⊢
        split
        · rfl
        · split
          · rfl
          · rename_i h1 h2
            rw [if_neg h1, if_neg h2] at hz
            exact absurd rfl hz
    have HT := Lib.hid ht
    clear hz ht
    go_enter Tryd.func18, Tryd.ntmps18
    go_wp2_with (go_at_call 29; refine (read_any l w).mono ?_; rintro e w' ⟨rfl, rfl⟩)
    go_wp2_with (go_at_call 31; refine HP.out.mono ?_)
    rintro e w1 ⟨ev, t, hev, rfl, hg, hok⟩
    obtain ⟨fv, rfl⟩ := errIs_some hev HZ.out
    have HX := Lib.hid hev
    have hb := below_read hg
    clear hok hev hg
    go_wp2_with (go_at_call 27; refine (told_any s HX.out w1 (HS.out.more hb)).mono ?_)
    rintro e w2 ⟨rfl, b2⟩
    go_wp2
    go_ret3
    exact ⟨by rw [HT.out]; rfl, below_more hb b2⟩

theorem putRes_one (n : Nat) (h : n < 256) : putRes 1 n = ([UInt8.ofNat n], 0) := by
  have hz : putC 1 n = 0 := by unfold putC; rw [if_pos (by decide), if_pos (by show n < 256 ^ 1; omega)]
  unfold putRes
  rw [if_pos hz]
  show ([UInt8.ofNat (n / 256 ^ 0)], (0 : Int)) = _
  simp

set_option maxRecDepth 100000 in
set_option maxHeartbeats 1000000 in
theorem putText_any (s : Sn) (l : List UInt8) (hl : l.length ≤ 4611686018427387904) (w : World) (hs : Sent s w) : Calls Tryd.prog 16 #[.string (bs l)] w (SC (putTextRes l) w) := by
  have hsz := bs_size l
  have HS := Lib.hid hs
  have gg := hs.cg
  by_cases h : 200 < l.length
  · have hr : putTextRes l = ([], 31) := by unfold putTextRes; rw [if_pos h]
    rw [hr]
    clear hs hr
    go_enter Tryd.func16, Tryd.ntmps16
    go_wp2_with (go_at_call 27; refine (told_g s _ w HS.out).mono ?_)
    rintro e w1 ⟨rfl, b1⟩
    go_wp2
    go_ret2
    exact ⟨rfl, b1⟩
  · have hr : putTextRes l = (UInt8.ofNat l.length :: l, 0) := by unfold putTextRes; rw [if_neg h]
    have HP := Lib.hid (put_any s 1 (by decide) l.length (by omega) w hs)
    have HO := Lib.hid (putRes_one l.length (by omega))
    have hs1 : (bs [UInt8.ofNat l.length]).size = 1 := bs_size _
    have hap : bs [UInt8.ofNat l.length] ++ bs l = bs (UInt8.ofNat l.length :: l) := bs_append _ _
    rw [hr]
    clear hs hr
    go_enter Tryd.func16, Tryd.ntmps16
    go_wp2_with (go_at_call 11; refine HP.out.mono ?_)
    rintro e w1 ⟨he, b1⟩
    have he2 : e = .returned (.tuple #[.string (bs [UInt8.ofNat l.length]), .int .i64 0]) := by rw [he, HO.out]
    subst he2
    clear he
    go_wp2
    go_ret2
    exact ⟨rfl, b1⟩

end Go.Proofs.YtpmelbjbkdflgaaDoor
