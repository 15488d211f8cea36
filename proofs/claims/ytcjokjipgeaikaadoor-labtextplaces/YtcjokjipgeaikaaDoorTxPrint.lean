/- Digits, glue, braced. -/
import Derived.Test.YtcjokjipgeaikaaDoorTxParse
import Derived.Lib.QuietBelow
import Derived.Maps.AppendAt
namespace Go.Proofs.YtcjokjipgeaikaaDoor
open Go.RowKit Go.Shelf Go.Proofs.Fld Go.Proofs.Tx Go.Proofs.Cats

attribute [local go_sem] bs_toList

/-- A number's digits: of what is below 0 none. -/
def digN (n : Int) : List UInt8 := if n < 0 then [] else dd n.toNat
theorem digN_nat (n : Nat) : digN (n : Int) = dd n := by
  unfold digN
  rw [if_neg (by omega)]
  rfl
theorem digN_neg {n : Int} (h : n < 0) : digN n = [] := by
  unfold digN
  rw [if_pos h]
theorem dd_len (n : Nat) : ∀ k, n < 10 ^ (k + 1) → (dd n).length ≤ k + 1 := by
  intro k
  induction k generalizing n with
  | zero =>
    intro h
    rw [dd_one (by simpa using h)]
    simp
  | succ k ih =>
    intro h
    by_cases hn : n < 10
    · rw [dd_one hn]
      simp
    · have e : dd n = dd (n / 10) ++ [UInt8.ofNat (48 + n % 10)] := by
        show Lib.decDigits _ = Lib.decDigits _ ++ _
        rw [Lib.decDigits, dif_neg hn]
      have h2 : n / 10 < 10 ^ (k + 1) := by
        rw [Nat.pow_succ] at h
        omega
      rw [e, List.length_append]
      have := ih (n / 10) h2
      simp
      omega

theorem below_grow (w : World) (k : Nat) (os : Array Obj) : Below w.heap.size w (Sort.grow (w.drewN k) os) :=
  ⟨rfl, rfl, rfl, by simp [Sort.grow], fun i hi => by simp [Sort.grow, Array.getElem?_append, hi]⟩

set_option maxHeartbeats 400000 in
theorem digits_neg (n : Int) (h : n < 0) (w : World) : Calls Tryd.prog 11 #[.int .i64 n] w fun e w' => e = .returned (.string (bs [])) ∧ w = w' := by
  go_enter Tryd.func11, Tryd.ntmps11
  go_wp2
  go_ret
  exact ⟨rfl, rfl⟩
def StrPost (l : List UInt8) (w : World) (e : Ending) (w' : World) : Prop := e = .returned (.string (bs l)) ∧ Below w.heap.size w w'
set_option maxHeartbeats 400000 in
theorem digits_any (ga : Addr) (n : Nat) (h : n ≤ 9223372036854775807) (w : World) (hE : Env ga w) : Calls Tryd.prog 11 #[.int .i64 (n : Int)] w (StrPost (dd n) w) := by
  have HT := Lib.hid hE.tab
  clear hE
  go_enter Tryd.func11, Tryd.ntmps11
  go_wp2_with fail
  refine (strconv_Itoa (n : Int) (by omega) (by omega) _ HT.out).mono ?_
  rintro e w' ⟨rfl, k, os, rfl⟩
  have hb := below_grow w k os
  generalize Sort.grow (w.drewN k) os = W at *
  go_wp2
  go_ret
  exact ⟨rfl, hb⟩

/-- A row of texts. -/
def Texts (w : World) (g : Nat) (xs : List (List UInt8)) : Prop := g < w.heap.size ∧ ∀ j x, xs[j]? = some x → w.cell? ⟨g, j, none⟩ = some (.string (bs x))
theorem joinB_nil (xs : List (List UInt8)) : Lib.join xs [] = xs.flatten := by
  cases xs with
  | nil => rfl
  | cons x r =>
    rw [Lib.join_cons]
    simp [Lib.joinTail]
theorem join_setT (l : List Nat) : Lib.join (l.map dd) [44] = setT l := by
  induction l with
  | nil => rfl
  | cons i l ih =>
    cases l with
    | nil => rw [List.map_cons, List.map_nil, Lib.join_one]; rfl
    | cons j l =>
      rw [List.map_cons, Lib.join_cons]
      rw [List.map_cons, Lib.join_cons] at ih
      show _ = dd i ++ 44 :: setT (j :: l)
      rw [← ih]
      simp [Lib.joinTail]
theorem join_bs (xs : List (List UInt8)) : (xs.map bs).map (·.data.toList) = xs := by
  rw [List.map_map]
  conv => rhs; rw [← List.map_id xs]
  rfl
theorem joinS (g c : Nat) (xs : List (List UInt8)) (sep : List UInt8) (w : World) (h : Texts w g xs) (hN : xs.length ≤ 1000000) (hc : xs.length ≤ c) (hl : (Lib.join xs sep).length ≤ 1000000) :
    Calls Tryd.prog 26 #[.slice (some ⟨g, 0, none⟩) xs.length c, .string (bs sep)] w (StrPost (Lib.join xs sep) w) := by
  have k := strings_Join g 0 c (xs.map bs) (bs sep) w (fun j x hj => by
    rw [List.getElem?_map] at hj
    obtain ⟨y, hy, rfl⟩ := Option.map_eq_some_iff.1 hj
    rw [Nat.zero_add]
    exact h.2 j y hy) h.1 (by rw [List.length_map]; omega) (by rw [List.length_map]; omega) (by rw [join_bs, bs_data]; omega)
  rw [List.length_map, join_bs, bs_data] at k
  exact k

set_option maxHeartbeats 400000 in
theorem glue_any (g c k : Nat) (xs : List (List UInt8)) (w : World) (h : Texts w g xs) (hk : xs.length = k) (hN : xs.length ≤ 1000000) (hc : xs.length ≤ c) (hl : xs.flatten.length ≤ 1000000) :
    Calls Tryd.prog 17 #[.slice (some ⟨g, 0, none⟩) k c] w (StrPost xs.flatten w) := by
  have HJ := Lib.hid (joinS g c xs [] w h hN hc (by rw [joinB_nil]; exact hl))
  rw [joinB_nil, hk] at HJ
  clear h hk hN hc hl
  go_enter Tryd.func17, Tryd.ntmps17
  go_wp2_with fail
  refine HJ.out.mono ?_
  rintro e w' ⟨rfl, hb⟩
  go_wp2
  go_ret
  exact ⟨rfl, hb⟩

theorem infoS : (Tryd.prog.info? 9).map (fun i => (i.zero, i.size, i.bytes)) = some (some (.string { data := #[] }), 1, 16) := by kernel_rfl

/-- The texts of the first j. -/
def strs (l : List Nat) : List Value := l.map fun i => Value.string (bs (dd i))
theorem strs_snoc (l : List Nat) (i : Nat) : strs (l ++ [i]) = strs l ++ [.string (bs (dd i))] := by simp [strs]
theorem strs_length (l : List Nat) : (strs l).length = l.length := by simp [strs]
theorem listTo_cl (s : Nat) : Ct.listTo s 64 = (cl s).map fun (i : Nat) => (i : Int) := rfl
theorem cl_length (s : Nat) : (cl s).length ≤ 64 := by
  unfold cl
  have := List.length_filter_le (fun i => s.testBit i) (List.range 64)
  simpa using this
theorem texts_of_row {w : World} {base n : Nat} {v : Value} {l : List Nat} (h : w.ownsRow base 9 1 v n (strs l)) (hn : n = l.length) (h0 : l ≠ []) : ∃ g cap, v = .slice (some ⟨g, 0, none⟩) n cap ∧ Texts w g (l.map dd) ∧ l.length ≤ cap := by
  subst hn
  rcases h.2 with ⟨rfl, hz⟩ | ⟨g, cap, cur, rfl, hb, hg, h1, h2, h3, h4⟩
  · exact absurd (List.length_eq_zero_iff.1 hz) h0
  · refine ⟨g, cap, rfl, ⟨(Array.getElem?_eq_some_iff.1 hg).1, fun j x hj => ?_⟩, h1⟩
    rw [List.getElem?_map] at hj
    obtain ⟨i, hi, rfl⟩ := Option.map_eq_some_iff.1 hj
    have hjl := (List.getElem?_eq_some_iff.1 hi).1
    have := World.ownsRow.cellAt h j (by omega)
    rw [this]
    simp [strs, hi]
theorem row_nil {w : World} {base e n : Nat} {v : Value} {xs : List Value} (h : w.ownsRow base e 1 v n xs) : ∃ a cap, v = .slice a n cap := by
  rcases h.2 with ⟨rfl, rfl⟩ | ⟨g, cap, cur, rfl, _⟩
  · exact ⟨none, 0, rfl⟩
  · exact ⟨_, cap, rfl⟩
theorem row_more {w w' : World} {base e n : Nat} {v : Value} {xs : List Value} (h : w.ownsRow base e 1 v n xs) (hb : Below w.heap.size w w') : w'.ownsRow base e 1 v n xs :=
  h.kept (row := none) ⟨hb.os, hb.tape, hb.output, hb.size, fun k hk _ => hb.block k hk⟩ (Classical.em _)
theorem setT_len (l : List Nat) (h : ∀ i, i ∈ l → i < 64) : (setT l).length ≤ 3 * l.length := by
  induction l with
  | nil => simp [setT]
  | cons i l ih =>
    have hi := dd_len i 1 (by have := h i List.mem_cons_self; omega)
    cases l with
    | nil => simp [setT]; omega
    | cons j l =>
      have := ih (fun k hk => h k (List.mem_cons_of_mem _ hk))
      show (dd i ++ 44 :: setT (j :: l)).length ≤ _
      rw [List.length_append, List.length_cons, List.length_cons]
      omega
theorem braced_len (s : Nat) : (braced s).length ≤ 200 := by
  unfold braced
  split
  · simp
  · have h1 := setT_len (cl s) (fun i hi => ((mem_cl s i).1 hi).1)
    have h2 := cl_length s
    rw [List.length_cons, List.length_append]
    simp
    omega
theorem texts3 (w : World) (a b c : List UInt8) : Texts (w.alloc (.cells #[.string (bs a), .string (bs b), .string (bs c)] 9)) w.heap.size [a, b, c] := by
  refine ⟨by simp, fun j x hj => ?_⟩
  rw [cell_of_row _ _ _ _ _ _ (World.alloc_heap_new w _)]
  match j with
  | 0 => injection hj with hj; subst hj; rfl
  | 1 => injection hj with hj; subst hj; rfl
  | 2 => injection hj with hj; subst hj; rfl
  | j + 3 => simp at hj
theorem texts5 (w : World) (a b c d e : List UInt8) : Texts (w.alloc (.cells #[.string (bs a), .string (bs b), .string (bs c), .string (bs d), .string (bs e)] 9)) w.heap.size [a, b, c, d, e] := by
  refine ⟨by simp, fun j x hj => ?_⟩
  rw [cell_of_row _ _ _ _ _ _ (World.alloc_heap_new w _)]
  match j with
  | 0 => injection hj with hj; subst hj; rfl
  | 1 => injection hj with hj; subst hj; rfl
  | 2 => injection hj with hj; subst hj; rfl
  | 3 => injection hj with hj; subst hj; rfl
  | 4 => injection hj with hj; subst hj; rfl
  | j + 5 => simp at hj

set_option maxRecDepth 100000 in
set_option maxHeartbeats 2000000 in
theorem braced_any (ga : Addr) (s : Nat) (hs : U64 s) (w : World) (hE : Env ga w) : Calls Tryd.prog 18 #[.int .u64 (s : Int)] w (StrPost (braced s) w) := by
  have HE := Lib.hid hE
  have HL := Lib.hid (Ct.list_any s hs ga w hE.gl)
  obtain ⟨i0, hi, hz0, hz1, hz2⟩ := info_parts infoS
  have hcl := cl_length s
  clear hE hs
  go_enter Tryd.func18, Tryd.ntmps18
  go_wp2_with fail
  refine HL.out.mono ?_
  rintro e w1 ⟨a, len, cap, rfl, hlen, hrow, hb1⟩
  rw [listTo_cl, List.length_map] at hlen hrow
  subst hlen
  have HI := Lib.hid (Ct.ints_of_owns (zs := (cl s).map fun (i : Nat) => (i : Int)) (by rw [List.length_map]; exact hrow))
  have HB1 := Lib.hid hb1
  have HE1 := Lib.hid (HE.out.more hb1)
  have hw1 := hb1.size
  clear hb1 hrow HL
  go_wp2
  go_loopw [3, 5, 9] (fun v _ i wr => ∃ k : Nat, k ≤ (cl s).length ∧ i = .int .i64 (k : Int) ∧ wr.ownsRow w1.heap.size 9 1 v k (strs ((cl s).take k)) ∧ Below w1.heap.size w1 wr) (fun _ _ i _ => (cl s).length - (intOf i).toNat)
  case atStart => exact ⟨0, Nat.zero_le _, rfl, World.ownsRow_nil _ _ _ _, Below.refl _ _⟩
  case round =>
    obtain ⟨k, hk, rfl, hown, hB⟩ := hrel
    by_cases hlt : k < (cl s).length
    · obtain ⟨i, hik⟩ : ∃ i, (cl s)[k]? = some i := ⟨_, List.getElem?_eq_getElem hlt⟩
      have hi64 : i < 64 := ((mem_cl s i).1 (List.mem_of_getElem? hik)).1
      obtain ⟨ao, cp, hsl, hII⟩ := HI.out
      obtain ⟨b, off, hao, hbw, hcell⟩ := hII (fun h => by rw [List.map_eq_nil_iff] at h; rw [h] at hlt; simp at hlt)
      have hsl2 : a = ao := by injection hsl
      subst hsl2
      subst hao
      have hc1 := hcell k (by rw [List.length_map]; exact hlt)
      have hget : ((cl s).map fun (i : Nat) => (i : Int))[k]?.getD 0 = (i : Int) := by rw [List.getElem?_map, hik]; rfl
      rw [hget] at hc1
      have hcr := (hB.cell (p := ⟨b, off + k, none⟩) hbw).trans hc1
      have HK := Lib.hid hik
      have HER := Lib.hid (HE1.out.more hB)
      have hsz := hB.size
      clear hik hsl hII hcell hc1 hget
      go_wp2_with fail
      refine (digits_any ga i (by omega) _ HER.out).mono ?_
      rintro e w2 ⟨rfl, hb2⟩
      have hb2s := hb2.size
      have hown2 := row_more hown hb2
      have hB2 := hB.trans (hb2.mono hsz)
      have HB2 := Lib.hid hB2
      have HO2 := Lib.hid hown
      clear hb2 hB hB2 hown hcr
      go_wp2_with (at_builtin; refine wpList_append_own _ rfl _ _ 55 rfl w1.heap.size 9 i0 (.string { data := #[] }) 1 16 Tryd.underlying55 hi hz0 hz1 hz2 rfl (by decide) _ _ _ rfl (hown2.alloc _) ⟨w2.heap.size, 0, none⟩ 1 1 [.string (bs (dd i))] rfl rfl (cell_one_new _ _ _) (by simp [Value.oneCell']) (by unfold maxLen; omega) (by omega) (by have := HB2.out.size; simp; omega) ?_; intro v' w3 hown' hgrow _)
      have hB3 := (HB2.out.alloc HB2.out.size (.cells #[.string (bs (dd i))] 9)).grown hgrow (by have := HB2.out.size; simp; omega) (fun k hk => (hown2.lt k hk).1)
      clear hown2 hgrow
      go_wp2
      go_roundw
      case rel =>
        refine ⟨k + 1, by omega, by go_num, ?_, hB3⟩
        rw [List.take_add_one, HK.out]
        have e : strs ((cl s).take k ++ [i]) = strs ((cl s).take k) ++ [.string (bs (dd i))] := strs_snoc _ _
        show w3.ownsRow _ _ _ _ _ (strs ((cl s).take k ++ [i]))
        rw [e]
        exact hown'
      case measure => simp [intOf]; omega
    · obtain rfl : k = (cl s).length := by omega
      rw [List.take_of_length_le (Nat.le_refl _)] at hown
      obtain ⟨ar, cr, rfl⟩ := row_nil hown
      by_cases h0 : cl s = []
      · have hz : (cl s).length = 0 := by rw [h0]; rfl
        have HBR := Lib.hid (show braced s = [] by unfold braced; rw [if_pos h0])
        have HB := Lib.hid (HB1.out.trans (hB.mono hw1))
        clear h0 hown hB
        go_wp2
        go_ret
        unfold StrPost
        rw [HBR.out]
        exact ⟨rfl, HB.out⟩
      · obtain ⟨g, cp, hv, htx, hcp⟩ := texts_of_row hown rfl h0
        injection hv with hv1 hv2 hv3
        subst hv1 hv3
        have h1 := setT_len (cl s) (fun i hi => ((mem_cl s i).1 hi).1)
        have hz : ¬ (cl s).length = 0 := fun h => h0 (List.length_eq_zero_iff.1 h)
        have hzb : (((cl s).length : Int) == 0) = false := by rw [beq_eq_false_iff_ne]; omega
        have HJ := joinS g cr ((cl s).map dd) [44] wr htx (by rw [List.length_map]; omega) (by rw [List.length_map]; exact hcp) (by rw [join_setT]; omega)
        rw [join_setT, List.length_map] at HJ
        have HJH := Lib.hid HJ
        have HBR := Lib.hid (show braced s = 123 :: (setT (cl s) ++ [125]) by unfold braced; rw [if_neg h0])
        have HB := Lib.hid (HB1.out.trans (hB.mono hw1))
        clear h0 hown hB htx HJ hz
        go_wp2_with fail
        refine HJH.out.mono ?_
        rintro e w4 ⟨rfl, hb4⟩
        have HB4 := Lib.hid (below_more HB.out hb4)
        clear hb4
        have HG := Lib.hid (glue_any w4.heap.size 3 3 [[123], setT (cl s), [125]] _ (texts3 w4 [123] (setT (cl s)) [125]) rfl (by simp) (by simp) (by simp; omega))
        go_wp2_with fail
        refine HG.out.mono ?_
        rintro e w5 ⟨rfl, hb5⟩
        go_wp2
        go_ret
        unfold StrPost
        rw [HBR.out]
        exact ⟨by simp, below_more (below_more HB4.out (Below.new _ _)) hb5⟩

end Go.Proofs.YtcjokjipgeaikaaDoor
