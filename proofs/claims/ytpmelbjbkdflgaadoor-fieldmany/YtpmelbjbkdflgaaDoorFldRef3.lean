/- The document's own Pack, Unpack, Nums. -/
import Derived.Test.YtpmelbjbkdflgaaDoorFldMany
import Derived.Test.YtpmelbjbkdflgaaDoorLawOrders
import Derived.Deep.RegionHeld3
namespace Go.Proofs.YtpmelbjbkdflgaaDoor
open Go.RowKit Go.Shelf Go.Proofs.Fld

theorem putRes_code (k : Int) (n : Nat) : (putRes k n).2 = putC k n := by
  unfold putRes
  by_cases h : putC k n = 0
  · rw [if_pos h, h]
  · rw [if_neg h]

set_option maxRecDepth 100000 in
set_option maxHeartbeats 2000000 in
theorem refNums_any (zs : List Int) (hN : zs.length ≤ 1048576) (aa ab : Option Addr) (ca cb : Nat) (w : World) (hA : SlI .u64 w.heap.size w aa zs) (hB : SlI .u64 w.heap.size w ab zs) :
    Calls Tryd.prog 25 #[.slice aa zs.length ca, .slice ab zs.length cb] w fun e w' => e = .returned (.bool true) ∧ Below w.heap.size w w' := by
  have HH := Lib.hid (And.intro hA hB)
  clear hA hB
  go_enter Tryd.func25, Tryd.ntmps25
  go_wp2
  go_loopw [5] (fun i wr => ∃ j : Nat, j ≤ zs.length ∧ i = .int .i64 (j : Int) ∧ Below w.heap.size w wr) (fun i _ => zs.length - (intOf i).toNat)
  case atStart => exact ⟨0, by omega, rfl, Below.refl _ _⟩
  case round =>
    obtain ⟨j, hj, rfl, hb⟩ := hrel
    by_cases hlt : j < zs.length
    · obtain ⟨x, hx⟩ : ∃ x, zs[j]'hlt = x := ⟨_, rfl⟩
      obtain ⟨ga, oa, rfl, hga, qa⟩ := (HH.out.1.below hb (Nat.le_refl _)) j hlt
      obtain ⟨gb, ob, rfl, hgb, qb⟩ := (HH.out.2.below hb (Nat.le_refl _)) j hlt
      rw [hx] at qa qb
      clear hx
      go_wp2
      go_region
      all_goals
        go_wp2
        go_roundw
        case rel => exact ⟨j + 1, by omega, by go_num, below_drew hb⟩
        case measure => simp [intOf]; omega
    · obtain rfl : j = zs.length := by omega
      go_wp2
      go_ret
      exact ⟨rfl, hb⟩

set_option maxHeartbeats 1000000 in
theorem refPack_len (N M : Nat) (hne : N ≠ M) (aw an : Option Addr) (cw cn : Nat) (w : World) :
    Calls Tryd.prog 22 #[.slice aw N cw, .slice an M cn] w (SC ([], 2) w) := by
  have hn : ((N : Int) != (M : Int)) = true := by simp; omega
  go_enter Tryd.func22, Tryd.ntmps22
  go_wp2
  go_ret2
  exact ⟨rfl, Below.refl _ _⟩

set_option maxRecDepth 100000 in
set_option maxHeartbeats 2000000 in
theorem refPack_eq (N : Nat) (ws : List Int) (ns : List Nat) (hwl : ws.length = N) (hnl : ns.length = N) (hN : N ≤ 1048576) (hnw : ∀ x ∈ ns, x < 18446744073709551616)
    (aw an : Option Addr) (cw cn : Nat) (w : World) (hW : SlI .i64 w.heap.size w aw ws) (hNs : SlI .u64 w.heap.size w an (ns.map fun (x : Nat) => (x : Int))) :
    Calls Tryd.prog 22 #[.slice aw N cw, .slice an N cn] w (SC (packRes ws ns) w) := by
  have HH := Lib.hid (And.intro hW hNs)
  have HL := Lib.hid (And.intro (And.intro hwl hnl) hnw)
  clear hW hNs hwl hnl hnw
  go_enter Tryd.func22, Tryd.ntmps22
  go_wp2
  go_loopw [6, 7] (fun v i wr => ∃ (k : Nat) (acc : List UInt8), k ≤ N ∧ i = .int .i64 (k : Int) ∧ v = .string (bs acc) ∧ Below w.heap.size w wr ∧ packC ws ns = packC (ws.drop k) (ns.drop k) ∧ packB ws ns = acc ++ packB (ws.drop k) (ns.drop k) ∧ acc.length ≤ 8 * k) (fun _ i _ => N - (intOf i).toNat)
  case atStart => exact ⟨0, [], by omega, rfl, rfl, Below.refl _ _, rfl, rfl, by simp⟩
  case round =>
    obtain ⟨k, acc, hk, rfl, rfl, hb, hc, hby, hal⟩ := hrel
    have HI := Lib.hid (And.intro hc hby)
    clear hc hby
    by_cases hlt : k < N
    · obtain ⟨kk, hkk⟩ : ∃ kk, ws[k]'(by rw [HL.out.1.1]; exact hlt) = kk := ⟨_, rfl⟩
      obtain ⟨x, hxx⟩ : ∃ x, ns[k]'(by rw [HL.out.1.2]; exact hlt) = x := ⟨_, rfl⟩
      obtain ⟨gw, ow, rfl, hgw, qw⟩ := (HH.out.1.below hb (Nat.le_refl _)) k (by rw [HL.out.1.1]; exact hlt)
      obtain ⟨gn, on, rfl, hgn, qn⟩ := (HH.out.2.below hb (Nat.le_refl _)) k (by rw [List.length_map, HL.out.1.2]; exact hlt)
      rw [hkk] at qw
      rw [List.getElem_map, hxx] at qn
      have hxw : x < 18446744073709551616 := HL.out.2 _ (hxx ▸ List.getElem_mem _)
      have hdw : Hid (ws.drop k = kk :: ws.drop (k + 1)) := Lib.hid (by rw [List.drop_eq_getElem_cons (by rw [HL.out.1.1]; exact hlt), hkk])
      have hdn : Hid (ns.drop k = x :: ns.drop (k + 1)) := Lib.hid (by rw [List.drop_eq_getElem_cons (by rw [HL.out.1.2]; exact hlt), hxx])
      clear hkk hxx
      rcases putRes_cases kk x with ⟨m, rfl, hm, hxm, e1⟩ | ⟨c, hc0, hc1, hc2, e1⟩
      · obtain ⟨y, hy⟩ : ∃ y, enc m x = y := ⟨_, rfl⟩
        have hyl : y.length = m := by rw [← hy, enc_length]
        obtain ⟨_, hmm, _, hm8⟩ := isW_le hm
        have hyl8 : y.length ≤ 8 := by omega
        have hz : Hid (putC (m : Int) x = 0) := Lib.hid (by rw [← putRes_code, e1])
        have HP := Lib.hid (fun w => (refPut_any (m : Int) x hxw w).mono (R' := fun e w' => e = .returned (.tuple #[.string (bs y), .int .i64 0]) ∧ Below w.heap.size w w') (fun e w' h => ⟨by rw [h.1, e1, hy], h.2⟩))
        have HY := Lib.hid hy
        have hsa := bs_size acc
        have hsy := bs_size y
        have hap : bs acc ++ bs y = bs (acc ++ y) := bs_append _ _
        clear hy e1 hm hxm hmm hm8 hyl hxw
        go_wp2
        go_region_held3 (fun w' => w'.cell? ⟨gw, ow + k, none⟩ = some (.int .i64 (m : Int)) ∧ w'.cell? ⟨gn, on + k, none⟩ = some (.int .u64 (x : Int)) ∧ Below w.heap.size w w')
          (first | (go_split_ands; exact ⟨cell_later hbc (by assumption), cell_later hbc (by assumption), below_more (by assumption) hbc⟩) | (exact ⟨qw, qn, below_drew hb⟩) | (go_keep; done))
          (first | (go_at_call 12; ((with_reducible refine (HP.out _).mono ?_); rintro e w' ⟨rfl, hbc⟩)))
        all_goals
          go_split_ands
          rename_i _ _ hbx
          go_wp2
          go_roundw
          case rel => exact ⟨k + 1, acc ++ y, by omega, by go_num, rfl, hbx, by rw [HI.out.1, hdw.out, hdn.out, packC_cons hz.out], by rw [HI.out.2, hdw.out, hdn.out, ← HY.out]; simp [packB], by rw [List.length_append]; omega⟩
          case measure => simp [intOf]; omega
      · have hz : Hid (putC kk x ≠ 0 ∧ putC kk x = c) := Lib.hid (by rw [← putRes_code, e1]; exact ⟨hc0, rfl⟩)
        have HP := Lib.hid (fun w => (refPut_any kk x hxw w).mono (R' := fun e w' => e = .returned (.tuple #[.string (bs []), .int .i64 c]) ∧ Below w.heap.size w w') (fun e w' h => ⟨by rw [h.1, e1], h.2⟩))
        have hr : packRes ws ns = ([], c) := by
          have hc' := HI.out.1
          rw [hdw.out, hdn.out, packC_stop hz.out.1, hz.out.2] at hc'
          unfold packRes
          rw [if_pos (HL.out.1.1.trans HL.out.1.2.symm), hc', if_neg hc0]
        have HR := Lib.hid hr
        clear hr e1 hxw hc0
        go_wp2
        go_region_held3 (fun w' => w'.cell? ⟨gw, ow + k, none⟩ = some (.int .i64 kk) ∧ w'.cell? ⟨gn, on + k, none⟩ = some (.int .u64 (x : Int)) ∧ Below w.heap.size w w')
          (first | (go_split_ands; exact ⟨cell_later hbc (by assumption), cell_later hbc (by assumption), below_more (by assumption) hbc⟩) | (exact ⟨qw, qn, below_drew hb⟩) | (go_keep; done))
          (first | (go_at_call 12; ((with_reducible refine (HP.out _).mono ?_); rintro e w' ⟨rfl, hbc⟩)))
        all_goals
          go_split_ands
          rename_i _ _ hbx
          go_wp2
          go_ret2
          exact ⟨by rw [HR.out]; rfl, hbx⟩
    · obtain rfl : k = N := by omega
      have hr : packRes ws ns = (acc, 0) := by
        have hc' := HI.out.1
        have hb' := HI.out.2
        rw [List.drop_of_length_le (by rw [HL.out.1.1]; exact Nat.le_refl _)] at hc' hb'
        have h0 : packC ws ns = 0 := hc'
        unfold packRes
        rw [if_pos (HL.out.1.1.trans HL.out.1.2.symm), if_pos h0, hb']
        simp [packB]
      have HR := Lib.hid hr
      clear hr
      go_wp2
      go_ret2
      exact ⟨by rw [HR.out]; rfl, hb⟩

theorem refPack_any (ws : List Int) (ns : List Nat) (hN : ns.length ≤ 1048576) (hnw : ∀ x ∈ ns, x < 18446744073709551616)
    (aw an : Option Addr) (cw cn : Nat) (w : World) (hW : SlI .i64 w.heap.size w aw ws) (hNs : SlI .u64 w.heap.size w an (ns.map fun (x : Nat) => (x : Int))) :
    Calls Tryd.prog 22 #[.slice aw ws.length cw, .slice an ns.length cn] w (SC (packRes ws ns) w) := by
  by_cases h : ws.length = ns.length
  · have := refPack_eq ns.length ws ns h rfl hN hnw aw an cw cn w hW hNs
    rw [h]
    exact this
  · have e : packRes ws ns = ([], 2) := by unfold packRes; rw [if_neg h]
    rw [e]
    exact refPack_len _ _ h aw an cw cn w

set_option maxRecDepth 100000 in
set_option maxHeartbeats 2000000 in
theorem refUnpack_eq (N : Nat) (ws : List Int) (hwl : ws.length = N) (hN : N ≤ 1048576) (l : List UInt8) (aw : Option Addr) (cw : Nat) (w : World) (hW : SlI .i64 w.heap.size w aw ws) :
    Calls Tryd.prog 24 #[.slice aw N cw, .string (bs l)] w (UnpackPost (unpackRes ws l) w) := by
  obtain ⟨i0, hi, hz0, hz1, hz2⟩ := info_parts infoU
  have HH := Lib.hid (And.intro hW hwl)
  clear hW hwl
  go_enter Tryd.func24, Tryd.ntmps24
  go_wp2
  go_loopw [1, 7, 8] (fun sv v i wr => ∃ (k : Nat) (rest : List UInt8) (nums : List Nat), k ≤ N ∧ i = .int .i64 (k : Int) ∧ sv = .string (bs rest) ∧ wr.ownsRow w.heap.size 22 1 v nums.length (u64s nums) ∧ Below w.heap.size w wr ∧
      numsC ws l = numsC (ws.drop k) rest ∧ numsL ws l = nums ++ numsL (ws.drop k) rest ∧ numsR ws l = numsR (ws.drop k) rest ∧ nums.length ≤ k) (fun _ _ i _ => N - (intOf i).toNat)
  case atStart => exact ⟨0, l, [], by omega, rfl, rfl, World.ownsRow_nil _ _ _ _, Below.refl _ _, rfl, rfl, rfl, by simp⟩
  case round =>
    obtain ⟨k, rest, nums, hk, rfl, rfl, hown, hb, hc, hl, hr, hnk⟩ := hrel
    have HI := Lib.hid (And.intro hc (And.intro hl hr))
    clear hc hl hr
    by_cases hlt : k < N
    · obtain ⟨kk, hkk⟩ : ∃ kk, ws[k]'(by rw [HH.out.2]; exact hlt) = kk := ⟨_, rfl⟩
      obtain ⟨gw, ow, rfl, hgw, qw⟩ := (HH.out.1.below hb (Nat.le_refl _)) k (by rw [HH.out.2]; exact hlt)
      rw [hkk] at qw
      have hdw : Hid (ws.drop k = kk :: ws.drop (k + 1)) := Lib.hid (by rw [List.drop_eq_getElem_cons (by rw [HH.out.2]; exact hlt), hkk])
      clear hkk
      have HG := Lib.hid (refGet_any kk rest wr)
      by_cases hz : getC kk rest = 0
      · have hg : getRes kk rest = (dec 0 (rest.take kk.toNat), rest.drop kk.toNat, 0) := by unfold getRes; rw [if_pos hz]
        obtain ⟨x, hx⟩ : ∃ x, dec 0 (rest.take kk.toNat) = x := ⟨_, rfl⟩
        obtain ⟨q, hq⟩ : ∃ q, rest.drop kk.toNat = q := ⟨_, rfl⟩
        rw [hx, hq] at hg
        have HE := Lib.hid (And.intro hg (And.intro hx (And.intro hq hz)))
        clear hg hx hq hz
        go_wp2_with (go_at_call 15; refine HG.out.mono ?_)
        rintro e w1 ⟨he, b1⟩
        have he2 : e = .returned (.tuple #[.int .u64 (x : Int), .string (bs q), .int .i64 0]) := by rw [he, HE.out.1]
        subst he2
        clear he
        have hown1 := row_cells hown (fun i c t fz hi => (b1.block i (Array.getElem?_eq_some_iff.1 hi).1).trans hi)
        have hb1 := below_more hb b1
        have hsz1 := hb1.size
        clear hown hb b1 qw
        go_wp2_with (at_builtin; refine wpList_append_own _ rfl _ _ 35 rfl w.heap.size 22 i0 (.int .u64 0) 1 8 Tryd.underlying35 hi hz0 hz1 hz2 rfl (by decide) _ nums.length (u64s nums) rfl (hown1.alloc _) ⟨w1.heap.size, 0, none⟩ 1 1 [.int .u64 (x : Int)] rfl rfl (cell_one_new _ _ _) (by simp [Value.oneCell']) (by unfold maxLen; omega) (by omega) (by simp; omega) ?_; intro v' w2 hown' hgrow _)
        have hB1 := (hb1.alloc hsz1 (.cells #[.int .u64 (x : Int)] 22)).grown hgrow (by simp; omega) (fun k hk => (hown1.lt k hk).1)
        clear hown1 hgrow hb1
        go_wp2
        go_roundw
        case rel => exact ⟨k + 1, q, nums ++ [x], by omega, by go_num, rfl, by simpa [u64s] using hown', hB1, by rw [HI.out.1, hdw.out, numsC, if_pos HE.out.2.2.2, HE.out.2.2.1], by rw [HI.out.2.1, hdw.out, numsL, HE.out.2.1, HE.out.2.2.1]; simp, by rw [HI.out.2.2, hdw.out, numsR, HE.out.2.2.1], by rw [List.length_append]; simp; omega⟩
        case measure => simp [intOf]; omega
      · have hg : getRes kk rest = (0, [], getC kk rest) := by unfold getRes; rw [if_neg hz]
        have hne : (getC kk rest != 0) = true := by simpa using hz
        have hu : unpackRes ws l = ([], [], getC kk rest) := by
          have hc' := HI.out.1
          rw [hdw.out, numsC, if_neg hz] at hc'
          unfold unpackRes
          rw [hc', if_neg hz]
        obtain ⟨d, hd⟩ : ∃ d, getC kk rest = d := ⟨_, rfl⟩
        rw [hd] at hg hne hu
        have HE := Lib.hid (And.intro hg hu)
        clear hg hz hu hd
        go_wp2_with (go_at_call 15; refine HG.out.mono ?_)
        rintro e w1 ⟨he, b1⟩
        have he2 : e = .returned (.tuple #[.int .u64 0, .string (bs []), .int .i64 d]) := by rw [he, HE.out.1]; rfl
        subst he2
        clear he
        go_wp2
        go_ret3
        rw [HE.out.2]
        exact ⟨none, 0, rfl, slI_nil _ _ _ _, below_more hb b1⟩
    · obtain rfl : k = N := by omega
      have hu : unpackRes ws l = (nums, rest, 0) := by
        have hd : ws.drop k = [] := List.drop_of_length_le (by rw [HH.out.2]; exact Nat.le_refl _)
        have h0 : numsC ws l = 0 := by rw [HI.out.1, hd]; rfl
        unfold unpackRes
        rw [if_pos h0, HI.out.2.1, HI.out.2.2, hd]
        simp [numsL, numsR]
      have HU := Lib.hid hu
      clear hu
      obtain ⟨va, vc, rfl⟩ := row_slice hown
      have hsl := Lib.hid (slI_row hown)
      clear hown
      go_wp2
      go_ret3
      rw [HU.out]
      exact ⟨va, vc, rfl, hsl.out, hb⟩

theorem refUnpack_any (ws : List Int) (hN : ws.length ≤ 1048576) (l : List UInt8) (aw : Option Addr) (cw : Nat) (w : World) (hW : SlI .i64 w.heap.size w aw ws) :
    Calls Tryd.prog 24 #[.slice aw ws.length cw, .string (bs l)] w (UnpackPost (unpackRes ws l) w) :=
  refUnpack_eq ws.length ws rfl hN l aw cw w hW

end Go.Proofs.YtpmelbjbkdflgaaDoor
