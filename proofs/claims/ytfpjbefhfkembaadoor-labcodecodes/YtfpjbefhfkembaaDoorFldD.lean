/- Merged texts: FldRef, FldRef2, FldMany, FldRef3 -/
import Derived.Test.YtfpjbefhfkembaaDoorFldB
import Derived.Test.YtfpjbefhfkembaaDoorFldC
import Derived.Laws.IdiomStrings
import Derived.Laws.BytesArg
import Derived.Maps.AppendAt
import Derived.Deep.RegionHeld3
/- The document's own answers: numbers. -/
namespace Go.Proofs.YtfpjbefhfkembaaDoor
open Go.RowKit Go.Shelf Go.Proofs.Fld

set_option maxHeartbeats 1000000 in
theorem refIs_any (k : Int) (w : World) : Calls Tryd.prog 63 #[.int .i64 k] w fun e w' => e = .returned (.bool (decide (isW k))) ∧ w = w' := by
  by_cases h1 : k = 1
  · subst h1
    go_enter Tryd.func63, Tryd.ntmps63
    go_wp2
    go_ret
    exact ⟨rfl, rfl⟩
  by_cases h2 : k = 2
  · subst h2
    go_enter Tryd.func63, Tryd.ntmps63
    go_wp2
    go_ret
    exact ⟨rfl, rfl⟩
  by_cases h4 : k = 4
  · subst h4
    go_enter Tryd.func63, Tryd.ntmps63
    go_wp2
    go_ret
    exact ⟨rfl, rfl⟩
  by_cases h8 : k = 8
  · subst h8
    go_enter Tryd.func63, Tryd.ntmps63
    go_wp2
    go_ret
    exact ⟨rfl, rfl⟩
  have e : decide (isW k) = false := by simp [isW, h1, h2, h4, h8]
  rw [e]
  have b1 : (k == 1) = false := by simpa using h1
  have b2 : (k == 2) = false := by simpa using h2
  have b4 : (k == 4) = false := by simpa using h4
  have b8 : (k == 8) = false := by simpa using h8
  go_enter Tryd.func63, Tryd.ntmps63
  go_wp2
  go_ret
  exact ⟨rfl, rfl⟩

theorem infoY : (Tryd.prog.info? 5).map (fun i => (i.zero, i.size, i.bytes)) = some (some (.int .u8 0), 1, 1) := by kernel_rfl
set_option maxRecDepth 100000 in
theorem row_str {W : World} {base : Nat} {a : Option Addr} {n cap : Nat} {l : List UInt8} (h : W.ownsRow base 5 1 (.slice a n cap) n (Lib.byteCells l)) (hl : l.length = n) : (convert 74 9 (.slice a n cap)).run Tryd.prog W = .ok (.string (bs l)) W := by
  subst hl
  rcases h.2 with ⟨hv, h0⟩ | ⟨g, c, cur, hv, _⟩
  · obtain rfl : l = [] := List.length_eq_zero_iff.1 h0
    obtain ⟨h1, _, _⟩ := Value.slice.inj hv
    subst h1
    exact run_convert_bytes_nil _ _ _ Tryd.underlying74 Tryd.underlying5 _ _ _ Tryd.underlying9
  · injection hv with h1 h2 h3
    subst h1
    refine run_convert_bytes_back W _ _ _ _ cap l Tryd.underlying74 Tryd.underlying5 Tryd.underlying9 (fun j hj => ?_)
    have := World.ownsRow.cells h (g := g) rfl j (.int .u8 (l[j].toNat : Int)) (by simp [Lib.byteCells, hj])
    exact this

set_option maxHeartbeats 1000000 in
theorem refPut_bad (k : Int) (h : ¬ isW k) (n : Nat) (w : World) : Calls Tryd.prog 44 #[.int .i64 k, .int .u64 n] w (SC (putRes k n) w) := by
  have e : putRes k n = ([], 2) := by simp [putRes, putC, h]
  rw [e]
  have hd : decide (isW k) = false := by simp [h]
  have HD := Lib.hid hd
  clear hd h e
  go_enter Tryd.func44, Tryd.ntmps44
  go_wp2_with (go_at_call 63; refine (refIs_any k w).mono ?_; rintro e w' ⟨he, rfl⟩; rw [HD.out] at he; subst he)
  go_ret2
  exact ⟨rfl, Below.refl _ _⟩

theorem wrap_pow (m : Nat) (h : m < 8) : IntKind.u64.wrap (2 ^ (8 * m)) = ((256 ^ m : Nat) : Int) := by
  rw [IntKind.wrap_u64]
  obtain rfl | rfl | rfl | rfl | rfl | rfl | rfl | rfl : m = 0 ∨ m = 1 ∨ m = 2 ∨ m = 3 ∨ m = 4 ∨ m = 5 ∨ m = 6 ∨ m = 7 := by omega
  all_goals decide

set_option maxRecDepth 100000 in
set_option maxHeartbeats 1000000 in
theorem refPut_ok (m : Nat) (hm : isW (m : Int)) (n : Nat) (hn : n < 256 ^ m) (w : World) : Calls Tryd.prog 44 #[.int .i64 (m : Int), .int .u64 n] w (SC (enc m n, 0) w) := by
  have hd : decide (isW (m : Int)) = true := by simp [hm]
  have HD := Lib.hid hd
  obtain ⟨m', hm', hm1, hm8⟩ := isW_le hm
  obtain rfl : m = m' := by omega
  clear hd hm hm'
  obtain ⟨i0, hi, hz0, hz1, hz2⟩ := info_parts infoY
  by_cases h8 : m < 8
  · have hc : (n : Int) < IntKind.u64.wrap (2 ^ (8 * m)) := by rw [wrap_pow m h8]; omega
    clear hn
    go_enter Tryd.func44, Tryd.ntmps44
    go_wp2_with (go_at_call 63; refine (refIs_any m w).mono ?_; rintro e w' ⟨he, rfl⟩; rw [HD.out] at he; subst he)
    go_loopw [6, 7] (fun v i wr => ∃ j : Nat, j ≤ m ∧ i = .int .i64 ((m : Int) - 1 - j) ∧ wr.ownsRow w.heap.size 5 1 v j (Lib.byteCells ((enc m n).take j)) ∧ Below w.heap.size w wr) (fun _ i _ => (intOf i + 1).toNat)
    case atStart => exact ⟨0, by omega, by simp, World.ownsRow_nil _ _ _ _, Below.refl _ _⟩
    case round =>
      obtain ⟨j, hj, rfl, hown, hB⟩ := hrel
      by_cases hjl : j < m
      · have hg : (0 : Int) ≤ (m : Int) - 1 - j := by omega
        have hbe : (n : Int) / 2 ^ (8 * (m - 1 - j)) % 256 = (((UInt8.ofNat (n / 256 ^ (m - 1 - j))).toNat : Nat) : Int) := by
          rw [ofNat_toNat, show (256 : Nat) = 2 ^ 8 by rfl, ← Nat.pow_mul]
          push_cast
          rfl
        obtain ⟨b, hb⟩ : ∃ b, UInt8.ofNat (n / 256 ^ (m - 1 - j)) = b := ⟨_, rfl⟩
        rw [hb] at hbe
        have hte : (enc m n).take (j + 1) = (enc m n).take j ++ [b] := by rw [List.take_add_one, enc_get m n j hjl, hb]; rfl
        have HT := Lib.hid hte
        clear hte hb
        go_wp2_with (at_builtin; refine wpList_append_own _ rfl _ _ 74 rfl w.heap.size 5 i0 (.int .u8 0) 1 1 Tryd.underlying74 hi hz0 hz1 hz2 rfl (by decide) _ _ _ rfl (hown.alloc _) ⟨wr.heap.size, 0, none⟩ 1 1 [.int .u8 (b.toNat : Int)] rfl rfl (cell_one_new _ _ _) (by simp [Value.oneCell']) (by unfold maxLen; omega) (by omega) (by have := hB.size; simp; omega) ?_; intro v' w2 hown' hgrow _)
        have hB1 := (hB.alloc (by have := hB.size; omega) (.cells #[.int .u8 (b.toNat : Int)] 5)).grown hgrow (by have := hB.size; simp; omega) (fun k hk => (hown.lt k hk).1)
        clear hown hgrow hB
        go_wp2
        go_roundw
        case rel => exact ⟨j + 1, by omega, by go_num, by rw [HT.out, Lib.byteCells_append]; exact hown', hB1⟩
        case measure => simp [intOf]; omega
      · obtain rfl : j = m := by omega
        obtain ⟨va, vc, rfl⟩ := row_slice hown
        have hte : (enc j n).take j = enc j n := List.take_of_length_le (by rw [enc_length]; exact Nat.le_refl _)
        rw [hte] at hown
        have hcv := row_str hown (enc_length j n)
        go_wp2
        go_ret2
        exact ⟨rfl, hB⟩
  · have hc : ¬ (m : Int) < 8 := by omega
    clear hn
    go_enter Tryd.func44, Tryd.ntmps44
    go_wp2_with (go_at_call 63; refine (refIs_any m w).mono ?_; rintro e w' ⟨he, rfl⟩; rw [HD.out] at he; subst he)
    go_loopw [6, 7] (fun v i wr => ∃ j : Nat, j ≤ m ∧ i = .int .i64 ((m : Int) - 1 - j) ∧ wr.ownsRow w.heap.size 5 1 v j (Lib.byteCells ((enc m n).take j)) ∧ Below w.heap.size w wr) (fun _ i _ => (intOf i + 1).toNat)
    case atStart => exact ⟨0, by omega, by simp, World.ownsRow_nil _ _ _ _, Below.refl _ _⟩
    case round =>
      obtain ⟨j, hj, rfl, hown, hB⟩ := hrel
      by_cases hjl : j < m
      · have hg : (0 : Int) ≤ (m : Int) - 1 - j := by omega
        have hbe : (n : Int) / 2 ^ (8 * (m - 1 - j)) % 256 = (((UInt8.ofNat (n / 256 ^ (m - 1 - j))).toNat : Nat) : Int) := by
          rw [ofNat_toNat, show (256 : Nat) = 2 ^ 8 by rfl, ← Nat.pow_mul]
          push_cast
          rfl
        obtain ⟨b, hb⟩ : ∃ b, UInt8.ofNat (n / 256 ^ (m - 1 - j)) = b := ⟨_, rfl⟩
        rw [hb] at hbe
        have hte : (enc m n).take (j + 1) = (enc m n).take j ++ [b] := by rw [List.take_add_one, enc_get m n j hjl, hb]; rfl
        have HT := Lib.hid hte
        clear hte hb
        go_wp2_with (at_builtin; refine wpList_append_own _ rfl _ _ 74 rfl w.heap.size 5 i0 (.int .u8 0) 1 1 Tryd.underlying74 hi hz0 hz1 hz2 rfl (by decide) _ _ _ rfl (hown.alloc _) ⟨wr.heap.size, 0, none⟩ 1 1 [.int .u8 (b.toNat : Int)] rfl rfl (cell_one_new _ _ _) (by simp [Value.oneCell']) (by unfold maxLen; omega) (by omega) (by have := hB.size; simp; omega) ?_; intro v' w2 hown' hgrow _)
        have hB1 := (hB.alloc (by have := hB.size; omega) (.cells #[.int .u8 (b.toNat : Int)] 5)).grown hgrow (by have := hB.size; simp; omega) (fun k hk => (hown.lt k hk).1)
        clear hown hgrow hB
        go_wp2
        go_roundw
        case rel => exact ⟨j + 1, by omega, by go_num, by rw [HT.out, Lib.byteCells_append]; exact hown', hB1⟩
        case measure => simp [intOf]; omega
      · obtain rfl : j = m := by omega
        obtain ⟨va, vc, rfl⟩ := row_slice hown
        have hte : (enc j n).take j = enc j n := List.take_of_length_le (by rw [enc_length]; exact Nat.le_refl _)
        rw [hte] at hown
        have hcv := row_str hown (enc_length j n)
        go_wp2
        go_ret2
        exact ⟨rfl, hB⟩

set_option maxHeartbeats 1000000 in
theorem refPut_great (m : Nat) (hm : isW (m : Int)) (n : Nat) (h2 : n < 18446744073709551616) (hn : ¬ n < 256 ^ m) (w : World) : Calls Tryd.prog 44 #[.int .i64 (m : Int), .int .u64 n] w (SC ([], 31) w) := by
  have hd : decide (isW (m : Int)) = true := by simp [hm]
  have HD := Lib.hid hd
  obtain ⟨m', hm', hm1, hm8⟩ := isW_le hm
  obtain rfl : m = m' := by omega
  clear hd hm hm'
  have h8 : m < 8 := by
    rcases Nat.lt_or_ge m 8 with h | h
    · exact h
    · obtain rfl : m = 8 := by omega
      exact absurd (show n < 256 ^ 8 by omega) hn
  have hc : IntKind.u64.wrap (2 ^ (8 * m)) ≤ (n : Int) := by rw [wrap_pow m h8]; omega
  clear hn h2
  go_enter Tryd.func44, Tryd.ntmps44
  go_wp2_with (go_at_call 63; refine (refIs_any m w).mono ?_; rintro e w' ⟨he, rfl⟩; rw [HD.out] at he; subst he)
  go_ret2
  exact ⟨rfl, Below.refl _ _⟩

theorem refPut_any (k : Int) (n : Nat) (hn : n < 18446744073709551616) (w : World) : Calls Tryd.prog 44 #[.int .i64 k, .int .u64 n] w (SC (putRes k n) w) := by
  by_cases hk : isW k
  · obtain ⟨m, rfl, _, _⟩ := isW_le hk
    by_cases h : n < 256 ^ m
    · have e : putRes (m : Int) n = (enc m n, 0) := by
        have hz : putC (m : Int) n = 0 := by unfold putC; rw [if_pos hk, if_pos (by simpa using h)]
        unfold putRes
        rw [if_pos hz]
        rfl
      rw [e]
      exact refPut_ok m hk n h w
    · have e : putRes (m : Int) n = ([], 31) := by
        have hz : putC (m : Int) n = 31 := by unfold putC; rw [if_pos hk, if_neg (by simpa using h)]
        unfold putRes
        rw [hz]
        rfl
      rw [e]
      exact refPut_great m hk n hn h w
  · exact refPut_bad k hk n w

end Go.Proofs.YtfpjbefhfkembaaDoor

/- The document's own answers: Get, PutText, GetText. -/
namespace Go.Proofs.YtfpjbefhfkembaaDoor
open Go.RowKit Go.Shelf Go.Proofs.Fld

theorem dec_take_succ (l : List UInt8) (j : Nat) (h : j < l.length) : dec 0 (l.take (j + 1)) = 256 * dec 0 (l.take j) + (l[j]'h).toNat := by
  rw [List.take_add_one, List.getElem?_eq_getElem h]
  have key : ∀ (p : List UInt8) (b : UInt8) (acc : Nat), dec acc (p ++ [b]) = 256 * dec acc p + b.toNat := by
    intro p b
    induction p with
    | nil => intro acc; show acc * 256 + b.toNat = 256 * acc + b.toNat; omega
    | cons c r ih => intro acc; exact ih _
  exact key _ _ _
theorem str_at (l : List UInt8) (j : Nat) (h : j < l.length) (w : World) : (Instr.index 9 (.string (bs l)) (.int .i64 (j : Int))).run Tryd.prog w = .ok (.int .u8 ((l[j]'h).toNat : Int)) w := by
  rw [run_index_string _ _ _ _ _ Tryd.underlying9, dif_pos (by rw [bs_size]; omega)]
  rfl

set_option maxRecDepth 100000 in
set_option maxHeartbeats 1000000 in
theorem refGet_any (k : Int) (l : List UInt8) (w : World) : Calls Tryd.prog 47 #[.int .i64 k, .string (bs l)] w (GetPost (getRes k l) w) := by
  have hsz := bs_size l
  by_cases hk : isW k
  · have HD := Lib.hid (show decide (isW k) = true by simp [hk])
    obtain ⟨m, rfl, hm1, hm8⟩ := isW_le hk
    by_cases hl : l.length < m
    · have hr : getRes (m : Int) l = (0, [], 30) := by unfold getRes; rw [getC_few hk hl]; rfl
      rw [hr]
      clear hk hr
      go_enter Tryd.func47, Tryd.ntmps47
      go_wp2_with (go_at_call 63; refine (refIs_any m w).mono ?_; rintro e w' ⟨he, rfl⟩; rw [HD.out] at he; subst he)
      go_ret3
      exact ⟨rfl, Below.refl _ _⟩
    · have hr : getRes (m : Int) l = (dec 0 (l.take m), l.drop m, 0) := by unfold getRes; rw [getC_ok hk (by omega), if_pos rfl]; rfl
      rw [hr]
      have hfr := str_from l m (by omega)
      clear hk hr
      go_enter Tryd.func47, Tryd.ntmps47
      go_wp2_with (go_at_call 63; refine (refIs_any m w).mono ?_; rintro e w' ⟨he, rfl⟩; rw [HD.out] at he; subst he)
      go_loopw [7, 8] (fun v i wr => ∃ j : Nat, j ≤ m ∧ i = .int .i64 (j : Int) ∧ v = .int .u64 ((dec 0 (l.take j) : Nat) : Int) ∧ w = wr) (fun _ i _ => m - (intOf i).toNat)
      case atStart => exact ⟨0, by omega, rfl, rfl, rfl⟩
      case round =>
        obtain ⟨j, hj, rfl, rfl, rfl⟩ := hrel
        by_cases hjl : j < m
        · have hat := str_at l j (by omega)
          obtain ⟨b, hb⟩ : ∃ b, (l[j]'(by omega)) = b := ⟨_, rfl⟩
          have hds := dec_take_succ l j (by omega)
          rw [hb] at hat hds
          obtain ⟨x, hx⟩ : ∃ x, dec 0 (l.take j) = x := ⟨_, rfl⟩
          have hxl : x < 72057594037927936 := by
            have h1 := dec_lt (l.take j)
            have h2 : 256 ^ (l.take j).length ≤ 256 ^ 7 := Nat.pow_le_pow_right (by decide) (by rw [List.length_take]; omega)
            rw [hx] at h1
            omega
          have hbl : b.toNat < 256 := b.toNat_lt
          rw [hx] at hds ⊢
          have HX := Lib.hid hds
          clear hds hx hb
          go_wp2
          go_roundw
          case rel => exact ⟨j + 1, by omega, by go_num, by rw [HX.out]; go_num, by first | rfl | trivial⟩
          case measure => simp [intOf]; omega
        · obtain rfl : j = m := by omega
          go_wp2
          go_region
          all_goals
            go_wp2
            go_ret3
            exact ⟨rfl, below_drew (Below.refl _ _)⟩
  · have hr : getRes k l = (0, [], 2) := by
      have hc : getC k l = 2 := by unfold getC; rw [if_neg hk]
      unfold getRes
      rw [hc]
      rfl
    rw [hr]
    have HD := Lib.hid (show decide (isW k) = false by simp [hk])
    clear hk hr
    go_enter Tryd.func47, Tryd.ntmps47
    go_wp2_with (go_at_call 63; refine (refIs_any k w).mono ?_; rintro e w' ⟨he, rfl⟩; rw [HD.out] at he; subst he)
    go_ret3
    exact ⟨rfl, Below.refl _ _⟩

end Go.Proofs.YtfpjbefhfkembaaDoor

/- Unpack; the document's Pack, Unpack, Nums; the first twenty. -/
namespace Go.Proofs.YtfpjbefhfkembaaDoor
open Go.RowKit Go.Shelf Go.Proofs.Fld

def unpackRes (ws : List Int) (l : List UInt8) : List Nat × List UInt8 × Int := if numsC ws l = 0 then (numsL ws l, numsR ws l, 0) else ([], [], numsC ws l)

/-- A new slice of numbers, what is behind, and the code. -/
def UnpackPost (r : List Nat × List UInt8 × Int) (w : World) (e : Ending) (w' : World) : Prop :=
  ∃ (a : Option Addr) (cap : Nat), e = .returned (.tuple #[.slice a r.1.length cap, .string (bs r.2.1), .int .i64 r.2.2]) ∧ SlI .u64 w'.heap.size w' a (r.1.map fun (x : Nat) => (x : Int)) ∧ Below w.heap.size w w'

theorem slI_row {W : World} {base : Nat} {a : Option Addr} {n cap : Nat} {l : List Nat} (h : W.ownsRow base 22 1 (.slice a n cap) l.length (u64s l)) : SlI .u64 W.heap.size W a (l.map fun (x : Nat) => (x : Int)) := by
  intro j hj
  rw [List.length_map] at hj
  rcases h.2 with ⟨_, h0⟩ | ⟨g, c, cur, hv, _, hg, _⟩
  · omega
  · obtain ⟨rfl, _, _⟩ := Value.slice.inj hv
    have hc := World.ownsRow.cells h (g := g) rfl j (.int .u64 ((l[j] : Nat) : Int)) (by simp [u64s, hj])
    refine ⟨g, 0, rfl, (Array.getElem?_eq_some_iff.1 hg).1, ?_⟩
    rw [List.getElem_map]
    have e : ((⟨g, 0, none⟩ : Addr).add j) = ⟨g, 0 + j, none⟩ := by
      unfold Addr.add
      by_cases hj0 : j = 0
      · subst hj0; simp
      · simp [hj0]
    rw [← e]
    exact hc
theorem slI_nil (q : IntKind) (B : Nat) (w : World) (a : Option Addr) : SlI q B w a [] := fun j hj => by simp at hj
theorem SlI.drew {q : IntKind} {B : Nat} {w : World} {a : Option Addr} {zs : List Int} (h : SlI q B w a zs) : SlI q B w.drew a zs := h

set_option maxRecDepth 100000 in
set_option maxHeartbeats 1000000 in
theorem unpack_any (s : Sn) (ws : List Int) (hN : ws.length ≤ 1048576) (hww : ∀ k ∈ ws, (Lit.int .i64 k).wf = true) (l : List UInt8) (aw : Option Addr) (cw : Nat) (w : World) (hs : Sent s w) (hW : SlI .i64 w.heap.size w aw ws) :
    Calls Tryd.prog 45 #[.slice aw ws.length cw, .string (bs l)] w (UnpackPost (unpackRes ws l) w) := by
  have hB : Below w.heap.size w (w.alloc (.cells #[.string (bs l)] 124)) := Below.new w _
  have HP := Lib.hid ((callsIn_wide (n := 3)).1 (nums_in 3 (by omega) s ws.length ws rfl hN hww w.heap.size hs.apart l aw cw _ (hs.alloc _) (Boxed.new _ _ _) ((hW.below hB (Nat.le_refl _)).more (by simp))))
  have HS := Lib.hid hs
  clear hs hW hww
  by_cases hz : numsC ws l = 0
  · have hr : unpackRes ws l = (numsL ws l, numsR ws l, 0) := by unfold unpackRes; rw [if_pos hz]
    have HR := Lib.hid (And.intro hr hz)
    clear hr hz
    go_enter Tryd.func45, Tryd.ntmps45
    go_wp2_with (go_at_call 64; refine (read_any l w).mono ?_; rintro e w' ⟨rfl, rfl⟩)
    go_wp2_with (go_at_call 65; refine HP.out.mono ?_)
    rintro e w1 ⟨v, ev, hev, rfl, hg, hok⟩
    rw [HR.out.2] at hev
    obtain rfl := errIs_zero hev
    obtain ⟨hrow, hrd⟩ := hok HR.out.2
    have cr := hrd.cell
    obtain ⟨va, vc, rfl⟩ := row_slice hrow
    have hsl := Lib.hid (slI_row hrow)
    have hb := below_read hg
    clear hok hrd hev hg hrow
    go_wp2
    go_region
    all_goals
      go_wp2
      go_ret3
      rw [HR.out.1]
      exact ⟨va, vc, rfl, hsl.out.drew, below_drew hb⟩
  · have hr : unpackRes ws l = ([], [], numsC ws l) := by unfold unpackRes; rw [if_neg hz]
    have HR := Lib.hid (And.intro hr hz)
    clear hr hz
    go_enter Tryd.func45, Tryd.ntmps45
    go_wp2_with (go_at_call 64; refine (read_any l w).mono ?_; rintro e w' ⟨rfl, rfl⟩)
    go_wp2_with (go_at_call 65; refine HP.out.mono ?_)
    rintro e w1 ⟨v, ev, hev, rfl, hg, hok⟩
    obtain ⟨fv, rfl⟩ := errIs_some hev HR.out.2
    have HX := Lib.hid hev
    have hb := below_read hg
    clear hok hev hg
    go_wp2_with (go_at_call 66; refine (told_any s HX.out w1 (HS.out.more hb)).mono ?_)
    rintro e w2 ⟨rfl, b2⟩
    go_wp2
    go_ret3
    rw [HR.out.1]
    exact ⟨none, 0, rfl, slI_nil _ _ _ _, below_more hb b2⟩

end Go.Proofs.YtfpjbefhfkembaaDoor

/- The document's own Pack, Unpack, Nums. -/
namespace Go.Proofs.YtfpjbefhfkembaaDoor
open Go.RowKit Go.Shelf Go.Proofs.Fld

theorem putRes_code (k : Int) (n : Nat) : (putRes k n).2 = putC k n := by
  unfold putRes
  by_cases h : putC k n = 0
  · rw [if_pos h, h]
  · rw [if_neg h]

set_option maxHeartbeats 1000000 in
theorem refPack_len (N M : Nat) (hne : N ≠ M) (aw an : Option Addr) (cw cn : Nat) (w : World) :
    Calls Tryd.prog 29 #[.slice aw N cw, .slice an M cn] w (SC ([], 2) w) := by
  have hn : ((N : Int) != (M : Int)) = true := by simp; omega
  go_enter Tryd.func29, Tryd.ntmps29
  go_wp2
  go_ret2
  exact ⟨rfl, Below.refl _ _⟩

set_option maxRecDepth 100000 in
set_option maxHeartbeats 2000000 in
theorem refPack_eq (N : Nat) (ws : List Int) (ns : List Nat) (hwl : ws.length = N) (hnl : ns.length = N) (hN : N ≤ 1048576) (hnw : ∀ x ∈ ns, x < 18446744073709551616)
    (aw an : Option Addr) (cw cn : Nat) (w : World) (hW : SlI .i64 w.heap.size w aw ws) (hNs : SlI .u64 w.heap.size w an (ns.map fun (x : Nat) => (x : Int))) :
    Calls Tryd.prog 29 #[.slice aw N cw, .slice an N cn] w (SC (packRes ws ns) w) := by
  have HH := Lib.hid (And.intro hW hNs)
  have HL := Lib.hid (And.intro (And.intro hwl hnl) hnw)
  clear hW hNs hwl hnl hnw
  go_enter Tryd.func29, Tryd.ntmps29
  go_wp2
  go_loopw [6, 7] (fun v i wr => ∃ (k : Nat) (acc : List UInt8), k ≤ N ∧ i = .int .i64 (k : Int) ∧ v = .string (bs acc) ∧ Below w.heap.size w wr ∧ packC ws ns = packC (ws.drop k) (ns.drop k) ∧ packB ws ns = acc ++ packB (ws.drop k) (ns.drop k) ∧ acc.length ≤ 8 * k) (fun _ i _ => N - (intOf i).toNat)
  case atStart => exact ⟨0, [], by omega, rfl, rfl, Below.refl _ _, rfl, rfl, by simp⟩
  case round =>
    obtain ⟨k, acc, hk, rfl, rfl, hb, hc, hby, hal⟩ := hrel
    have HI := Lib.hid (And.intro hc hby)
    clear hc hby
    by_cases hlt : k < N
    · obtain ⟨kk, hkk⟩ : ∃ kk, ws[k]'(by rw [HL.out.1.1]; exact hlt) = kk := ⟨_, rfl⟩
      obtain ⟨x, hxx⟩ : ∃ x, ns[k]'(by rw [HL.out.1.2]; exact hlt) = x := ⟨_, rfl⟩
      obtain ⟨gw, ow, rfl, hgw, qw⟩ := (HH.out.1.below hb (Nat.le_refl _)) k (by rw [HL.out.1.1]; exact hlt)
      obtain ⟨gn, on, rfl, hgn, qn⟩ := (HH.out.2.below hb (Nat.le_refl _)) k (by rw [List.length_map, HL.out.1.2]; exact hlt)
      rw [hkk] at qw
      rw [List.getElem_map, hxx] at qn
      have hxw : x < 18446744073709551616 := HL.out.2 _ (hxx ▸ List.getElem_mem _)
      have hdw : Hid (ws.drop k = kk :: ws.drop (k + 1)) := Lib.hid (by rw [List.drop_eq_getElem_cons (by rw [HL.out.1.1]; exact hlt), hkk])
      have hdn : Hid (ns.drop k = x :: ns.drop (k + 1)) := Lib.hid (by rw [List.drop_eq_getElem_cons (by rw [HL.out.1.2]; exact hlt), hxx])
      clear hkk hxx
      rcases putRes_cases kk x with ⟨m, rfl, hm, hxm, e1⟩ | ⟨c, hc0, hc1, hc2, e1⟩
      · obtain ⟨y, hy⟩ : ∃ y, enc m x = y := ⟨_, rfl⟩
        have hyl : y.length = m := by rw [← hy, enc_length]
        obtain ⟨_, hmm, _, hm8⟩ := isW_le hm
        have hyl8 : y.length ≤ 8 := by omega
        have hz : Hid (putC (m : Int) x = 0) := Lib.hid (by rw [← putRes_code, e1])
        have HP := Lib.hid (fun w => (refPut_any (m : Int) x hxw w).mono (R' := fun e w' => e = .returned (.tuple #[.string (bs y), .int .i64 0]) ∧ Below w.heap.size w w') (fun e w' h => ⟨by rw [h.1, e1, hy], h.2⟩))
        have HY := Lib.hid hy
        have hsa := bs_size acc
        have hsy := bs_size y
        have hap : bs acc ++ bs y = bs (acc ++ y) := bs_append _ _
        clear hy e1 hm hxm hmm hm8 hyl hxw
        go_wp2
        go_region_held3 (fun w' => w'.cell? ⟨gw, ow + k, none⟩ = some (.int .i64 (m : Int)) ∧ w'.cell? ⟨gn, on + k, none⟩ = some (.int .u64 (x : Int)) ∧ Below w.heap.size w w')
          (first | (go_split_ands; exact ⟨cell_later hbc (by assumption), cell_later hbc (by assumption), below_more (by assumption) hbc⟩) | (exact ⟨qw, qn, below_drew hb⟩) | (go_keep; done))
          (first | (go_at_call 44; ((with_reducible refine (HP.out _).mono ?_); rintro e w' ⟨rfl, hbc⟩)))
        all_goals
          go_split_ands
          rename_i _ _ hbx
          go_wp2
          go_roundw
          case rel => exact ⟨k + 1, acc ++ y, by omega, by go_num, rfl, hbx, by rw [HI.out.1, hdw.out, hdn.out, packC_cons hz.out], by rw [HI.out.2, hdw.out, hdn.out, ← HY.out]; simp [packB], by rw [List.length_append]; omega⟩
          case measure => simp [intOf]; omega
      · have hz : Hid (putC kk x ≠ 0 ∧ putC kk x = c) := Lib.hid (by rw [← putRes_code, e1]; exact ⟨hc0, rfl⟩)
        have HP := Lib.hid (fun w => (refPut_any kk x hxw w).mono (R' := fun e w' => e = .returned (.tuple #[.string (bs []), .int .i64 c]) ∧ Below w.heap.size w w') (fun e w' h => ⟨by rw [h.1, e1], h.2⟩))
        have hr : packRes ws ns = ([], c) := by
          have hc' := HI.out.1
          rw [hdw.out, hdn.out, packC_stop hz.out.1, hz.out.2] at hc'
          unfold packRes
          rw [if_pos (HL.out.1.1.trans HL.out.1.2.symm), hc', if_neg hc0]
        have HR := Lib.hid hr
        clear hr e1 hxw hc0
        go_wp2
        go_region_held3 (fun w' => w'.cell? ⟨gw, ow + k, none⟩ = some (.int .i64 kk) ∧ w'.cell? ⟨gn, on + k, none⟩ = some (.int .u64 (x : Int)) ∧ Below w.heap.size w w')
          (first | (go_split_ands; exact ⟨cell_later hbc (by assumption), cell_later hbc (by assumption), below_more (by assumption) hbc⟩) | (exact ⟨qw, qn, below_drew hb⟩) | (go_keep; done))
          (first | (go_at_call 44; ((with_reducible refine (HP.out _).mono ?_); rintro e w' ⟨rfl, hbc⟩)))
        all_goals
          go_split_ands
          rename_i _ _ hbx
          go_wp2
          go_ret2
          exact ⟨by rw [HR.out]; rfl, hbx⟩
    · obtain rfl : k = N := by omega
      have hr : packRes ws ns = (acc, 0) := by
        have hc' := HI.out.1
        have hb' := HI.out.2
        rw [List.drop_of_length_le (by rw [HL.out.1.1]; exact Nat.le_refl _)] at hc' hb'
        have h0 : packC ws ns = 0 := hc'
        unfold packRes
        rw [if_pos (HL.out.1.1.trans HL.out.1.2.symm), if_pos h0, hb']
        simp [packB]
      have HR := Lib.hid hr
      clear hr
      go_wp2
      go_ret2
      exact ⟨by rw [HR.out]; rfl, hb⟩

theorem refPack_any (ws : List Int) (ns : List Nat) (hN : ns.length ≤ 1048576) (hnw : ∀ x ∈ ns, x < 18446744073709551616)
    (aw an : Option Addr) (cw cn : Nat) (w : World) (hW : SlI .i64 w.heap.size w aw ws) (hNs : SlI .u64 w.heap.size w an (ns.map fun (x : Nat) => (x : Int))) :
    Calls Tryd.prog 29 #[.slice aw ws.length cw, .slice an ns.length cn] w (SC (packRes ws ns) w) := by
  by_cases h : ws.length = ns.length
  · have := refPack_eq ns.length ws ns h rfl hN hnw aw an cw cn w hW hNs
    rw [h]
    exact this
  · have e : packRes ws ns = ([], 2) := by unfold packRes; rw [if_neg h]
    rw [e]
    exact refPack_len _ _ h aw an cw cn w

set_option maxRecDepth 100000 in
set_option maxHeartbeats 2000000 in
theorem refUnpack_eq (N : Nat) (ws : List Int) (hwl : ws.length = N) (hN : N ≤ 1048576) (l : List UInt8) (aw : Option Addr) (cw : Nat) (w : World) (hW : SlI .i64 w.heap.size w aw ws) :
    Calls Tryd.prog 32 #[.slice aw N cw, .string (bs l)] w (UnpackPost (unpackRes ws l) w) := by
  obtain ⟨i0, hi, hz0, hz1, hz2⟩ := info_parts infoU
  have HH := Lib.hid (And.intro hW hwl)
  clear hW hwl
  go_enter Tryd.func32, Tryd.ntmps32
  go_wp2
  go_loopw [1, 7, 8] (fun sv v i wr => ∃ (k : Nat) (rest : List UInt8) (nums : List Nat), k ≤ N ∧ i = .int .i64 (k : Int) ∧ sv = .string (bs rest) ∧ wr.ownsRow w.heap.size 22 1 v nums.length (u64s nums) ∧ Below w.heap.size w wr ∧
      numsC ws l = numsC (ws.drop k) rest ∧ numsL ws l = nums ++ numsL (ws.drop k) rest ∧ numsR ws l = numsR (ws.drop k) rest ∧ nums.length ≤ k) (fun _ _ i _ => N - (intOf i).toNat)
  case atStart => exact ⟨0, l, [], by omega, rfl, rfl, World.ownsRow_nil _ _ _ _, Below.refl _ _, rfl, rfl, rfl, by simp⟩
  case round =>
    obtain ⟨k, rest, nums, hk, rfl, rfl, hown, hb, hc, hl, hr, hnk⟩ := hrel
    have HI := Lib.hid (And.intro hc (And.intro hl hr))
    clear hc hl hr
    by_cases hlt : k < N
    · obtain ⟨kk, hkk⟩ : ∃ kk, ws[k]'(by rw [HH.out.2]; exact hlt) = kk := ⟨_, rfl⟩
      obtain ⟨gw, ow, rfl, hgw, qw⟩ := (HH.out.1.below hb (Nat.le_refl _)) k (by rw [HH.out.2]; exact hlt)
      rw [hkk] at qw
      have hdw : Hid (ws.drop k = kk :: ws.drop (k + 1)) := Lib.hid (by rw [List.drop_eq_getElem_cons (by rw [HH.out.2]; exact hlt), hkk])
      clear hkk
      have HG := Lib.hid (refGet_any kk rest wr)
      by_cases hz : getC kk rest = 0
      · have hg : getRes kk rest = (dec 0 (rest.take kk.toNat), rest.drop kk.toNat, 0) := by unfold getRes; rw [if_pos hz]
        obtain ⟨x, hx⟩ : ∃ x, dec 0 (rest.take kk.toNat) = x := ⟨_, rfl⟩
        obtain ⟨q, hq⟩ : ∃ q, rest.drop kk.toNat = q := ⟨_, rfl⟩
        rw [hx, hq] at hg
        have HE := Lib.hid (And.intro hg (And.intro hx (And.intro hq hz)))
        clear hg hx hq hz
        go_wp2_with (go_at_call 47; refine HG.out.mono ?_)
        rintro e w1 ⟨he, b1⟩
        have he2 : e = .returned (.tuple #[.int .u64 (x : Int), .string (bs q), .int .i64 0]) := by rw [he, HE.out.1]
        subst he2
        clear he
        have hown1 := row_cells hown (fun i c t fz hi => (b1.block i (Array.getElem?_eq_some_iff.1 hi).1).trans hi)
        have hb1 := below_more hb b1
        have hsz1 := hb1.size
        clear hown hb b1 qw
        go_wp2_with (at_builtin; refine wpList_append_own _ rfl _ _ 52 rfl w.heap.size 22 i0 (.int .u64 0) 1 8 Tryd.underlying52 hi hz0 hz1 hz2 rfl (by decide) _ nums.length (u64s nums) rfl (hown1.alloc _) ⟨w1.heap.size, 0, none⟩ 1 1 [.int .u64 (x : Int)] rfl rfl (cell_one_new _ _ _) (by simp [Value.oneCell']) (by unfold maxLen; omega) (by omega) (by simp; omega) ?_; intro v' w2 hown' hgrow _)
        have hB1 := (hb1.alloc hsz1 (.cells #[.int .u64 (x : Int)] 22)).grown hgrow (by simp; omega) (fun k hk => (hown1.lt k hk).1)
        clear hown1 hgrow hb1
        go_wp2
        go_roundw
        case rel => exact ⟨k + 1, q, nums ++ [x], by omega, by go_num, rfl, by simpa [u64s] using hown', hB1, by rw [HI.out.1, hdw.out, numsC, if_pos HE.out.2.2.2, HE.out.2.2.1], by rw [HI.out.2.1, hdw.out, numsL, HE.out.2.1, HE.out.2.2.1]; simp, by rw [HI.out.2.2, hdw.out, numsR, HE.out.2.2.1], by rw [List.length_append]; simp; omega⟩
        case measure => simp [intOf]; omega
      · have hg : getRes kk rest = (0, [], getC kk rest) := by unfold getRes; rw [if_neg hz]
        have hne : (getC kk rest != 0) = true := by simpa using hz
        have hu : unpackRes ws l = ([], [], getC kk rest) := by
          have hc' := HI.out.1
          rw [hdw.out, numsC, if_neg hz] at hc'
          unfold unpackRes
          rw [hc', if_neg hz]
        obtain ⟨d, hd⟩ : ∃ d, getC kk rest = d := ⟨_, rfl⟩
        rw [hd] at hg hne hu
        have HE := Lib.hid (And.intro hg hu)
        clear hg hz hu hd
        go_wp2_with (go_at_call 47; refine HG.out.mono ?_)
        rintro e w1 ⟨he, b1⟩
        have he2 : e = .returned (.tuple #[.int .u64 0, .string (bs []), .int .i64 d]) := by rw [he, HE.out.1]; rfl
        subst he2
        clear he
        go_wp2
        go_ret3
        rw [HE.out.2]
        exact ⟨none, 0, rfl, slI_nil _ _ _ _, below_more hb b1⟩
    · obtain rfl : k = N := by omega
      have hu : unpackRes ws l = (nums, rest, 0) := by
        have hd : ws.drop k = [] := List.drop_of_length_le (by rw [HH.out.2]; exact Nat.le_refl _)
        have h0 : numsC ws l = 0 := by rw [HI.out.1, hd]; rfl
        unfold unpackRes
        rw [if_pos h0, HI.out.2.1, HI.out.2.2, hd]
        simp [numsL, numsR]
      have HU := Lib.hid hu
      clear hu
      obtain ⟨va, vc, rfl⟩ := row_slice hown
      have hsl := Lib.hid (slI_row hown)
      clear hown
      go_wp2
      go_ret3
      rw [HU.out]
      exact ⟨va, vc, rfl, hsl.out, hb⟩

theorem refUnpack_any (ws : List Int) (hN : ws.length ≤ 1048576) (l : List UInt8) (aw : Option Addr) (cw : Nat) (w : World) (hW : SlI .i64 w.heap.size w aw ws) :
    Calls Tryd.prog 32 #[.slice aw ws.length cw, .string (bs l)] w (UnpackPost (unpackRes ws l) w) :=
  refUnpack_eq ws.length ws rfl hN l aw cw w hW

end Go.Proofs.YtfpjbefhfkembaaDoor
