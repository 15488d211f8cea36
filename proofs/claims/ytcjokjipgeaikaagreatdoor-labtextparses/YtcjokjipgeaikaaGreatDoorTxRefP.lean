/- The document's reader: is, must. -/
import Derived.Test.YtcjokjipgeaikaaGreatDoorTxParse
import Derived.BigQuiet
import Derived.Deep.QuietTactic
namespace Go.Proofs.YtcjokjipgeaikaaGreatDoor
open Go.RowKit Go.Shelf Go.Proofs.Fld Go.Proofs.Tx Go.Proofs.Cats

/-- The document's reader at block Q: what is left of s, and whether something was wrong. -/
def Rr (w : World) (Q : Nat) (s rest : List UInt8) (bad : Bool) : Prop := w.heap[Q]? = some (.cells #[.string (bs s), .int .i64 ((s.length - rest.length : Nat) : Int), .bool bad] 47 (0, 0))
theorem Rr.lt {w : World} {Q : Nat} {s r : List UInt8} {b : Bool} (h : Rr w Q s r b) : Q < w.heap.size := (Array.getElem?_eq_some_iff.1 h).1
theorem Rr.c0 {w : World} {Q : Nat} {s r : List UInt8} {b : Bool} (h : Rr w Q s r b) : w.cell? ⟨Q, 0, none⟩ = some (.string (bs s)) := by rw [cell_of_row w Q 0 _ _ _ h]; rfl
theorem Rr.c1 {w : World} {Q : Nat} {s r : List UInt8} {b : Bool} (h : Rr w Q s r b) : w.cell? ⟨Q, 1, none⟩ = some (.int .i64 ((s.length - r.length : Nat) : Int)) := by rw [cell_of_row w Q 1 _ _ _ h]; rfl
theorem Rr.c2 {w : World} {Q : Nat} {s r : List UInt8} {b : Bool} (h : Rr w Q s r b) : w.cell? ⟨Q, 2, none⟩ = some (.bool b) := by rw [cell_of_row w Q 2 _ _ _ h]; rfl
theorem Rr.fr {w : World} {Q : Nat} {s r : List UInt8} {b : Bool} (h : Rr w Q s r b) (o : Nat) : w.frozen? ⟨Q, o, none⟩ = false := by
  have h' : w.heap[Q]? = _ := h
  simp [World.frozen?, h']
theorem Rr.block {w w' : World} {Q : Nat} {s r : List UInt8} {b : Bool} (h : Rr w Q s r b) (k : w'.heap[Q]? = w.heap[Q]?) : Rr w' Q s r b := k.trans h
theorem Rr.more {w w' : World} {Q : Nat} {s r : List UInt8} {b : Bool} (h : Rr w Q s r b) (hb : Below w.heap.size w w') : Rr w' Q s r b := h.block (hb.block Q h.lt)
theorem Rr.new (w : World) (s : List UInt8) : Rr (w.alloc (.cells #[.string (bs s), .int .i64 0, .bool false] 47)) w.heap.size s s false := by
  unfold Rr
  rw [Nat.sub_self]
  exact World.alloc_heap_new w _
theorem Rr.bad {w : World} {Q : Nat} {s r : List UInt8} {b : Bool} (h : Rr w Q s r b) : Rr (w.setCell ⟨Q, 2, none⟩ (.bool true)) Q s r true := setCell_block h _
theorem Rr.step {w : World} {Q : Nat} {s r : List UInt8} {b : Bool} {p : Int} (h : Rr w Q s r b) (r' : List UInt8) (hp : p = ((s.length - r'.length : Nat) : Int)) : Rr (w.setCell ⟨Q, 1, none⟩ (.int .i64 p)) Q s r' b := by
  subst hp
  exact setCell_block h _
theorem set_only (w : World) (Q o : Nat) (v : Value) : w.grownBy (w.setCell ⟨Q, o, none⟩ v) (some Q) :=
  ⟨rfl, rfl, rfl, by simp [World.setCell], fun k _ hk => Below.heap_setCell _ _ _ _ (by first | exact (fun e => hk (by rw [e])) | exact (fun e => hk (by rw [← e])))⟩
theorem below_drews (w : World) (n : Nat) : Below w.heap.size w (w.drewN n) := ⟨rfl, rfl, rfl, Nat.le_refl _, fun _ _ => rfl⟩

/-- What is left is an end of s. -/
def EndOf (s r : List UInt8) : Prop := ∃ p, s = p ++ r
theorem EndOf.len {s r : List UInt8} (h : EndOf s r) : r.length ≤ s.length := by
  obtain ⟨p, rfl⟩ := h
  simp
theorem EndOf.tail {s r : List UInt8} {b : UInt8} (h : EndOf s (b :: r)) : EndOf s r := by
  obtain ⟨p, rfl⟩ := h
  exact ⟨p ++ [b], by simp⟩
theorem EndOf.rdr {α : Type} {s r : List UInt8} {R : Rdr α} (h : EndOf s r) (hR : Tx.Good R) : EndOf s (R r).2 := by
  obtain ⟨p, rfl⟩ := h
  obtain ⟨p', hp'⟩ := hR.suf r
  exact ⟨p ++ p', by rw [List.append_assoc, ← hp']⟩
theorem str_at {s r : List UInt8} {b : UInt8} (h : EndOf s (b :: r)) (w : World) : (Instr.index 9 (.string (bs s)) (.int .i64 ((s.length - (b :: r).length : Nat) : Int))).run Tryz.prog w = .ok (.int .u8 (b.toNat : Int)) w := by
  obtain ⟨p, rfl⟩ := h
  have hl : (p ++ b :: r).length - (b :: r).length = p.length := by rw [List.length_append]; omega
  rw [hl, run_index_string _ _ _ _ _ Tryz.underlying9, dif_pos (by rw [bs_size]; simp; omega)]
  have e : ∀ (i : Nat) (hi : i < (bs (p ++ b :: r)).size), i = p.length → (bs (p ++ b :: r))[i] = b := by
    rintro i hi rfl
    have e1 : (bs (p ++ b :: r))[p.length] = (p ++ b :: r)[p.length]'(by simp) := rfl
    rw [e1, List.getElem_append_right (by simp)]
    simp
  rw [e _ _ (by simp)]

def IsPost (v : Bool) (w : World) (e : Ending) (w' : World) : Prop := e = .returned (.bool v) ∧ Below w.heap.size w w'

set_option maxRecDepth 100000 in
set_option maxHeartbeats 1000000 in
theorem is_bad (Q : Nat) (s r : List UInt8) (c : UInt8) (w : World) (h : Rr w Q s r true) : Calls Tryz.prog 16 #[.pointer (some ⟨Q, 0, none⟩), .int .u8 (c.toNat : Int)] w (IsPost false w) := by
  have c2 := h.c2
  clear h
  go_enter Tryz.func16, Tryz.ntmps16
  go_wp2
  go_quiet (fail)
  go_wp2
  go_ret
  exact ⟨rfl, below_drews w nq⟩

set_option maxRecDepth 100000 in
set_option maxHeartbeats 1000000 in
theorem is_end (Q : Nat) (s : List UInt8) (c : UInt8) (w : World) (h : Rr w Q s [] false) : Calls Tryz.prog 16 #[.pointer (some ⟨Q, 0, none⟩), .int .u8 (c.toNat : Int)] w (IsPost false w) := by
  have c0 := h.c0
  have c1 := h.c1
  have c2 := h.c2
  have hbs := bs_size
  have e : (s.length - ([] : List UInt8).length : Nat) = s.length := by simp
  rw [e] at c1
  clear h e
  go_enter Tryz.func16, Tryz.ntmps16
  go_wp2
  go_quiet (fail)
  go_wp2
  go_ret
  exact ⟨rfl, below_drews w nq⟩

set_option maxRecDepth 100000 in
set_option maxHeartbeats 1000000 in
theorem is_byte (Q : Nat) (s r : List UInt8) (b c : UInt8) (he : EndOf s (b :: r)) (w : World) (h : Rr w Q s (b :: r) false) : Calls Tryz.prog 16 #[.pointer (some ⟨Q, 0, none⟩), .int .u8 (c.toNat : Int)] w (IsPost (b == c) w) := by
  have c0 := h.c0
  have c1 := h.c1
  have c2 := h.c2
  have hbs := bs_size
  have hix := str_at he
  have hl := he.len
  rw [List.length_cons] at hl
  obtain ⟨k, hk⟩ : ∃ k, s.length - (b :: r).length = k := ⟨_, rfl⟩
  rw [hk] at c1 hix
  have hlt : k < s.length := by rw [← hk, List.length_cons]; omega
  have HEQ := Lib.hid (show ((b.toNat : Int) == (c.toNat : Int)) = (b == c) by
    rw [Bool.eq_iff_iff, beq_iff_eq, beq_iff_eq, Int.ofNat_inj, UInt8.toNat_inj])
  clear h he hk hl
  go_enter Tryz.func16, Tryz.ntmps16
  go_wp2
  go_quiet (fail)
  go_wp2
  go_ret
  refine ⟨?_, below_drews w nq⟩
  rw [← HEQ.out]
  first | rfl | simp

theorem is_no {Q : Nat} {s r : List UInt8} {bad : Bool} {c : UInt8} (he : EndOf s r) (hn : bad = true ∨ ∀ r', r ≠ c :: r') (w : World) (h : Rr w Q s r bad) : Calls Tryz.prog 16 #[.pointer (some ⟨Q, 0, none⟩), .int .u8 (c.toNat : Int)] w (IsPost false w) := by
  cases bad with
  | true => exact is_bad Q s r c w h
  | false =>
    cases r with
    | nil => exact is_end Q s c w h
    | cons b r =>
      have hne : (b == c) = false := by
        rw [beq_eq_false_iff_ne]
        rintro rfl
        rcases hn with k | k
        · cases k
        · exact k r rfl
      have k := is_byte Q s r b c he w h
      rw [hne] at k
      exact k
theorem is_yes {Q : Nat} {s r : List UInt8} {c : UInt8} (he : EndOf s (c :: r)) (w : World) (h : Rr w Q s (c :: r) false) : Calls Tryz.prog 16 #[.pointer (some ⟨Q, 0, none⟩), .int .u8 (c.toNat : Int)] w (IsPost true w) := by
  have k := is_byte Q s r c c he w h
  rw [beq_self_eq_true] at k
  exact k

def RrPost (Q : Nat) (s r : List UInt8) (bad : Bool) (w : World) (e : Ending) (w' : World) : Prop := e = .returned (.tuple #[]) ∧ Rr w' Q s r bad ∧ w.grownBy w' (some Q)
set_option maxHeartbeats 400000 in
theorem must_no {Q : Nat} {s r : List UInt8} {bad : Bool} {c : UInt8} (he : EndOf s r) (hn : bad = true ∨ ∀ r', r ≠ c :: r') (w : World) (h : Rr w Q s r bad) : Calls Tryz.prog 14 #[.pointer (some ⟨Q, 0, none⟩), .int .u8 (c.toNat : Int)] w (RrPost Q s r true w) := by
  have HI := Lib.hid (is_no he hn w h)
  have H := Lib.hid h
  clear h he hn
  go_enter Tryz.func14, Tryz.ntmps14
  go_wp2_with fail
  refine HI.out.mono ?_
  rintro e w1 ⟨rfl, hb⟩
  have hr := H.out.more hb
  have c2 := hr.c2
  have f2 := hr.fr 2
  have HR := Lib.hid hr
  have HB := Lib.hid hb
  clear hr hb
  go_wp2
  go_end0
  exact ⟨rfl, HR.out.bad, only_trans (only_of Q HB.out) (set_only _ _ _ _)⟩
set_option maxHeartbeats 400000 in
theorem must_yes {Q : Nat} {s r : List UInt8} {c : UInt8} (he : EndOf s (c :: r)) (hs : s.length ≤ 1000000) (w : World) (h : Rr w Q s (c :: r) false) : Calls Tryz.prog 14 #[.pointer (some ⟨Q, 0, none⟩), .int .u8 (c.toNat : Int)] w (RrPost Q s r false w) := by
  have HI := Lib.hid (is_yes he w h)
  have H := Lib.hid h
  have hl := he.len
  rw [List.length_cons] at hl
  clear h he
  go_enter Tryz.func14, Tryz.ntmps14
  go_wp2_with fail
  refine HI.out.mono ?_
  rintro e w1 ⟨rfl, hb⟩
  have hr := H.out.more hb
  have c1 := hr.c1
  have f1 := hr.fr 1
  have HR := Lib.hid hr
  have HB := Lib.hid hb
  obtain ⟨k, hk⟩ : ∃ k, s.length - (c :: r).length = k := ⟨_, rfl⟩
  rw [hk] at c1
  have hk2 : k + 1 = s.length - r.length := by rw [← hk, List.length_cons]; omega
  have hk3 : k ≤ 1000000 := by omega
  have HK := Lib.hid hk2
  clear hr hb hk hk2
  go_wp2
  go_end0
  refine ⟨rfl, HR.out.step r ?_, only_trans (only_of Q HB.out) (set_only _ _ _ _)⟩
  rw [← HK.out]
  omega

/-- Do n's digits begin those of i? -/
def cuts (n i : Nat) : Bool := if n < i ∧ 10 ≤ i then decide (i / 10 = n) else decide (i = n)
theorem can_yes {n least most i : Nat} (h : cuts n i = true) (h1 : least ≤ i) (h2 : i ≤ most) : beg n least most = true := by
  unfold cuts at h
  unfold beg
  simp only [Bool.or_eq_true, Bool.and_eq_true, decide_eq_true_eq]
  split at h <;> simp at h
  · right; omega
  · left; omega
theorem can_no {n least most : Nat} (hlm : least ≤ most) (h : ∀ i, least ≤ i → i ≤ most → cuts n i = false) : beg n least most = false := by
  rw [Bool.eq_false_iff]
  intro hb
  unfold beg at hb
  simp only [Bool.or_eq_true, Bool.and_eq_true, decide_eq_true_eq] at hb
  rcases hb with ⟨h1, h2⟩ | ⟨⟨h1, h2⟩, h3⟩
  · have := h n h1 h2
    unfold cuts at this
    rw [if_neg (by omega)] at this
    simp at this
  · by_cases hc : least ≤ 10 * n
    · have := h (10 * n) hc h3
      unfold cuts at this
      rw [if_pos (by omega)] at this
      first | (simp at this; done) | (simp at this; omega)
    · have := h least (Nat.le_refl _) hlm
      unfold cuts at this
      rw [if_pos (by omega)] at this
      first | (simp at this; done) | (simp at this; omega)
/-- Where the inner loop stands. -/
def Inner (n i k : Nat) : Prop := k = i ∨ (k = i / 10 ∧ n < i ∧ 10 ≤ i)
set_option maxRecDepth 100000 in
set_option maxHeartbeats 1000000 in
theorem can_any (n least most : Nat) (hm : most ≤ 99) (hlm : least ≤ most) (_hn : n ≤ 100000) (w : World) :
    Calls Tryz.prog 30 #[.int .i64 (n : Int), .int .i64 (least : Int), .int .i64 (most : Int)] w fun e w' => e = .returned (.bool (beg n least most)) ∧ w = w' := by
  have hmx : max 0 (least : Int) = (least : Int) := by omega
  go_enter Tryz.func30, Tryz.ntmps30
  go_wp2
  go_loop [7, 8] (fun i _ => ∃ j : Nat, least ≤ j ∧ j ≤ most + 1 ∧ i = .int .i64 (j : Int) ∧ (∀ t, least ≤ t → t < j → cuts n t = false)) (fun i _ => 100 - (intOf i).toNat)
  case atStart => exact ⟨least, Nat.le_refl _, by omega, rfl, fun t h1 h2 => absurd h2 (by omega)⟩
  case round =>
    obtain ⟨j, hj1, hj2, rfl, hno⟩ := hrel
    have HNO := Lib.hid hno
    clear hno
    by_cases hlt : j ≤ most
    · go_wp2
      go_hide hQ
      go_loop [8] (fun k => ∃ m : Nat, k = .int .i64 (m : Int) ∧ Inner n j m) (fun k => (intOf k).toNat)
      case atStart => exact ⟨j, rfl, Or.inl rfl⟩
      case round =>
        obtain ⟨m, rfl, hin⟩ := hrel
        have HIN := Lib.hid hin
        have hm99 : m ≤ 99 := by unfold Inner at hin; omega
        clear hin
        by_cases hg : n < m ∧ 10 ≤ m
        · have hmj : m = j := by
            have := HIN.out
            unfold Inner at this
            omega
          have HMJ := Lib.hid hmj
          have hg1 := hg.1
          have hg2 := hg.2
          clear hmj hg
          have e1 : (m : Int) / 10 = ((m / 10 : Nat) : Int) := by omega
          have E1 := Lib.hid e1
          clear e1
          go_wp2
          go_round
          case rel =>
            refine ⟨m / 10, by rw [E1.out], Or.inr ?_⟩
            have := HMJ.out
            subst this
            exact ⟨rfl, hg1, hg2⟩
          case measure => simp [intOf]; omega
        · have hcut : cuts n j = decide (m = n) := by
            have := HIN.out
            unfold Inner at this
            unfold cuts
            split
            · rcases this with h | h
              · omega
              · rw [h.1]
            · rcases this with h | h
              · rw [h]
              · omega
          have HC := Lib.hid hcut
          clear hcut
          by_cases hmn : m = n
          · have q : ((m : Int) == (n : Int)) = true := by rw [hmn]; simp
            have HY := Lib.hid (can_yes (n := n) (least := least) (most := most) (i := j) (by rw [HC.out]; simp [hmn]) hj1 hlt)
            by_cases h1 : n < m
            · omega
            · clear hg hmn
              go_wp2
              subst hQ
              go_wp2
              go_ret
              exact ⟨by rw [HY.out]; rfl, rfl⟩
          · have q : ((m : Int) == (n : Int)) = false := by rw [beq_eq_false_iff_ne]; omega
            have HF := Lib.hid (show cuts n j = false by rw [HC.out]; simp [hmn])
            by_cases h1 : n < m
            · have h2 : ¬ 10 ≤ m := fun h => hg ⟨h1, h⟩
              clear hg hmn
              go_wp2
              subst hQ
              go_wp2
              go_round
              case rel =>
                refine ⟨j + 1, by omega, by omega, by go_num, fun t ht1 ht2 => ?_⟩
                rcases Nat.lt_succ_iff_lt_or_eq.1 ht2 with k | k
                · exact HNO.out t ht1 k
                · rw [k]; exact HF.out
              case measure => simp [intOf]; omega
            · clear hg hmn
              go_wp2
              subst hQ
              go_wp2
              go_round
              case rel =>
                refine ⟨j + 1, by omega, by omega, by go_num, fun t ht1 ht2 => ?_⟩
                rcases Nat.lt_succ_iff_lt_or_eq.1 ht2 with k | k
                · exact HNO.out t ht1 k
                · rw [k]; exact HF.out
              case measure => simp [intOf]; omega
    · have HN := Lib.hid (can_no hlm (fun i h1 h2 => HNO.out i h1 (by omega)))
      go_wp2
      go_ret
      exact ⟨by rw [HN.out]; rfl, rfl⟩

end Go.Proofs.YtcjokjipgeaikaaGreatDoor
