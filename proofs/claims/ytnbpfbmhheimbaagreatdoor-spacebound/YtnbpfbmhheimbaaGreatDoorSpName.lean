/- IsName: the program's, by runes; the document's, by bytes. -/
import Derived.Test.YtnbpfbmhheimbaaGreatDoorSpRows
import Derived.Lib.Strings
import Derived.Lib.IndexBytes
import Derived.Lib.OthersKept
import Derived.Laws.RangeAny
namespace Go.Proofs.YtnbpfbmhheimbaaGreatDoor
open Go.RowKit Go.Proofs.Fld Go.Proofs.Rng Go.Proofs.Spc Go.Shelf Go.Sort

theorem okC_iff (c : UInt8) : okC c = true ↔ (97 ≤ c.toNat ∧ c.toNat ≤ 122) ∨ (48 ≤ c.toNat ∧ c.toNat ≤ 57) ∨ c.toNat = 46 := by
  simp only [okC, Bool.or_eq_true, Bool.and_eq_true, decide_eq_true_eq, or_assoc]
theorem name_short {s : It} (h : s.length < 1) : nameB s = false := by simp [nameB]; omega
theorem name_long {s : It} (h : 20 < s.length) : nameB s = false := by simp [nameB]; omega
theorem name_bad {p r : It} {c : UInt8} (h : okC c = false) : nameB (p ++ c :: r) = false := by
  cases e : nameB (p ++ c :: r)
  · rfl
  · have := (nameB_iff.1 e).2.2 c (by simp)
    rw [h] at this
    cases this
theorem name_good {s : It} (h1 : 1 ≤ s.length) (h2 : s.length ≤ 20) (h : ∀ c ∈ s, okC c = true) : nameB s = true := nameB_iff.2 ⟨h1, h2, h⟩
theorem str_at (p : It) (b : UInt8) (r : It) : ∃ h : p.length < (bs (p ++ b :: r)).size, (bs (p ++ b :: r))[p.length] = b := by
  have h : p.length < (bs (p ++ b :: r)).size := by rw [bs_size]; simp
  refine ⟨h, ?_⟩
  have e : (bs (p ++ b :: r))[p.length] = (p ++ b :: r)[p.length]'(by simp) := rfl
  rw [e, List.getElem_append_right (by simp)]
  simp
theorem iter_below {w wr : World} {s : ByteArray} {pos : Nat} (h : Below w.heap.size w wr) : Below w.heap.size w (wr.iterAt w.heap.size s pos) :=
  ⟨h.os, h.tape, h.output, by rw [Lib.iterAt_size]; exact h.size, fun k hk => (Lib.iterAt_other wr w.heap.size k s pos (by omega)).trans (h.block k hk)⟩
/-- IsName between two rounds. -/
structure NmI (s p r : It) (w wr : World) : Prop where
  eq : s = p ++ r
  ok : ∀ c ∈ p, okC c = true
  it : wr.heap[w.heap.size]? = some (.stringIter (bs s) p.length)
  below : Below w.heap.size w wr
theorem NmI.next {s p r : It} {c : UInt8} {w wr : World} (h : NmI s p (c :: r) w wr) (hc : okC c = true) : NmI s (p ++ [c]) r w (wr.iterAt w.heap.size (bs s) (p.length + 1)) := by
  refine ⟨by rw [h.eq]; simp, ?_, ?_, iter_below h.below⟩
  · intro y hy
    rcases List.mem_append.1 hy with hy | hy
    · exact h.ok y hy
    · obtain rfl : y = c := by simpa using hy
      exact hc
  · rw [List.length_append]
    exact Lib.iterAt_heap wr w.heap.size (bs s) p.length (p.length + 1) h.it


set_option maxRecDepth 100000 in
set_option maxHeartbeats 4000000 in
theorem isName_any (s : It) (hs : s.length ≤ 9223372036854775807) (w : World) : Calls Tryz.prog 14 #[.string (bs s)] w (BoolP (nameB s) w) := by
  have hz := bs_size s
  by_cases h1 : s.length < 1
  · have HR := Lib.hid (name_short h1)
    have d1 : decide ((s.length : Int) < 1) = true := decide_eq_true (by omega)
    clear h1
    go_enter Tryz.func14, Tryz.ntmps14
    go_wp2
    go_ret
    exact ⟨by rw [HR.out]; rfl, Below.refl _ _⟩
  by_cases h2 : 20 < s.length
  · have HR := Lib.hid (name_long h2)
    have d1 : decide ((s.length : Int) < 1) = false := decide_eq_false (by omega)
    have d2 : decide ((s.length : Int) > 20) = true := decide_eq_true (by omega)
    clear h1 h2
    go_enter Tryz.func14, Tryz.ntmps14
    go_wp2
    go_ret
    exact ⟨by rw [HR.out]; rfl, Below.refl _ _⟩
  have d1 : decide ((s.length : Int) < 1) = false := decide_eq_false (by omega)
  have d2 : decide ((s.length : Int) > 20) = false := decide_eq_false (by omega)
  have HG := Lib.hid (fun h => name_good (s := s) (by omega) (by omega) h)
  clear h1 h2
  go_enter Tryz.func14, Tryz.ntmps14
  go_wp2
  go_loopw [] (fun wr => ∃ p r, Hid (NmI s p r w wr)) (fun wr => s.length - wr.iterPos w.heap.size)
  case atStart => exact ⟨[], s, ⟨rfl, fun c h => (by cases h), World.iter_heap w (bs s) 0, ⟨rfl, rfl, rfl, by show w.heap.size ≤ (w.alloc _).heap.size; rw [World.size_alloc]; omega, fun k hk => Below.heap_alloc _ _ _ hk⟩⟩⟩
  case round =>
    obtain ⟨p, r, HI⟩ := hrel
    cases r with
    | nil =>
      have hnx : ∀ ty, (Instr.next (.pointer (some ⟨w.heap.size, 0, none⟩)) true ty).run Tryz.prog wr = _ := fun ty => Lib.run_next_end_at wr w.heap.size (bs s) p.length ty HI.out.it (by rw [bs_size, HI.out.eq]; simp)
      have HR := Lib.hid (HG.out (fun c h => HI.out.ok c (by have := HI.out.eq; simp at this; rwa [this] at h)))
      go_wp2
      go_ret
      exact ⟨by rw [HR.out]; rfl, HI.out.below⟩
    | cons b r =>
      obtain ⟨hp, hpe⟩ := str_at p b r
      have he := HI.out.eq
      have hmeas : wr.iterPos w.heap.size = p.length := by simp only [World.iterPos, HI.out.it]
      by_cases ha : b.toNat < 128
      · have hnx : ∀ ty, (Instr.next (.pointer (some ⟨w.heap.size, 0, none⟩)) true ty).run Tryz.prog wr = .ok (.tuple #[.bool true, .int .i64 (p.length : Int), .int .i32 (b.toNat : Int)]) (wr.iterAt w.heap.size (bs s) (p.length + 1)) := fun ty => by
          have hp' : p.length < (bs s).size := by rw [he]; exact hp
          have hpe' : (bs s)[p.length] = b := by simp only [he]; exact hpe
          have := Lib.run_next_ascii_at (P := Tryz.prog) wr w.heap.size (bs s) p.length ty HI.out.it hp' (by rw [hpe']; exact ha)
          rw [hpe'] at this
          exact this
        have HN := Lib.hid (fun hc => HI.out.next (c := b) hc)
        have HK := Lib.hid (okC_iff b)
        have HBd := Lib.hid (fun hc => (name_bad (p := p) (r := r) (c := b) hc))
        have HM := Lib.hid hmeas
        have hb3 := iter_below (s := bs s) (pos := p.length + 1) HI.out.below
        have hsl : p.length < s.length := by rw [he]; simp
        have HE := Lib.hid he
        have HL := Lib.hid hsl
        obtain ⟨v, hv⟩ : ∃ v : Int, ((b.toNat : Nat) : Int) = v := ⟨_, rfl⟩
        have HV := Lib.hid hv
        obtain ⟨wi, hwi⟩ : ∃ wi, wr.iterAt w.heap.size (bs s) (p.length + 1) = wi := ⟨_, rfl⟩
        have hmi : HI.out.it = HI.out.it := rfl
        have hitn := Lib.iterAt_heap wr w.heap.size (bs s) p.length (p.length + 1) HI.out.it
        rw [hv, hwi] at hnx
        rw [hwi] at HN hb3 hitn
        have HIT := Lib.hid hitn
        have HB3 := Lib.hid hb3
        have hvr : 0 ≤ v := by omega
        clear hp hpe he hmeas hv hwi hb3 hsl ha hmi hitn
        by_cases g0 : 97 ≤ v ∧ v ≤ 122
        · skip
          have q1 : decide (v < 97) = false := by exact decide_eq_false (by omega)
          have q2 : decide (v > 122) = false := by exact decide_eq_false (by omega)
          have HC := Lib.hid (HK.out.2 (by have := HV.out; omega))
          clear g0 hvr
          go_wp2
          go_roundw
          case rel => exact ⟨p ++ [b], r, HN.out HC.out⟩
          case measure => simp only [World.iterPos, HIT.out]; have := HM.out; have := HL.out; simp only [World.iterPos] at *; omega
        by_cases g1 : v = 46
        · skip
          have q1 : decide (v < 97) = true := by exact decide_eq_true (by omega)
          have q3 : decide (v < 48) = true := by exact decide_eq_true (by omega)
          have q5 : (v == 46) = true := by rw [beq_iff_eq]; omega
          have HC := Lib.hid (HK.out.2 (by have := HV.out; omega))
          clear g0 g1 hvr
          go_wp2
          go_roundw
          case rel => exact ⟨p ++ [b], r, HN.out HC.out⟩
          case measure => simp only [World.iterPos, HIT.out]; have := HM.out; have := HL.out; simp only [World.iterPos] at *; omega
        by_cases g2 : 48 ≤ v ∧ v ≤ 57
        · skip
          have q1 : decide (v < 97) = true := by exact decide_eq_true (by omega)
          have q3 : decide (v < 48) = false := by exact decide_eq_false (by omega)
          have q4 : decide (v > 57) = false := by exact decide_eq_false (by omega)
          have HC := Lib.hid (HK.out.2 (by have := HV.out; omega))
          clear g0 g1 g2 hvr
          go_wp2
          go_roundw
          case rel => exact ⟨p ++ [b], r, HN.out HC.out⟩
          case measure => simp only [World.iterPos, HIT.out]; have := HM.out; have := HL.out; simp only [World.iterPos] at *; omega
        by_cases g3 : v < 48 ∧ v ≠ 46
        · skip
          have q1 : decide (v < 97) = true := by exact decide_eq_true (by omega)
          have q3 : decide (v < 48) = true := by exact decide_eq_true (by omega)
          have q5 : (v == 46) = false := by rw [beq_eq_false_iff_ne]; omega
          have q6 : ¬ v = 46 := by omega
          have HC := Lib.hid (show okC b = false by cases e : okC b; rfl; have := HK.out.1 e; have := HV.out; omega)
          clear g0 g1 g2 g3 hvr
          go_wp2
          go_ret
          exact ⟨by rw [HE.out, HBd.out HC.out]; rfl, HB3.out⟩
        by_cases g4 : 57 < v ∧ v < 97
        · skip
          have q1 : decide (v < 97) = true := by exact decide_eq_true (by omega)
          have q3 : decide (v < 48) = false := by exact decide_eq_false (by omega)
          have q4 : decide (v > 57) = true := by exact decide_eq_true (by omega)
          have q5 : (v == 46) = false := by rw [beq_eq_false_iff_ne]; omega
          have q6 : ¬ v = 46 := by omega
          have HC := Lib.hid (show okC b = false by cases e : okC b; rfl; have := HK.out.1 e; have := HV.out; omega)
          clear g0 g1 g2 g3 g4 hvr
          go_wp2
          go_ret
          exact ⟨by rw [HE.out, HBd.out HC.out]; rfl, HB3.out⟩
        have g5 : 122 < v := by omega
        have q1 : decide (v < 97) = false := by exact decide_eq_false (by omega)
        have q2 : decide (v > 122) = true := by exact decide_eq_true (by omega)
        have q3 : decide (v < 48) = false := by exact decide_eq_false (by omega)
        have q4 : decide (v > 57) = true := by exact decide_eq_true (by omega)
        have q5 : (v == 46) = false := by rw [beq_eq_false_iff_ne]; omega
        have q6 : ¬ v = 46 := by omega
        have HC := Lib.hid (show okC b = false by cases e : okC b; rfl; have := HK.out.1 e; have := HV.out; omega)
        clear g0 g1 g2 g3 g4 g5 hvr
        go_wp2
        go_ret
        exact ⟨by rw [HE.out, HBd.out HC.out]; rfl, HB3.out⟩
      · have hp' : p.length < (bs s).size := by rw [he]; exact hp
        have hpe' : (bs s)[p.length] = b := by simp only [he]; exact hpe
        obtain ⟨hh, _⟩ := decode_high (bs s) p.length hp' (by rw [hpe']; omega)
        have hnx : ∀ ty, (Instr.next (.pointer (some ⟨w.heap.size, 0, none⟩)) true ty).run Tryz.prog wr = _ := fun ty => Lib.run_next_any_at (P := Tryz.prog) wr w.heap.size (bs s) p.length ty HI.out.it hp'
        have HC := Lib.hid (show okC b = false by cases e : okC b; rfl; have := (okC_iff b).1 e; omega)
        have hb3 := iter_below (s := bs s) (pos := p.length + (Utf8.decode (bs s) p.length).2) HI.out.below
        obtain ⟨wi, hwi⟩ : ∃ wi, wr.iterAt w.heap.size (bs s) (p.length + (Utf8.decode (bs s) p.length).2) = wi := ⟨_, rfl⟩
        obtain ⟨u, hu⟩ : ∃ u, (Utf8.decode (bs s) p.length).1 = u := ⟨_, rfl⟩
        rw [hwi, hu] at hnx
        rw [hwi] at hb3
        rw [hu] at hh
        obtain ⟨v, hv⟩ : ∃ v : Int, (u : Int) = v := ⟨_, rfl⟩
        rw [hv] at hnx
        have hvr : 128 ≤ v := by omega
        have HE := Lib.hid he
        have HB3 := Lib.hid hb3
        have HBd := Lib.hid (fun hc => (name_bad (p := p) (r := r) (c := b) hc))
        have q1 : decide (v < 97) = false := by exact decide_eq_false (by omega)
        have q2 : decide (v > 122) = true := by exact decide_eq_true (by omega)
        have q3 : decide (v < 48) = false := by exact decide_eq_false (by omega)
        have q4 : decide (v > 57) = true := by exact decide_eq_true (by omega)
        have q5 : (v == 46) = false := by rw [beq_eq_false_iff_ne]; omega
        have q6 : ¬ v = 46 := by omega
        clear hp hpe he hmeas hv hwi hb3 ha hp' hpe' hh hu hvr
        go_wp2
        go_ret
        exact ⟨by rw [HE.out, HBd.out HC.out]; rfl, HB3.out⟩

/-- The document's, between two rounds. -/
structure RnI (s : It) (k : Nat) : Prop where
  ok : ∀ j c, j < k → s[j]? = some c → okC c = true
theorem RnI.next {s : It} {k : Nat} {c : UInt8} (h : RnI s k) (hc : s[k]? = some c) (ho : okC c = true) : RnI s (k + 1) := ⟨fun j d hj hd => by
  by_cases e : j = k
  · subst e
    rw [hc] at hd
    obtain rfl := Option.some.inj hd
    exact ho
  · exact h.ok j d (by omega) hd⟩
theorem name_badAt {s : It} {k : Nat} {c : UInt8} (hc : s[k]? = some c) (h : okC c = false) : nameB s = false := by
  cases e : nameB s
  · rfl
  · have := (nameB_iff.1 e).2.2 c (List.mem_of_getElem? hc)
    rw [h] at this
    cases this
theorem RnI.all {s : It} (h : RnI s s.length) : nameB s = (decide (1 ≤ s.length) && decide (s.length ≤ 20)) := by
  have : s.all okC = true := by
    rw [List.all_eq_true]
    intro c hc
    obtain ⟨j, hj⟩ := List.mem_iff_getElem?.1 hc
    exact h.ok j c (List.getElem?_eq_some_iff.1 hj).1 hj
  unfold nameB
  rw [this, Bool.and_true]
theorem bs_index {s : It} {k : Nat} {c : UInt8} (h : s[k]? = some c) (W : World) : (Instr.index 9 (.string (bs s)) (.int .i64 (k : Int))).run Tryz.prog W = .ok (.int .u8 (c.toNat : Int)) W := by
  obtain ⟨hi, hb⟩ := List.getElem?_eq_some_iff.1 h
  rw [run_index_string _ _ _ _ _ Tryz.underlying9, dif_pos (by rw [bs_size]; omega)]
  have e : ∀ (j : Nat) (hj : j < (bs s).size), j = k → (bs s)[j] = c := by
    rintro j hj rfl
    exact hb
  rw [e _ _ (by simp)]
set_option maxRecDepth 100000 in
set_option maxHeartbeats 4000000 in
theorem refName_any (s : It) (hs : s.length ≤ 9000000000000000000) (w : World) : Calls Tryz.prog 16 #[.string (bs s)] w (BoolP (nameB s) w) := by
  have hz := bs_size s
  go_enter Tryz.func16, Tryz.ntmps16
  go_wp2
  go_loopw [3] (fun i wr => ∃ k : Nat, k ≤ s.length ∧ i = .int .i64 (k : Int) ∧ Hid (RnI s k) ∧ w = wr) (fun i _ => s.length - (intOf i).toNat)
  case atStart => exact ⟨0, Nat.zero_le _, rfl, ⟨fun j c h => absurd h (by omega)⟩, rfl⟩
  case round =>
    obtain ⟨k, hk, rfl, HI, rfl⟩ := hrel
    by_cases hlt : k < s.length
    · obtain ⟨b, hb⟩ : ∃ b, s[k]? = some b := ⟨_, List.getElem?_eq_getElem hlt⟩
      have hd0 : decide ((k : Int) < (s.length : Int)) = true := decide_eq_true (by omega)
      have hix := bs_index hb
      have HN := Lib.hid (fun hc => HI.out.next hb hc)
      have HK := Lib.hid (okC_iff b)
      have HBd := Lib.hid (fun hc => name_badAt hb hc)
      obtain ⟨v, hv⟩ : ∃ v : Int, ((b.toNat : Nat) : Int) = v := ⟨_, rfl⟩
      have HV := Lib.hid hv
      rw [hv] at hix
      have hvr : 0 ≤ v := by omega
      clear hv hb
      by_cases g0 : 97 ≤ v ∧ v ≤ 122
      · skip
        have q1 : decide (v < 97) = false := by exact decide_eq_false (by omega)
        have q2 : decide (v > 122) = false := by exact decide_eq_false (by omega)
        have HC := Lib.hid (HK.out.2 (by have := HV.out; omega))
        clear g0 hvr
        go_wp2
        go_roundw
        case rel => exact ⟨k + 1, by omega, by simp, HN.out HC.out, trivial⟩
        case measure => simp [intOf]; omega
      by_cases g1 : v = 46
      · skip
        have q1 : decide (v < 97) = true := by exact decide_eq_true (by omega)
        have q3 : decide (v < 48) = true := by exact decide_eq_true (by omega)
        have q5 : (v == 46) = true := by rw [beq_iff_eq]; omega
        have HC := Lib.hid (HK.out.2 (by have := HV.out; omega))
        clear g0 g1 hvr
        go_wp2
        go_roundw
        case rel => exact ⟨k + 1, by omega, by simp, HN.out HC.out, trivial⟩
        case measure => simp [intOf]; omega
      by_cases g2 : 48 ≤ v ∧ v ≤ 57
      · skip
        have q1 : decide (v < 97) = true := by exact decide_eq_true (by omega)
        have q3 : decide (v < 48) = false := by exact decide_eq_false (by omega)
        have q4 : decide (v > 57) = false := by exact decide_eq_false (by omega)
        have HC := Lib.hid (HK.out.2 (by have := HV.out; omega))
        clear g0 g1 g2 hvr
        go_wp2
        go_roundw
        case rel => exact ⟨k + 1, by omega, by simp, HN.out HC.out, trivial⟩
        case measure => simp [intOf]; omega
      by_cases g3 : v < 48 ∧ v ≠ 46
      · skip
        have q1 : decide (v < 97) = true := by exact decide_eq_true (by omega)
        have q3 : decide (v < 48) = true := by exact decide_eq_true (by omega)
        have q5 : (v == 46) = false := by rw [beq_eq_false_iff_ne]; omega
        have q6 : ¬ v = 46 := by omega
        have HC := Lib.hid (show okC b = false by cases e : okC b; rfl; have := HK.out.1 e; have := HV.out; omega)
        clear g0 g1 g2 g3 hvr
        go_wp2
        go_ret
        exact ⟨by rw [HBd.out HC.out]; rfl, Below.refl _ _⟩
      by_cases g4 : 57 < v ∧ v < 97
      · skip
        have q1 : decide (v < 97) = true := by exact decide_eq_true (by omega)
        have q3 : decide (v < 48) = false := by exact decide_eq_false (by omega)
        have q4 : decide (v > 57) = true := by exact decide_eq_true (by omega)
        have q5 : (v == 46) = false := by rw [beq_eq_false_iff_ne]; omega
        have q6 : ¬ v = 46 := by omega
        have HC := Lib.hid (show okC b = false by cases e : okC b; rfl; have := HK.out.1 e; have := HV.out; omega)
        clear g0 g1 g2 g3 g4 hvr
        go_wp2
        go_ret
        exact ⟨by rw [HBd.out HC.out]; rfl, Below.refl _ _⟩
      have g5 : 122 < v := by omega
      have q1 : decide (v < 97) = false := by exact decide_eq_false (by omega)
      have q2 : decide (v > 122) = true := by exact decide_eq_true (by omega)
      have q3 : decide (v < 48) = false := by exact decide_eq_false (by omega)
      have q4 : decide (v > 57) = true := by exact decide_eq_true (by omega)
      have q5 : (v == 46) = false := by rw [beq_eq_false_iff_ne]; omega
      have q6 : ¬ v = 46 := by omega
      have HC := Lib.hid (show okC b = false by cases e : okC b; rfl; have := HK.out.1 e; have := HV.out; omega)
      clear g0 g1 g2 g3 g4 g5 hvr
      go_wp2
      go_ret
      exact ⟨by rw [HBd.out HC.out]; rfl, Below.refl _ _⟩
    · obtain rfl : k = s.length := by omega
      have hd0 : decide ((s.length : Int) < (s.length : Int)) = false := decide_eq_false (by omega)
      have HR := Lib.hid HI.out.all
      by_cases h1 : 1 ≤ s.length
      · have d1 : decide ((s.length : Int) ≥ 1) = true := decide_eq_true (by omega)
        have d3 : decide (1 ≤ s.length) = true := decide_eq_true h1
        by_cases h2 : s.length ≤ 20
        · have d2 : decide ((s.length : Int) ≤ 20) = true := decide_eq_true (by omega)
          have d4 : decide (s.length ≤ 20) = true := decide_eq_true h2
          have HX := Lib.hid (And.intro d3 d4)
          clear h1 h2 d3 d4
          go_wp2
          go_ret
          exact ⟨by rw [HR.out, HX.out.1, HX.out.2]; rfl, Below.refl _ _⟩
        · have d2 : decide ((s.length : Int) ≤ 20) = false := decide_eq_false (by omega)
          have d4 : decide (s.length ≤ 20) = false := decide_eq_false h2
          have HX := Lib.hid (And.intro d3 d4)
          clear h1 h2 d3 d4
          go_wp2
          go_ret
          exact ⟨by rw [HR.out, HX.out.1, HX.out.2]; rfl, Below.refl _ _⟩
      · have d1 : decide ((s.length : Int) ≥ 1) = false := decide_eq_false (by omega)
        have d3 : decide (1 ≤ s.length) = false := decide_eq_false h1
        have HX := Lib.hid d3
        clear h1 d3
        go_wp2
        go_ret
        exact ⟨by rw [HR.out, HX.out]; rfl, Below.refl _ _⟩

end Go.Proofs.YtnbpfbmhheimbaaGreatDoor
