/- sign. -/
import Derived.Test.YtcjokjipgeaikaaGreatDoorTxRead
namespace Go.Proofs.YtcjokjipgeaikaaGreatDoor
open Go.RowKit Go.Shelf Go.Proofs.Fld Go.Proofs.Tx

def strO : Option UInt8 → Value
  | some b => .string (bs [b])
  | none => .string (bs [])
/-- What is wrong, told beside what is left. -/
def errO {α : Type} (T : Nat) (x : Option α × List UInt8) : Value := match x.1 with
  | some _ => .nilIface
  | none => faultV T x.2
def SignPost (R T : Nat) (x : Option UInt8 × List UInt8) (w : World) (e : Ending) (w' : World) : Prop := e = .returned (.tuple #[strO x.1, errO T x]) ∧ Rx w' R T x.2 ∧ w.grownBy w' (some R)

/-- None of the first j is next. -/
def NoneOf (cs l : List UInt8) (j : Nat) : Prop := ∀ k c r, k < j → cs[k]? = some c → l ≠ c :: r
theorem sgn_none {cs l : List UInt8} (h : NoneOf cs l cs.length) : sgn cs l = (none, l) := by
  cases l with
  | nil => rfl
  | cons b r =>
    refine sgn_no r (fun hc => ?_)
    have hm : b ∈ cs := by simpa using hc
    obtain ⟨k, hk, e⟩ := List.mem_iff_getElem.1 hm
    exact h k b r hk (by rw [List.getElem?_eq_getElem hk, e]) rfl
theorem pre_yes (c : UInt8) (r : List UInt8) : Lib.hasPrefix (c :: r) [c] = true := by simp [Lib.hasPrefix]
theorem pre_no {l : List UInt8} {c : UInt8} (h : ∀ r, l ≠ c :: r) : Lib.hasPrefix l [c] = false := by
  cases l with
  | nil => rfl
  | cons b r =>
    have hne : c ≠ b := fun e => h r (by rw [e])
    simp [Lib.hasPrefix, List.isPrefixOf, hne]

set_option maxRecDepth 100000 in
set_option maxHeartbeats 1000000 in
theorem sign_any (R T g cap : Nat) (cs l : List UInt8) (_hcs : cs.length ≤ cap) (hcl : cs.length ≤ 1000) (hl : l.length ≤ T) (hT : T ≤ 4611686018427387904) (w : World) (h : Rx w R T l) (hg : Signs w g cs) :
    Calls Tryz.prog 22 #[.pointer (some ⟨R, 0, none⟩), .slice (some ⟨g, 0, none⟩) cs.length cap] w (SignPost R T (sgn cs l) w) := by
  have c0 := h.c0
  have H := Lib.hid h
  have G := Lib.hid hg
  clear h hg
  go_enter Tryz.func22, Tryz.ntmps22
  go_wp2
  go_loop [7, 10] (fun _ i => ∃ j : Nat, j ≤ cs.length ∧ i = .int .i64 j ∧ NoneOf cs l j) (fun _ i => cs.length - (intOf i).toNat)
  case atStart => exact ⟨0, Nat.zero_le _, rfl, fun k c r hk => absurd hk (Nat.not_lt_zero _)⟩
  case round =>
    obtain ⟨j, hj, rfl, hno⟩ := hrel
    have NO := Lib.hid hno
    clear hno
    by_cases hlt : j < cs.length
    · obtain ⟨c, hc⟩ : ∃ c, cs[j]? = some c := ⟨_, List.getElem?_eq_getElem hlt⟩
      have cg := G.out.2 j c hc
      have HC := Lib.hid hc
      clear hc
      by_cases hb : ∃ r, l = c :: r
      · obtain ⟨r, rfl⟩ := hb
        go_wp2_with fail
        refine (strings_HasPrefix _ _ _).mono ?_
        rintro e w' ⟨rfl, rfl⟩
        rw [bs_data, bs_data, pre_yes]
        go_wp2_with fail
        have hk1 : (1 : Nat) ≤ (c :: r).length := by simp
        have hz : ((bs [c]).size : Int) = ((1 : Nat) : Int) := by rw [bs_size]; rfl
        rw [hz]
        refine (skip_any R T (c :: r) 1 hk1 hl hT _ H.out).mono ?_
        rintro e w1 ⟨rfl, hr, ho, _⟩
        go_wp2
        go_ret2
        have hm : cs.contains c = true := by
          obtain ⟨hk, e⟩ := List.getElem?_eq_some_iff.1 HC.out
          simpa using List.mem_iff_getElem.2 ⟨j, hk, e⟩
        unfold SignPost
        rw [sgn_hit r hm]
        exact ⟨rfl, hr, ho⟩
      · have hb' : ∀ r, l ≠ c :: r := fun r e => hb ⟨r, e⟩
        have HB := Lib.hid hb'
        clear hb hb'
        go_wp2_with fail
        refine (strings_HasPrefix _ _ _).mono ?_
        rintro e w' ⟨rfl, rfl⟩
        rw [bs_data, bs_data, pre_no HB.out]
        go_wp2
        go_round
        case rel =>
          refine ⟨j + 1, by omega, by go_num, fun k c' r hk hck => ?_⟩
          rcases Nat.lt_succ_iff_lt_or_eq.1 hk with h1 | h1
          · exact NO.out k c' r h1 hck
          · subst h1
            rw [HC.out] at hck
            injection hck with hck
            subst hck
            exact HB.out r
        case measure => simp [intOf]; omega
    · obtain rfl : j = cs.length := by omega
      go_wp2_with fail
      refine (wrong_any R T l _ H.out).mono ?_
      rintro e w' ⟨rfl, rfl⟩
      go_wp2
      go_ret2
      unfold SignPost
      rw [sgn_none NO.out]
      exact ⟨rfl, H.out, World.grownBy.refl _ _⟩

end Go.Proofs.YtcjokjipgeaikaaGreatDoor
