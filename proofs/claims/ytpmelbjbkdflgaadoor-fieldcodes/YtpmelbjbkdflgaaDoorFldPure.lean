/- What the field functions answer: plain functions of lists. -/
import Derived.Test.YtpmelbjbkdflgaaDoorFldBase
namespace Go.Proofs.YtpmelbjbkdflgaaDoor
open Go.RowKit Go.Shelf Go.Proofs.Fld

/-- Put's error: none, no width, too great. -/
def putC (k : Int) (n : Nat) : Int := if isW k then (if n < 256 ^ k.toNat then 0 else 31) else 2
def packC : List Int → List Nat → Int
  | k :: ks, n :: ns => if putC k n = 0 then packC ks ns else putC k n
  | _, _ => 0
def packB : List Int → List Nat → List UInt8
  | k :: ks, n :: ns => enc k.toNat n ++ packB ks ns
  | _, _ => []
def packRes (ks : List Int) (ns : List Nat) : List UInt8 × Int := if ks.length = ns.length then (if packC ks ns = 0 then (packB ks ns, 0) else ([], packC ks ns)) else ([], 2)

theorem isW_le {k : Int} (h : isW k) : ∃ m : Nat, k = m ∧ 1 ≤ m ∧ m ≤ 8 := by
  rcases h with rfl | rfl | rfl | rfl
  · exact ⟨1, rfl, by omega, by omega⟩
  · exact ⟨2, rfl, by omega, by omega⟩
  · exact ⟨4, rfl, by omega, by omega⟩
  · exact ⟨8, rfl, by omega, by omega⟩
theorem putC_zero {k : Int} {n : Nat} (h : putC k n = 0) : isW k ∧ n < 256 ^ k.toNat := by
  unfold putC at h
  by_cases hw : isW k
  · rw [if_pos hw] at h
    by_cases hn : n < 256 ^ k.toNat
    · exact ⟨hw, hn⟩
    · rw [if_neg hn] at h; exact absurd h (by decide)
  · rw [if_neg hw] at h; exact absurd h (by decide)
theorem judge_is (s : Sn) (k : Int) (n : Nat) : ErrIs s (judgeV s k n) (putC k n) := by
  unfold judgeV putC
  by_cases hw : isW k
  · rw [if_pos hw, if_pos hw]
    by_cases hn : n < 256 ^ k.toNat
    · rw [if_pos hn, if_pos hn]; exact .ok
    · rw [if_neg hn, if_neg hn]; exact .great k
  · rw [if_neg hw, if_neg hw]; exact .width k
theorem judge_zero {s : Sn} {k : Int} {n : Nat} (h : putC k n = 0) : judgeV s k n = .nilIface := by
  obtain ⟨h1, h2⟩ := putC_zero h
  simp [judgeV, h1, h2]
theorem judge_some {s : Sn} {k : Int} {n : Nat} (h : putC k n ≠ 0) : ∃ v, judgeV s k n = .iface 62 v := by
  unfold judgeV faultV
  unfold putC at h
  by_cases hw : isW k
  · rw [if_pos hw] at h ⊢
    by_cases hn : n < 256 ^ k.toNat
    · rw [if_pos hn] at h; exact absurd rfl h
    · rw [if_neg hn]; exact ⟨_, rfl⟩
  · rw [if_neg hw]; exact ⟨_, rfl⟩
theorem packC_cons {k : Int} {ks : List Int} {n : Nat} {ns : List Nat} (h : putC k n = 0) : packC (k :: ks) (n :: ns) = packC ks ns := by simp [packC, h]
theorem packC_stop {k : Int} {ks : List Int} {n : Nat} {ns : List Nat} (h : putC k n ≠ 0) : packC (k :: ks) (n :: ns) = putC k n := by simp [packC, h]

end Go.Proofs.YtpmelbjbkdflgaaDoor
