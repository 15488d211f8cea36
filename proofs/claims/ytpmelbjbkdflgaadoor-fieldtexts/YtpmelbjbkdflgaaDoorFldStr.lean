/- Strings as lists of bytes. -/
import Derived.Test.YtpmelbjbkdflgaaDoorFldBase
import Derived.Lib.Strings
import Derived.Lib.IndexBytes
namespace Go.Proofs.YtpmelbjbkdflgaaDoor
open Go.RowKit Go.Shelf Go.Proofs.Fld

theorem bs_toList (l : List UInt8) : (bs l).toList = l := by
  rw [Lib.toList_data]
  rfl
theorem bs_extract (l : List UInt8) (a b : Nat) : (bs l).extract a b = bs ((l.drop a).take (b - a)) := by
  have h := Lib.extract_data (bs l) a b
  rw [bs_all ((bs l).extract a b), h]
  rfl
theorem bs_append (l m : List UInt8) : bs l ++ bs m = bs (l ++ m) := by
  unfold bs
  apply ByteArray.ext
  simp
theorem str_neq (l : List UInt8) (w : World) : (binOp .neq 9 (.string (bs l)) (.string { data := #[] })).run Tryd.prog w = .ok (.bool (!l.isEmpty)) w := by
  have e : ({ data := #[] } : ByteArray) = bs [] := rfl
  rw [e]
  simp [go_sem, bs_toList]
theorem str_eql (l m : List UInt8) (w : World) : (binOp .eql 9 (.string (bs l)) (.string (bs m))).run Tryd.prog w = .ok (.bool (decide (l = m))) w := by
  simp [go_sem, bs_toList]
  by_cases h : l = m <;> simp [h]
theorem str_head (b : UInt8) (r : List UInt8) (w : World) : (Instr.index 9 (.string (bs (b :: r))) (.int .i64 0)).run Tryd.prog w = .ok (.int .u8 (b.toNat : Int)) w := by
  rw [run_index_string _ _ _ _ _ Tryd.underlying9, dif_pos (by rw [bs_size]; simp)]
  rfl
theorem str_from (l : List UInt8) (k : Nat) (h : k ≤ l.length) (w : World) : (Instr.slice 9 (.string (bs l)) (some (.int .i64 (k : Int))) none none).run Tryd.prog w = .ok (.string (bs (l.drop k))) w := by
  simp [go_sem, Tryd.underlying9, bs_size, bs_extract, h]
  rw [List.take_of_length_le (by simp)]
theorem str_upto (l : List UInt8) (k : Nat) (h : k ≤ l.length) (w : World) : (Instr.slice 9 (.string (bs l)) none (some (.int .i64 (k : Int))) none).run Tryd.prog w = .ok (.string (bs (l.take k))) w := by
  simp [go_sem, Tryd.underlying9, bs_size, bs_extract, h]
theorem str_add (l m : List UInt8) (h : l.length + m.length ≤ 9223372036854775807) (w : World) : (binOp .add 9 (.string (bs l)) (.string (bs m))).run Tryd.prog w = .ok (.string (bs (l ++ m))) w := by
  simp [go_sem, bs_append, bs_size, h]

end Go.Proofs.YtpmelbjbkdflgaaDoor
