/- The reader's iterator over bytes. -/
import Derived.Test.YtpmelbjbkdflgaaDoorFldRange
import Derived.Test.YtpmelbjbkdflgaaDoorFldStr
namespace Go.Proofs.YtpmelbjbkdflgaaDoor
open Go.RowKit Go.Shelf Go.Proofs.Fld

attribute [local go_sem] Oper.semAt_some

/-- The reader at block R has the bytes l left. -/
def Rd (w : World) (R : Nat) (l : List UInt8) : Prop := Boxed w R 60 (.string (bs l))

/-- The iterator's own step: it writes what is left. -/
def StR (R : Nat) (A B : World) : Prop := A.grownBy B (some R) ∧ (∃ l, Rd A R l) ∧ B.heap.size = A.heap.size

set_option maxHeartbeats 1000000 in
theorem bytes_any (R : Nat) (w : World) :
    Calls Tryd.prog 40 #[.pointer (some ⟨R, 0, none⟩)] w fun e w' => e = .returned (.func (.func 50) #[] #[.pointer (some ⟨w.heap.size, 0, none⟩)]) ∧ w' = w.alloc (.cells #[.pointer (some ⟨R, 0, none⟩)] 100) := by
  go_enter Tryd.func40, Tryd.ntmps40
  go_wp2
  go_ret
  exact ⟨rfl, rfl⟩

set_option maxRecDepth 100000 in
set_option maxHeartbeats 2000000 in
theorem bytes1_in (n : Nat) (hn : 1 ≤ n) (l Bl R : Nat) (hne : Bl ≠ R) (all : List UInt8) (J Jx : List UInt8 → World → Prop) (hJ : ∀ s A B, J s A → StR R A B → J s B)
    (hY : ∀ pre b W, J pre W → YieldAt Fence.wide (n - 1) Tryd.prog l #[.int .u8 ((b : UInt8).toNat : Int)] W fun e W' =>
      (e = .returned (.bool true) ∧ J (pre ++ [b]) W' ∧ KeepsKs (fun k => k = Bl ∨ k = R) W W') ∨ (e = .returned (.bool false) ∧ Jx (pre ++ [b]) W' ∧ KeepsKs (fun k => k = Bl ∨ k = R) W W'))
    (W : World) (hBl : Boxed W Bl 100 (.pointer (some ⟨R, 0, none⟩))) (hR : Rd W R all) (h0 : J [] W) :
    CallsIn Fence.wide n Tryd.prog 50 #[.func (.yield l) #[] #[], .pointer (some ⟨Bl, 0, none⟩)] W fun e W' => (∃ v, e = .returned v) ∧
      ((∃ ys, (ys = all ∧ Rd W' R []) ∧ J ys W') ∨ (∃ pre, (∃ rest, all = pre ++ rest ∧ Rd W' R rest) ∧ Jx pre W')) := by
  refine callsIn_of_wp Tryd.func50 rfl trivial ?_ rfl
  simp only [Tryd.ntmps50, List.size_toArray, List.length_cons, List.length_nil, Nat.reduceAdd, Nat.reduceSub, Array.replicate_succ, Array.replicate_zero, List.push_toArray, List.append_toArray, List.nil_append, List.cons_append]
  gi_wp2
  gi_loopw [] (fun wr => ∃ pre rest : List UInt8, all = pre ++ rest ∧ J pre wr ∧ Boxed wr Bl 100 (.pointer (some ⟨R, 0, none⟩)) ∧ Rd wr R rest)
    (fun wr => match wr.cell? ⟨R, 0, none⟩ with | some (.string s) => s.size | _ => 0)
  case atStart => exact ⟨[], all, rfl, h0, hBl, hR⟩
  case round =>
    obtain ⟨pre, rest, hx, hJs, hb, hr⟩ := hrel
    have c1 := hb.cell
    have c2 := hr.cell
    have f2 := hr.frozen
    cases rest with
    | nil =>
      have hq : (bs []).toList.isEmpty = true := by rw [bs_toList]; rfl
      gi_wp2
      go_end0
      exact ⟨⟨_, rfl⟩, .inl ⟨pre, ⟨by rw [hx, List.append_nil], hr⟩, hJs⟩⟩
    | cons b r =>
      have hq : (bs (b :: r)).toList.isEmpty = false := by rw [bs_toList]; rfl
      have hix := str_head b r
      have hsl : ∀ w, (Instr.slice 9 (.string (bs (b :: r))) (some (.int .i64 1)) none none).run Tryd.prog w = .ok (.string (bs r)) w := fun w => str_from (b :: r) 1 (by simp) w
      gi_wp2
      refine wpIn_wide.2 ?_
      go_region
      have hgr : wr.grownBy (wr.setCell ⟨R, 0, none⟩ (.string (bs r))).drew (some R) := by
        have g0 := grownBy_setCell' wr R (.string (bs r))
        exact ⟨g0.os, g0.tape, g0.output, g0.size, g0.block⟩
      have hst : StR R wr (wr.setCell ⟨R, 0, none⟩ (.string (bs r))).drew := ⟨hgr, ⟨_, hr⟩, by simp [World.setCell]⟩
      have hr2 : Rd (wr.setCell ⟨R, 0, none⟩ (.string (bs r))).drew R r := hr.set _
      have hb2 : Boxed (wr.setCell ⟨R, 0, none⟩ (.string (bs r))).drew Bl 100 (.pointer (some ⟨R, 0, none⟩)) := hb.kept hgr (fun e => hne (by injection e))
      obtain ⟨fn, tmps, assign, body, hy, hRn⟩ := hY pre b _ (hJ _ _ _ hJs hst)
      gi_wp2
      refine hRn.mono ?_
      rintro e W3 (⟨rfl, hJ3, hk3⟩ | ⟨rfl, hJx3, hk3⟩)
      · gi_wp2
        have hr3 : Rd W3 R r := (hk3 R (.inr rfl)).trans hr2
        go_roundw
        case rel => exact ⟨pre ++ [b], r, by rw [hx]; simp, hJ3, (hk3 Bl (.inl rfl)).trans hb2, hr3⟩
        case measure =>
          rw [hr3.cell, c2]
          simp [bs_size]
      · gi_wp2
        refine bodyPost_ret (results_none rfl _ _ _) rfl ?_
        exact ⟨⟨_, rfl⟩, .inr ⟨pre ++ [b], ⟨r, by rw [hx]; simp, (hk3 R (.inr rfl)).trans hr2⟩, hJx3⟩⟩

theorem bytes_steps (n : Nat) (hn : 1 ≤ n) (Bl R : Nat) (hne : Bl ≠ R) (all : List UInt8) (w : World) (hBl : Boxed w Bl 100 (.pointer (some ⟨R, 0, none⟩))) (hR : Rd w R all) :
    SeqSteps n Tryd.prog 50 #[.pointer (some ⟨Bl, 0, none⟩)] (fun b : UInt8 => #[Value.int .u8 (b.toNat : Int)]) (fun k => k = Bl ∨ k = R) (StR R) (fun ys W => ys = all ∧ Rd W R []) (fun pre W => ∃ rest, all = pre ++ rest ∧ Rd W R rest) w := fun l J Jx W hW hJ hY h0 =>
  bytes1_in n hn l Bl R hne all J Jx hJ hY W ((hW.block Bl hBl.lt).trans hBl) ((hW.block R (Boxed.lt hR)).trans hR) h0

end Go.Proofs.YtpmelbjbkdflgaaDoor
