/- A law's run over slots; the three handles that are known. -/
import Derived.Test.YtjfooblnpkckfaaDoorSlNew
namespace Go.Proofs.YtjfooblnpkckfaaDoor
open Go.RowKit Go.Proofs.Slt Go.Shelf

theorem Ctx.mono {t : Sn} {n0 m : Nat} {w : World} (h : Ctx t n0 w) (h1 : n0 ≤ m) (h2 : m ≤ w.heap.size) : Ctx t m w :=
  ⟨h.cn, h.cs, h.bn, h.bs, h.ns, Nat.lt_of_lt_of_le h.l0 h1, Nat.lt_of_lt_of_le h.l1 h1, Nat.lt_of_lt_of_le h.ln h1, Nat.lt_of_lt_of_le h.ls h1, h2⟩

/-- A law's world: the slots st at p, all else below m as it was at first; m and z are numbers of blocks: slots lie below z. -/
structure Run (t : Sn) (m : Nat) (w0 : World) (z : Nat) (p : Pl) (st : St) (w : World) : Prop where
  ctx : Ctx t m w
  sl : Sl m w p st
  below : Below m w0 w
  lt : p.S < z ∧ p.g1 < z ∧ p.g2 < z
  z : z ≤ w.heap.size
theorem Run.more {t : Sn} {m : Nat} {w0 : World} {z : Nat} {p : Pl} {st : St} {w w' : World} (h : Run t m w0 z p st w) (hb : Below w.heap.size w w') : Run t m w0 z p st w' :=
  ⟨h.ctx.more hb, h.sl.more hb, h.below.trans (hb.mono h.ctx.size), h.lt, Nat.le_trans h.z hb.size⟩
theorem Run.alloc {t : Sn} {m : Nat} {w0 : World} {z : Nat} {p : Pl} {st : St} {w : World} (h : Run t m w0 z p st w) (o : Obj) : Run t m w0 z p st (w.alloc o) := h.more (Below.new w o)
theorem Run.step {t : Sn} {m : Nat} {w0 : World} {z : Nat} {p : Pl} {st st' : St} {w w' : World} (h : Run t m w0 z p st w) (hs : Sl m w' p st') (hf : p.Fr w w') : Run t m w0 z p st' w' :=
  have hb := h.sl.below hf h.ctx.size
  ⟨h.ctx.below hb, hs, h.below.trans hb, h.lt, Nat.le_trans h.z (show Fr p.S p.g1 p.g2 w w' from hf).size⟩
theorem Run.cell {t : Sn} {m : Nat} {w0 : World} {z : Nat} {p : Pl} {st : St} {w w' : World} (h : Run t m w0 z p st w) (hf : p.Fr w w') {a : Addr} {v : Value} (hc : w.cell? a = some v) (ha : z ≤ a.block) : w'.cell? a = some v := by
  have := h.lt
  exact Fr.cell hf hc (by omega) (by omega) (by omega)
theorem Run.block {t : Sn} {m : Nat} {w0 : World} {z : Nat} {p : Pl} {st : St} {w w' : World} (h : Run t m w0 z p st w) (hf : p.Fr w w') {k : Nat} (hk : k < w.heap.size) (ha : z ≤ k) : w'.heap[k]? = w.heap[k]? := by
  have := h.lt
  exact (show Fr p.S p.g1 p.g2 w w' from hf).block k hk (by omega) (by omega) (by omega)
/-- Behind New. -/
theorem Run.start {t : Sn} {n0 n : Nat} {w0 w w1 : World} {p : Pl} (hc : Ctx t n0 w) (hb : Below n0 w0 w) (h1 : Sl w.heap.size w1 p (fresh n)) (h2 : Below w.heap.size w w1) : Run t n0 w0 w1.heap.size p (fresh n) w1 :=
  ⟨hc.more h2, h1.mono hc.size, hb.trans (h2.mono hc.size), h1.lts, Nat.le_refl _⟩

/-- What Take, Give, Live tell. -/
def TakeR (t : Sn) (m : Nat) (w0 : World) (z : Nat) (p : Pl) (st : St) (w : World) (e : Ending) (w' : World) : Prop := e = .returned (.tuple #[ihv (toI (takeH st)), .int .i64 (takeE st)]) ∧ Run t m w0 z p (takeS st) w' ∧ p.Fr w w'
def GiveR (t : Sn) (m : Nat) (w0 : World) (z : Nat) (p : Pl) (st : St) (h : IH) (w : World) (e : Ending) (w' : World) : Prop := e = .returned (.int .i64 (giveE st h)) ∧ Run t m w0 z p (giveS st h) w' ∧ p.Fr w w'
def LiveR (t : Sn) (m : Nat) (w0 : World) (z : Nat) (p : Pl) (st : St) (h : IH) (w : World) (e : Ending) (w' : World) : Prop := e = .returned (.bool (liveR st h)) ∧ Run t m w0 z p st w' ∧ Below w.heap.size w w'
theorem Take_run {t : Sn} {m : Nat} {w0 : World} {z : Nat} {p : Pl} {st : St} {w : World} (h : Run t m w0 z p st w) :
    Calls Tryd.prog 12 #[.pointer (some ⟨p.S, 0, none⟩)] w (TakeR t m w0 z p st w) :=
  (Take_any t m p st w h.ctx h.sl).mono fun _ _ ⟨he, hs, hf⟩ => ⟨he, h.step hs hf, hf⟩
theorem Give_run {t : Sn} {m : Nat} {w0 : World} {z : Nat} {p : Pl} {st : St} {w : World} (h : Run t m w0 z p st w) (a b : Int) :
    Calls Tryd.prog 16 #[.pointer (some ⟨p.S, 0, none⟩), .agg #[.int .i64 a, .int .i64 b]] w (GiveR t m w0 z p st (a, b) w) :=
  (Give_any t m p st (a, b) w h.ctx h.sl).mono fun _ _ ⟨he, hs, hf⟩ => ⟨he, h.step hs hf, hf⟩
theorem Live_run {t : Sn} {m : Nat} {w0 : World} {z : Nat} {p : Pl} {st : St} {w : World} (h : Run t m w0 z p st w) (a b : Int) :
    Calls Tryd.prog 14 #[.pointer (some ⟨p.S, 0, none⟩), .agg #[.int .i64 a, .int .i64 b]] w (LiveR t m w0 z p st (a, b) w) :=
  (Live_any t m p st (a, b) w h.ctx h.sl).mono fun _ _ ⟨he, hb⟩ => ⟨he, h.more hb, hb⟩
theorem Used_run {t : Sn} {m : Nat} {w0 : World} {z : Nat} {p : Pl} {st : St} {w : World} (h : Run t m w0 z p st w) :
    Calls Tryd.prog 21 #[.pointer (some ⟨p.S, 0, none⟩)] w fun e w' => e = .returned (.int .i64 ((allR st).length : Int)) ∧ w = w' := Used_any m p st w h.sl
/-- What All tells. -/
def AllRun (t : Sn) (m : Nat) (w0 : World) (z : Nat) (p : Pl) (st : St) (w : World) (e : Ending) (w' : World) : Prop := ∃ a c, e = .returned (.slice a (allR st).length c) ∧ Hs w.heap.size w' (.slice a (allR st).length c) (allR st) ∧ Run t m w0 z p st w' ∧ Below w.heap.size w w'
theorem All_run {t : Sn} {m : Nat} {w0 : World} {z : Nat} {p : Pl} {st : St} {w : World} (h : Run t m w0 z p st w) :
    Calls Tryd.prog 20 #[.pointer (some ⟨p.S, 0, none⟩)] w (AllRun t m w0 z p st w) :=
  (All_any m p st w h.sl).mono fun _ _ ⟨v, he, hv, hb⟩ => by
    obtain ⟨a, c, rfl⟩ := hv.slice
    exact ⟨a, c, he, hv, h.more hb, hb⟩

/-- It tells true, and leaves all as it was. -/
def TruePost (w : World) (e : Ending) (w' : World) : Prop := e = .returned (.bool true) ∧ Below w.heap.size w w'

/-- A handle in memory. -/
def H2 (W : World) (b : Nat) (x y : Int) : Prop := W.cell? ⟨b, 0, none⟩ = some (.int .i64 x) ∧ W.cell? ⟨b, 1, none⟩ = some (.int .i64 y)
theorem H2.new (W : World) (x y : Int) : H2 (W.alloc (.cells #[.int .i64 x, .int .i64 y] 32)) W.heap.size x y := ⟨by simp, by simp⟩
theorem H2.more {W W' : World} {b : Nat} {x y : Int} (h : H2 W b x y) (hb : Below W.heap.size W W') : H2 W' b x y := ⟨cell_later hb h.1, cell_later hb h.2⟩
theorem H2.run {t : Sn} {m : Nat} {w0 : World} {z : Nat} {p : Pl} {st : St} {w w' : World} {b : Nat} {x y : Int} (h : H2 w b x y) (r : Run t m w0 z p st w) (hf : p.Fr w w') (hb : z ≤ b) : H2 w' b x y := ⟨r.cell hf h.1 hb, r.cell hf h.2 hb⟩

set_option maxRecDepth 100000 in
set_option maxHeartbeats 4000000 in
theorem shown_any (t : Sn) (n0 : Nat) (w : World) (hc : Ctx t n0 w) : Calls Tryd.prog 9 #[] w (TruePost w) := by
  have HC := Lib.hid (hc.mono hc.size (Nat.le_refl _))
  clear hc
  go_enter Tryd.func9, Tryd.ntmps9
  go_wp2_with (go_at_call 10; refine (New_ok 2 w (by omega) (by omega)).mono ?_)
  rintro e w1 ⟨p, rfl, h1, h2⟩
  have R1 := Lib.hid (Run.start HC.out (Below.refl _ _) h1 h2)
  clear h1 h2
  go_wp2_with (go_at_call 12; refine (Take_run R1.out).mono ?_)
  rintro e w2 ⟨he, r, f⟩
  rw [show ihv (toI (takeH (fresh 2))) = .agg #[.int .i64 0, .int .i64 1] from rfl, show takeE (fresh 2) = 0 from rfl] at he
  subst he
  rw [show takeS (fresh 2) = [(1, true), (0, false)] from rfl] at r
  have hz2 := r.z
  have R2 := Lib.hid (r.alloc (.cells #[.int .i64 0, .int .i64 1] 32))
  have HVa := Lib.hid (H2.new w2 0 1)
  clear r f
  go_wp2_with (go_at_call 12; refine (Take_run R2.out).mono ?_)
  rintro e w3 ⟨he, r, f⟩
  rw [show ihv (toI (takeH [(1, true), (0, false)])) = .agg #[.int .i64 1, .int .i64 1] from rfl, show takeE [(1, true), (0, false)] = 0 from rfl] at he
  subst he
  rw [show takeS [(1, true), (0, false)] = [(1, true), (1, true)] from rfl] at r
  have hz3 := r.z
  have HVa := Lib.hid ((HVa.out.run R2.out f (by omega)).more (Below.new w3 (.cells #[.int .i64 1, .int .i64 1] 32)))
  have R3 := Lib.hid (r.alloc (.cells #[.int .i64 1, .int .i64 1] 32))
  have HVb := Lib.hid (H2.new w3 1 1)
  clear r f
  go_wp2_with (go_at_call 12; refine (Take_run R3.out).mono ?_)
  rintro e w4 ⟨he, r, f⟩
  rw [show ihv (toI (takeH [(1, true), (1, true)])) = .agg #[.int .i64 0, .int .i64 0] from rfl, show takeE [(1, true), (1, true)] = 60 from rfl] at he
  subst he
  rw [show takeS [(1, true), (1, true)] = [(1, true), (1, true)] from rfl] at r
  have hz4 := r.z
  have HVa := Lib.hid ((HVa.out.run R3.out f (by omega)).more (Below.new w4 (.cells #[.int .i64 0, .int .i64 0] 32)))
  have HVb := Lib.hid ((HVb.out.run R3.out f (by omega)).more (Below.new w4 (.cells #[.int .i64 0, .int .i64 0] 32)))
  have R4 := Lib.hid (r.alloc (.cells #[.int .i64 0, .int .i64 0] 32))
  have HVd := Lib.hid (H2.new w4 0 0)
  clear r f
  have a0 := HVa.out.1
  have a1 := HVa.out.2
  go_wp2_with (go_at_call 16; refine (Give_run R4.out 0 1).mono ?_)
  rintro e w5 ⟨he, r, f⟩
  rw [show giveE [(1, true), (1, true)] (0, 1) = 0 from rfl] at he
  subst he
  rw [show giveS [(1, true), (1, true)] (0, 1) = [(1, false), (1, true)] from rfl] at r
  have HVa := Lib.hid (HVa.out.run R4.out f (by omega))
  have HVb := Lib.hid (HVb.out.run R4.out f (by omega))
  have HVd := Lib.hid (HVd.out.run R4.out f (by omega))
  have R5 := Lib.hid r
  clear r f
  clear a0 a1
  go_wp2_with (go_at_call 12; refine (Take_run R5.out).mono ?_)
  rintro e w6 ⟨he, r, f⟩
  rw [show ihv (toI (takeH [(1, false), (1, true)])) = .agg #[.int .i64 0, .int .i64 2] from rfl, show takeE [(1, false), (1, true)] = 0 from rfl] at he
  subst he
  rw [show takeS [(1, false), (1, true)] = [(2, true), (1, true)] from rfl] at r
  have hz6 := r.z
  have HVa := Lib.hid ((HVa.out.run R5.out f (by omega)).more (Below.new w6 (.cells #[.int .i64 0, .int .i64 2] 32)))
  have HVb := Lib.hid ((HVb.out.run R5.out f (by omega)).more (Below.new w6 (.cells #[.int .i64 0, .int .i64 2] 32)))
  have HVd := Lib.hid ((HVd.out.run R5.out f (by omega)).more (Below.new w6 (.cells #[.int .i64 0, .int .i64 2] 32)))
  have R6 := Lib.hid (r.alloc (.cells #[.int .i64 0, .int .i64 2] 32))
  have HVc := Lib.hid (H2.new w6 0 2)
  clear r f
  have a0 := HVa.out.1
  have a1 := HVa.out.2
  have b0 := HVb.out.1
  have b1 := HVb.out.2
  have c0 := HVc.out.1
  have c1 := HVc.out.2
  go_wp2_with (go_at_call 16; refine (Give_run R6.out 0 1).mono ?_)
  rintro e w7 ⟨he, r, f⟩
  rw [show giveE [(2, true), (1, true)] (0, 1) = 61 from rfl] at he
  subst he
  rw [show giveS [(2, true), (1, true)] (0, 1) = [(2, true), (1, true)] from rfl] at r
  have HVa := Lib.hid (HVa.out.run R6.out f (by omega))
  have HVb := Lib.hid (HVb.out.run R6.out f (by omega))
  have HVd := Lib.hid (HVd.out.run R6.out f (by omega))
  have HVc := Lib.hid (HVc.out.run R6.out f (by omega))
  have R7 := Lib.hid r
  clear r f
  go_wp2
  go_ret
  exact ⟨rfl, R7.out.below⟩

end Go.Proofs.YtjfooblnpkckfaaDoor
