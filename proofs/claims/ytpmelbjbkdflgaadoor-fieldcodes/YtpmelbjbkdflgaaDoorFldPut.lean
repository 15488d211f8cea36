/- pack at lists of whatever lengths; Put, Pack. -/
import Derived.Test.YtpmelbjbkdflgaaDoorFldPack
import Derived.BigQuiet
namespace Go.Proofs.YtpmelbjbkdflgaaDoor
open Go.RowKit Go.Shelf Go.Proofs.Fld

set_option maxRecDepth 100000 in
set_option maxHeartbeats 1000000 in
theorem pack_len (s : Sn) (N M : Nat) (hne : N ≠ M) (aw an : Option Addr) (cw cn : Nat) (w : World) (hs : Sent s w) :
    Calls Tryd.prog 26 #[.slice aw N cw, .slice an M cn] w (PackPost s ([], 2) w) := by
  have hn : ((N : Int) != (M : Int)) = true := by simp; omega
  have gw := hs.cw
  go_enter Tryd.func26, Tryd.ntmps26
  go_wp2
  go_region
  all_goals
    go_wp2
    go_ret2
    first | exact ⟨_, .width _, rfl, (Below.refl _ w).drew⟩ | exact ⟨_, .width _, rfl, Below.refl _ _⟩ | exact ⟨_, .width _, rfl, (Below.refl _ w).drew.drew⟩

theorem pack_any (s : Sn) (ws : List Int) (ns : List Nat) (hN : ns.length ≤ 1048576) (hww : ∀ k ∈ ws, (Lit.int .i64 k).wf = true) (hnw : ∀ x ∈ ns, x < 18446744073709551616)
    (aw an : Option Addr) (cw cn : Nat) (w : World) (hs : Sent s w) (hW : SlI .i64 w.heap.size w aw ws) (hNs : SlI .u64 w.heap.size w an (ns.map fun (x : Nat) => (x : Int))) :
    Calls Tryd.prog 26 #[.slice aw ws.length cw, .slice an ns.length cn] w (PackPost s (packRes ws ns) w) := by
  by_cases h : ws.length = ns.length
  · have := pack_in 3 (by omega) s ns.length ws ns h rfl hN hww hnw aw an cw cn w hs hW hNs
    rw [h]
    exact (callsIn_wide (n := 3)).1 this
  · have e : packRes ws ns = ([], 2) := by unfold packRes; rw [if_neg h]
    rw [e]
    exact pack_len s _ _ h aw an cw cn w hs

theorem slI_one (q : IntKind) (x : Int) (t : TypeId) (w : World) : SlI q (w.heap.size + 1) (w.alloc (.cells #[.int q x] t)) (some ⟨w.heap.size, 0, none⟩) [x] := by
  intro j hj
  obtain rfl : j = 0 := by simp at hj; omega
  exact ⟨w.heap.size, 0, rfl, by omega, by rw [World.cell?_alloc_at _ _ _ _ rfl]; rfl⟩

/-- The bytes and the code that a call of two results answers. -/
def SC (r : List UInt8 × Int) (w : World) (e : Ending) (w' : World) : Prop := e = .returned (.tuple #[.string (bs r.1), .int .i64 r.2]) ∧ Below w.heap.size w w'
def putRes (k : Int) (n : Nat) : List UInt8 × Int := if putC k n = 0 then (enc k.toNat n, 0) else ([], putC k n)
theorem packRes_one (k : Int) (n : Nat) : packRes [k] [n] = putRes k n := by
  unfold packRes putRes
  by_cases h : putC k n = 0 <;> simp [packC, packB, h]

set_option maxHeartbeats 1000000 in
theorem put_any (s : Sn) (k : Int) (hk : (Lit.int .i64 k).wf = true) (n : Nat) (hn : n < 18446744073709551616) (w : World) (hs : Sent s w) :
    Calls Tryd.prog 11 #[.int .i64 k, .int .u64 n] w (SC (putRes k n) w) := by
  have hB : Below w.heap.size w ((w.alloc (.cells #[.int .i64 k] 3)).alloc (.cells #[.int .u64 n] 22)) := (Below.new w _).alloc (by simp) _
  have hW := ((slI_one .i64 k 3 w).below (Below.new (w.alloc (.cells #[.int .i64 k] 3)) (.cells #[.int .u64 n] 22)) (by simp)).more (B' := ((w.alloc (.cells #[.int .i64 k] 3)).alloc (.cells #[.int .u64 n] 22)).heap.size) (by simp)
  have hN := (slI_one .u64 (n : Int) 22 (w.alloc (.cells #[.int .i64 k] 3))).more (B' := ((w.alloc (.cells #[.int .i64 k] 3)).alloc (.cells #[.int .u64 n] 22)).heap.size) (by simp)
  have hp := pack_any s [k] [n] (by simp) (by simpa using hk) (by simpa using hn) _ _ 1 1 _ (hs.more hB) hW (by simpa using hN)
  rw [packRes_one] at hp
  simp only [List.length_cons, List.length_nil, Nat.zero_add] at hp
  have HP := Lib.hid hp
  have HS := Lib.hid hs
  clear hp hW hN hs hk hn
  go_enter Tryd.func11, Tryd.ntmps11
  go_wp2_with (go_at_call 26; refine HP.out.mono ?_)
  rintro e w1 ⟨ev, hev, rfl, b1⟩
  have b2 := below_more hB b1
  have HE := Lib.hid hev
  clear hev
  go_wp2_with (go_at_call 27; refine (told_any s HE.out w1 (HS.out.more b2)).mono ?_)
  rintro e w2 ⟨rfl, b3⟩
  go_wp2
  go_ret2
  exact ⟨rfl, below_more b2 b3⟩

set_option maxHeartbeats 1000000 in
theorem packE_any (s : Sn) (ws : List Int) (ns : List Nat) (hN : ns.length ≤ 1048576) (hww : ∀ k ∈ ws, (Lit.int .i64 k).wf = true) (hnw : ∀ x ∈ ns, x < 18446744073709551616)
    (aw an : Option Addr) (cw cn : Nat) (w : World) (hs : Sent s w) (hW : SlI .i64 w.heap.size w aw ws) (hNs : SlI .u64 w.heap.size w an (ns.map fun (x : Nat) => (x : Int))) :
    Calls Tryd.prog 20 #[.slice aw ws.length cw, .slice an ns.length cn] w (SC (packRes ws ns) w) := by
  have HP := Lib.hid (pack_any s ws ns hN hww hnw aw an cw cn w hs hW hNs)
  have HS := Lib.hid hs
  clear hW hNs hs hww hnw
  go_enter Tryd.func20, Tryd.ntmps20
  go_wp2_with (go_at_call 26; refine HP.out.mono ?_)
  rintro e w1 ⟨ev, hev, rfl, b1⟩
  have HE := Lib.hid hev
  clear hev
  go_wp2_with (go_at_call 27; refine (told_any s HE.out w1 (HS.out.more b1)).mono ?_)
  rintro e w2 ⟨rfl, b3⟩
  go_wp2
  go_ret2
  exact ⟨rfl, below_more b1 b3⟩

end Go.Proofs.YtpmelbjbkdflgaaDoor
