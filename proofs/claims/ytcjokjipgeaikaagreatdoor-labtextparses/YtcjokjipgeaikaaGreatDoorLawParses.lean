/- LabtextParses: the walk. -/
import Derived.Test.YtcjokjipgeaikaaGreatDoorTxShown
import Derived.Test.YtcjokjipgeaikaaGreatDoorTxRefParse
namespace Go.Proofs.YtcjokjipgeaikaaGreatDoor
open Go.RowKit Go.Shelf Go.Proofs.Fld Go.Proofs.Tx Go.Proofs.Cats

attribute [local go_sem] bs_toList

set_option maxRecDepth 100000 in
set_option maxHeartbeats 2000000 in
theorem parses_walk (ga : Addr) (s : List UInt8) (hs : s.length ≤ 9223372036854775807) (w : World) (hE : Env ga w) : Calls Tryz.prog 3 #[.string (bs s)] w (TruePost w) := by
  have HE := Lib.hid hE
  have hcl : (s.take 300).length ≤ 300 := by rw [List.length_take]; omega
  have HP1 := Lib.hid (parse_any ga (s.take 300) (by omega))
  have HP2 := Lib.hid (refParse_any (s.take 300) (by omega))
  have hsame : ∀ (x : Lab) w, (binOp .eql 25 (.agg #[.int .i64 x.l, .int .u64 (x.c : Int), .int .i64 x.i]) (.agg #[.int .i64 x.l, .int .u64 (x.c : Int), .int .i64 x.i])).run Tryz.prog w = .ok (.bool true) w := fun x w => by
    have := Lb.eqL x x w
    rw [(Lab.same_iff x x).2 rfl] at this
    exact this
  clear hE
  unfold ParsePost at HP1 HP2
  generalize parseL (s.take 300) = y at *
  generalize (parseP (s.take 300) : Int) = k at *
  generalize parseE (s.take 300) = g at *
  go_enter Tryz.func3, Tryz.ntmps3
  go_wp2_with fail
  refine (shown_any ga _ HE.out).mono ?_
  rintro e w1 ⟨rfl, hb1⟩
  have HB1 := Lib.hid hb1
  clear hb1
  go_wp2_with fail
  refine (cut_any s hs _).mono ?_
  rintro e w' ⟨rfl, rfl⟩
  go_wp2_with fail
  refine (HP1.out _ (HE.out.more HB1.out)).mono ?_
  rintro e w2 ⟨rfl, hb2⟩
  have hl2 : Lb3 (w2.alloc (.cells #[.int .i64 y.l, .int .u64 (y.c : Int), .int .i64 y.i] 25)) w2.heap.size y := World.alloc_heap_new w2 _
  have HL2 := Lib.hid hl2
  have HB2 := Lib.hid (below_more (below_more HB1.out hb2) (Below.new w2 (.cells #[.int .i64 y.l, .int .u64 (y.c : Int), .int .i64 y.i] 25)))
  clear hb2 hl2
  go_wp2_with fail
  refine (cut_any s hs _).mono ?_
  rintro e w' ⟨rfl, rfl⟩
  go_wp2_with fail
  refine (HP2.out _).mono ?_
  rintro e w3 ⟨rfl, hb3⟩
  have hl3 := HL2.out.block (hb3.block _ HL2.out.lt)
  have hn := Below.new w3 (.cells #[.int .i64 y.l, .int .u64 (y.c : Int), .int .i64 y.i] 25)
  have hl4 := hl3.block (hn.block _ hl3.lt)
  have hm4 : Lb3 (w3.alloc (.cells #[.int .i64 y.l, .int .u64 (y.c : Int), .int .i64 y.i] 25)) w3.heap.size y := World.alloc_heap_new w3 _
  have HB3 := Lib.hid (below_more (below_more HB2.out hb3) hn)
  have a0 := hl4.c0
  have a1 := hl4.c1
  have a2 := hl4.c2
  have b0 := hm4.c0
  have b1 := hm4.c1
  have b2 := hm4.c2
  clear hb3 hl3 hn hl4 hm4
  go_wp2
  go_ret
  exact ⟨rfl, HB3.out⟩

end Go.Proofs.YtcjokjipgeaikaaGreatDoor
