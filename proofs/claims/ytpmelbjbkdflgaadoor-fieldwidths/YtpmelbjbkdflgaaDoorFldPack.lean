/- pack. -/
import Derived.Test.YtpmelbjbkdflgaaDoorFldPure
import Derived.Test.YtpmelbjbkdflgaaDoorFldShelf
namespace Go.Proofs.YtpmelbjbkdflgaaDoor
open Go.RowKit Go.Shelf Go.Proofs.Fld

attribute [local go_sem] Oper.semAt_some

def PackPost (s : Sn) (r : List UInt8 × Int) (w : World) (e : Ending) (w' : World) : Prop :=
  ∃ ev, ErrIs s ev r.2 ∧ e = .returned (.tuple #[.string (bs r.1), ev]) ∧ Below w.heap.size w w'

/-- Between two numbers: those ahead are in the builder. -/
structure PackInv (w : World) (ws : List Int) (ns : List Nat) (k : Nat) (Ds : List Nat) (acc : List UInt8) (wr : World) : Prop where
  isB : Lib.IsBuilderF 68 5 w.heap.size w.heap.size (Lib.byteCells acc) wr
  below : Below w.heap.size w wr
  marks : Marks Ds wr
  above : ∀ D ∈ Ds, w.heap.size ≤ D
  code : packC ws ns = packC (ws.drop k) (ns.drop k)
  bytes : packB ws ns = acc ++ packB (ws.drop k) (ns.drop k)
  few : acc.length ≤ 8 * k

set_option maxRecDepth 100000 in
set_option maxHeartbeats 2000000 in
theorem pack_in (n : Nat) (hn : 3 ≤ n) (s : Sn) (N : Nat) (ws : List Int) (ns : List Nat) (hwl : ws.length = N) (hnl : ns.length = N) (hN : N ≤ 1048576) (hww : ∀ k ∈ ws, (Lit.int .i64 k).wf = true) (hnw : ∀ x ∈ ns, x < 18446744073709551616)
    (aw an : Option Addr) (cw cn : Nat) (w : World) (hs : Sent s w) (hW : SlI .i64 w.heap.size w aw ws) (hNs : SlI .u64 w.heap.size w an (ns.map fun (x : Nat) => (x : Int))) :
    CallsIn Fence.wide n Tryd.prog 26 #[.slice aw N cw, .slice an N cn] w (PackPost s (packRes ws ns) w) := by
  have h1 : 1 ≤ n := by omega
  have HH := Lib.hid (And.intro hs (And.intro hW hNs))
  have HL := Lib.hid (And.intro (And.intro hwl hnl) (And.intro hww hnw))
  clear hs hW hNs hwl hnl hww hnw
  refine callsIn_of_wp_marks Tryd.func26 rfl trivial ?_ rfl
  simp only [Tryd.ntmps26, List.size_toArray, List.length_cons, List.length_nil, Nat.reduceAdd, Nat.reduceSub, Array.replicate_succ, Array.replicate_zero, List.push_toArray, List.append_toArray, List.nil_append, List.cons_append]
  gi_wp2
  refine wpIn_loop (fun a wr => ∃ (k : Nat) (Ds : List Nat) (acc : List UInt8) (u7 u8 u9 u10 u24 u25 u26 u27 u28 u29 u30 u31 u32 u33 u34 u35 u36 u37 u38 u39 u40 u41 u42 u43 u44 u45 u46 : Value), a = { tmps := #[.slice aw N cw, .slice an N cn, undef, undef, .string { data := #[] }, .nilIface, .pointer (some ⟨w.heap.size, 0, none⟩), u7, u8, u9, u10, .slice aw N cw, .int .i64 (N : Int), .slice an N cn, .int .i64 (N : Int), .bool false, undef, undef, undef, undef, undef, .slice an N cn, .int .i64 (N : Int), .int .i64 (k : Int), u24, u25, u26, u27, u28, u29, u30, u31, u32, u33, u34, u35, u36, u37, u38, u39, u40, u41, u42, u43, u44, u45, u46, undef], defers := Ds.map mk } ∧ k ≤ N ∧ PackInv w ws ns k Ds acc wr)
    (fun a _ => N - (intOf (a.tmps.getD 23 undef)).toNat) ?h0 ?round
  case h0 => exact ⟨0, [], [], _, _, _, _, _, _, _, _, _, _, _, _, _, _, _, _, _, _, _, _, _, _, _, _, _, _, _, rfl, by omega, (Lib.IsBuilderF.of (Lib.fresh_isBuilder 68 5 w)), Below.new _ _, Marks.nil _, fun _ h => (by cases h), rfl, rfl, by simp⟩
  case round =>
    rintro a wr ⟨k, Ds, acc, u7, u8, u9, u10, u24, u25, u26, u27, u28, u29, u30, u31, u32, u33, u34, u35, u36, u37, u38, u39, u40, u41, u42, u43, u44, u45, u46, rfl, hk, hI⟩
    have HI := Lib.hid hI
    clear hI
    have hb0 := HI.out.below
    have hsz := hb0.size
    have hlb : w.heap.size < wr.heap.size := by
      obtain ⟨cb, fz, hbb⟩ := isB_block HI.out.isB
      exact (Array.getElem?_eq_some_iff.1 hbb).1
    by_cases hlt : k < N
    · obtain ⟨kk, hkk⟩ : ∃ kk, ws[k]'(by rw [HL.out.1.1]; exact hlt) = kk := ⟨_, rfl⟩
      obtain ⟨x, hxx⟩ : ∃ x, ns[k]'(by rw [HL.out.1.2]; exact hlt) = x := ⟨_, rfl⟩
      obtain ⟨gw, ow, rfl, hgw, qw⟩ := (HH.out.2.1.below hb0 (Nat.le_refl _)) k (by rw [HL.out.1.1]; exact hlt)
      obtain ⟨gn, on, rfl, hgn, qn⟩ := (HH.out.2.2.below hb0 (Nat.le_refl _)) k (by rw [List.length_map, HL.out.1.2]; exact hlt)
      rw [hkk] at qw
      rw [List.getElem_map, hxx] at qn
      have hkw : Hid ((Lit.int .i64 kk).wf = true) := Lib.hid (HL.out.2.1 _ (hkk ▸ List.getElem_mem _))
      have hxw : Hid (x < 18446744073709551616) := Lib.hid (HL.out.2.2 _ (hxx ▸ List.getElem_mem _))
      have hdw : Hid (ws.drop k = kk :: ws.drop (k + 1)) := Lib.hid (by rw [List.drop_eq_getElem_cons (by rw [HL.out.1.1]; exact hlt), hkk])
      have hdn : Hid (ns.drop k = x :: ns.drop (k + 1)) := Lib.hid (by rw [List.drop_eq_getElem_cons (by rw [HL.out.1.2]; exact hlt), hxx])
      clear hkk hxx
      have hsr : Hid (Sent s wr) := Lib.hid (HH.out.1.more hb0)
      by_cases hz : putC kk x = 0
      · obtain ⟨hw, hx2⟩ := putC_zero hz
        obtain ⟨m, rfl, hm1, hm8⟩ := isW_le hw
        have HZ := Lib.hid hz
        clear hz hw hx2
        gi_wp2_with (refine ⟨trivial, ?_⟩; gi_at_call 33; refine (callsIn_wide.2 (judge_any s _ hkw.out x wr hsr.out)).mono ?_)
        rintro e w1 ⟨he, b1⟩
        rw [judge_zero HZ.out] at he
        subst he
        have qw1 := (b1.cell (p := ⟨gw, ow + k, none⟩) (by simp; omega)).trans qw
        clear qw qn
        gi_wp2_with (refine ⟨trivial, ?_⟩; gi_at_call 34; refine (callsIn_wide.2 (falling_any _ _ _)).mono ?_)
        rintro e w2 ⟨rfl, rfl⟩
        have bK := Boxed.new w1 3 (.int .i64 (m : Int))
        have bN := Boxed.new (w1.alloc (.cells #[.int .i64 (m : Int)] 3)) 22 (.int .u64 (x : Int))
        rw [World.size_alloc] at bN
        have bK2 := bK.alloc (.cells #[.int .u64 (x : Int)] 22)
        have hB2 : Below w1.heap.size w1 ((w1.alloc (.cells #[.int .i64 (m : Int)] 3)).alloc (.cells #[.int .u64 (x : Int)] 22)) := (Below.new w1 _).alloc (by simp) _
        have hB3 : Below wr.heap.size wr ((w1.alloc (.cells #[.int .i64 (m : Int)] 3)).alloc (.cells #[.int .u64 (x : Int)] 22)) := below_more b1 hB2
        have hs1 := b1.size
        have hml := HI.out.marks.lt
        gi_wp2
        refine wpIn_rangeFunc_ownG rfl h1 (gf := 42) (lb := #[.pointer (some ⟨w1.heap.size, 0, none⟩), .pointer (some ⟨w1.heap.size + 1, 0, none⟩)]) rfl trivial (enters_of Tryd.func42 (by kernel_rfl) rfl)
          (falling_stops (n - 1) (by omega) w1.heap.size (w1.heap.size + 1) m x hm8 hxw.out _ (by simp; omega) (by simp) bK2.cell bN.cell) KpF.trans (KpF.putObj (by simp; omega) (by simp)) (Below.refl _ _) (fun _ => rfl)
          (fun (pre : List UInt8) W => ((Lib.IsBuilderF 68 5 w.heap.size w.heap.size (Lib.byteCells (acc ++ pre)) W ∧ (Boxed W w1.heap.size 3 (.int .i64 (m : Int)) ∧ Boxed W (w1.heap.size + 1) 22 (.int .u64 (x : Int)))) ∧ Marks Ds W) ∧ Below w.heap.size w W)
          (fun _ _ _ => False)
          (OwnFrom.and (OwnFrom.and (OwnFrom.and (Own.from (isB_own (fun pre => Lib.byteCells (acc ++ pre))) _) (OwnFrom.and (Own.from (boxed_own _ _ _) _) (Own.from (boxed_own _ _ _) _))) (marks_own (fun D hD => by have := hml D hD; simp; omega))) (ownFrom_below (Nat.le_refl _) (by simp; omega)))
          (fun _ _ _ _ _ hs _ _ => hs)
          ⟨⟨⟨by rw [List.append_nil]; exact isB_below HI.out.isB hB3, bK2, bN⟩, HI.out.marks.below hB3⟩, below_more hb0 hB3⟩
          (fun b => { tmps := #[.slice (some ⟨gw, ow, none⟩) N cw, .slice (some ⟨gn, on, none⟩) N cn, undef, undef, .string { data := #[] }, .nilIface, .pointer (some ⟨w.heap.size, 0, none⟩), .int .i64 (k : Int), .int .u64 (x : Int), .nilIface, .int .u8 (b.toNat : Int), .slice (some ⟨gw, ow, none⟩) N cw, .int .i64 (N : Int), .slice (some ⟨gn, on, none⟩) N cn, .int .i64 (N : Int), .bool false, undef, undef, undef, undef, undef, .slice (some ⟨gn, on, none⟩) N cn, .int .i64 (N : Int), .int .i64 (k : Int), .bool true, .int .i64 (k : Int), .pointer (some ⟨gn, on + k, none⟩), .int .u64 (x : Int), .slice (some ⟨gw, ow, none⟩) N cw, .int .i64 (k : Int), .pointer (some ⟨gw, ow + k, none⟩), .int .i64 (m : Int), .int .u64 (x : Int), .nilIface, .nilIface, .bool false, u36, .slice (some ⟨gw, ow, none⟩) N cw, .int .i64 (k : Int), .pointer (some ⟨gw, ow + k, none⟩), .int .i64 (m : Int), .int .u64 (x : Int), .func (.func 42) #[] #[.pointer (some ⟨w1.heap.size, 0, none⟩), .pointer (some ⟨w1.heap.size + 1, 0, none⟩)], .int .u8 (b.toNat : Int), u44, u45, u46, undef], defers := [] }) ?assign ?body ?done ?stop
        case assign =>
          intro l b W K hK
          gi_wp2
          exact hK
        case body =>
          rintro l pre b W ⟨⟨⟨hIB, bk, bn⟩, hmk⟩, hB⟩ hp8
          have hac := HI.out.few
          have hsW := hB.size
          have hn2 : 1 ≤ n - 1 - 1 := by omega
          have hlen : (Lib.byteCells (acc ++ pre)).length + 1 ≤ 140737488355328 := by rw [Lib.byteCells_length, List.length_append]; omega
          obtain ⟨cb, fz, hbb⟩ := isB_block hIB
          have HBB := Lib.hid hbb
          clear hbb bK bN bK2 hB2 hB3
          gi_wp2_with (refine ⟨trivial, ?_⟩; gi_at_call 35; refine (CallsIn.inRound l (callsIn_wide.2 (writeByte_k w.heap.size w.heap.size _ _ _ hIB hlen hsW))).mono ?_)
          rintro e W3 ⟨rfl, i3, b3, k3⟩
          gi_wp2
          have bk3 := boxed_others bk k3 (by omega) (by decide)
          have bn3 := boxed_others bn k3 (by omega) (by decide)
          exact ⟨keeps_others k3 b3.size HBB.out _, ⟨bk3.cell.trans bk.cell.symm, bn3.cell.trans bn.cell.symm⟩, ⟨⟨⟨by rw [← List.append_assoc, Lib.byteCells_append (acc ++ pre)]; exact i3, bk3, bn3⟩, hmk.others k3 HBB.out⟩, hB.trans b3⟩⟩
        case done =>
          rintro D ys W hD rfl ⟨⟨⟨hIB, _, _⟩, hmk⟩, hB⟩ hK
          gi_wp2
          refine ⟨⟨k + 1, D :: Ds, acc ++ enc m x, _, _, _, _, _, _, _, _, _, _, _, _, _, _, _, _, _, _, _, _, _, _, _, _, _, _, _, rfl, by omega, ⟨hIB, hB, ⟨List.nodup_cons.2 ⟨fun h => ?_, hmk.1⟩, ?_⟩, ?_, ?_, ?_, ?_⟩⟩, ?_⟩
          · have := hml D h
            simp at hD
            omega
          · intro E hE
            rcases List.mem_cons.1 hE with rfl | hE
            · exact hK
            · exact hmk.2 E hE
          · intro E hE
            rcases List.mem_cons.1 hE with rfl | hE
            · simp at hD
              omega
            · exact HI.out.above E hE
          · rw [HI.out.code, hdw.out, hdn.out, packC_cons HZ.out]
          · rw [HI.out.bytes, hdw.out, hdn.out]
            simp [packB]
          · have := HI.out.few
            rw [List.length_append, enc_length]
            omega
          · simp [intOf]
            omega
        case stop =>
          rintro D c pre W _ _ h _
          exact h.elim
      · have HZ := Lib.hid hz
        clear hz
        gi_wp2_with (refine ⟨trivial, ?_⟩; gi_at_call 33; refine (callsIn_wide.2 (judge_any s _ hkw.out x wr hsr.out)).mono ?_)
        rintro e w1 ⟨he, b1⟩
        obtain ⟨fv, hfv⟩ := judge_some (s := s) HZ.out
        have HF := Lib.hid hfv
        rw [hfv] at he
        subst he
        clear hfv
        gi_wp2
        refine leaves_marks (B := w.heap.size) Ds w1 (HI.out.marks.below b1) HI.out.above (fun w' hb' _ => ⟨_, results_tmp2 rfl _ _ _, .iface 62 fv, ?_, ?_, (below_more hb0 b1).trans hb'⟩)
        · rw [← HF.out]
          have hc := HI.out.code
          rw [hdw.out, hdn.out, packC_stop HZ.out] at hc
          have he : (packRes ws ns).2 = putC kk x := by unfold packRes; rw [if_pos (HL.out.1.1.trans HL.out.1.2.symm), hc, if_neg HZ.out]
          rw [he]
          exact judge_is s kk x
        · have hc := HI.out.code
          rw [hdw.out, hdn.out, packC_stop HZ.out] at hc
          have he : (packRes ws ns).1 = [] := by unfold packRes; rw [if_pos (HL.out.1.1.trans HL.out.1.2.symm), hc, if_neg HZ.out]
          rw [he]
          rfl
    · obtain rfl : k = N := by omega
      have hle := isB_le HI.out.isB
      have hc := HI.out.code
      have hby := HI.out.bytes
      rw [List.drop_of_length_le (by rw [HL.out.1.1]; exact Nat.le_refl _)] at hc hby
      have HC := Lib.hid (show packC ws ns = 0 from hc)
      have HB := Lib.hid (show packB ws ns = acc by simpa [packB] using hby)
      clear hc hby hle
      gi_wp2_with (refine ⟨trivial, ?_⟩; gi_at_call 36; refine (callsIn_wide.2 (builderString_k w.heap.size w.heap.size acc wr HI.out.isB hsz)).mono ?_)
      rintro e w1 ⟨rfl, _, b1, k1⟩
      obtain ⟨cb, fz, hbb⟩ := isB_block HI.out.isB
      have hm1 := HI.out.marks.others k1 hbb
      clear hbb
      gi_wp2
      refine leaves_marks (B := w.heap.size) Ds w1 hm1 HI.out.above (fun w' hb' _ => ⟨_, results_tmp2 rfl _ _ _, .nilIface, ?_, ?_, (hb0.trans b1).trans hb'⟩)
      · have he : (packRes ws ns).2 = 0 := by unfold packRes; rw [if_pos (HL.out.1.1.trans HL.out.1.2.symm), if_pos HC.out]
        rw [he]
        exact .ok
      · have he : (packRes ws ns).1 = acc := by unfold packRes; rw [if_pos (HL.out.1.1.trans HL.out.1.2.symm), if_pos HC.out]; exact HB.out
        rw [he]
        rfl

end Go.Proofs.YtpmelbjbkdflgaaDoor
