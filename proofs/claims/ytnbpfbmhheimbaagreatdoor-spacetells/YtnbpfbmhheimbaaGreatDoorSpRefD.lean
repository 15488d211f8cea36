/- The document's Drop. -/
import Derived.Test.YtnbpfbmhheimbaaGreatDoorSpRefE
import Derived.Test.YtnbpfbmhheimbaaGreatDoorSpDoc2
namespace Go.Proofs.YtnbpfbmhheimbaaGreatDoor
open Go.RowKit Go.Proofs.Fld Go.Proofs.Rng Go.Proofs.Spc Go.Shelf Go.Sort

theorem elemO2 : Tryz.prog.elem 22 = 55 := by kernel_rfl
theorem slice_uptoO2 (ao : Option Addr) (len cap k : Nat) (hk : k ≤ cap) (W : World) : (Instr.slice 22 (.slice ao len cap) none (some (.int .i64 (k : Int))) none).run Tryz.prog W = .ok (.slice ao k cap) W := by
  rw [run_slice_h W _ ao len cap (by kernel_rfl) .i64 (k : Int) (by omega) (by omega), elemO2, sizeO]
  simp only [Result.andThen, sliced, Int.toNat_natCast, Nat.sub_zero, Nat.zero_mul]
  split
  · rfl
  · cases ao with
    | none => rfl
    | some x => simp [add_zero']
theorem slice_fromO2 (ao : Option Addr) (len cap e : Nat) (he : e ≤ len) (W : World) : (Instr.slice 22 (.slice ao len cap) (some (.int .i64 (e : Int))) none none).run Tryz.prog W = .ok (.slice (fromO ao e cap) (len - e) (cap - e)) W := by
  rw [run_slice_l W _ ao len cap (by kernel_rfl) .i64 (e : Int) (by omega) (by omega), elemO2, sizeO]
  simp only [Result.andThen, sliced, Int.toNat_natCast, fromO]
theorem slice_fromO3 (ao : Option Addr) (len cap e : Nat) (he : e + 1 ≤ len) (W : World) : (Instr.slice 22 (.slice ao len cap) (some (.int .i64 ((e : Int) + 1))) none none).run Tryz.prog W = .ok (.slice (fromO ao (e + 1) cap) (len - (e + 1)) (cap - (e + 1))) W := slice_fromO2 ao len cap (e + 1) he W
theorem app_objs {n0 : Nat} {W : World} {v : Value} {k : Nat} {vs : List Ov} (h : W.ownsRow n0 55 5 v k (ocl vs)) (hk : vs.length = k) : OwnO n0 W v vs := by unfold OwnO; rw [hk]; exact h

section
variable {w : World} {ao : Option Addr} {k0 cap : Nat} {zs : List Ov} {l : List Ob} {c : Int}
set_option maxRecDepth 100000 in
set_option maxHeartbeats 4000000 in
theorem RDrop_w {nm : It} {a : List Ob} {kr : Nat} (hr : dropR l nm = (c, a)) (hkr : a.length = kr) (hL : SO w ao k0 cap zs l) : Calls Tryz.prog 31 #[.slice ao k0 cap, .string (bs nm)] w (ResS c a kr w) := by
  obtain ⟨i0, hin, hz0, hz1, hz2⟩ := info_parts infoO
  have HSM : Hid (Small a) := Lib.hid (small_code (drop_code (r := (c, a)) hr))
  have L := Lib.hid hL
  have B := Lib.hid (Below.refl w.heap.size w)
  cases h1 : rightB l with
  | false =>
    have e1 : dropR l nm = (110, []) := by unfold dropR; rw [if_pos h1]
    rw [e1] at hr
    obtain ⟨rfl, rfl⟩ := Prod.mk.inj hr
    obtain rfl : kr = 0 := hkr.symm
    have H := Lib.hid h1
    clear hr h1 e1 hL hkr
    go_enter Tryz.func31, Tryz.ntmps31
    go_wp2_with (go_at_call 18; refine (RRight_w H.out L.out).mono ?_)
    rintro e w1 ⟨rfl, hb⟩
    replace B := Lib.hid (below_more B.out hb)
    clear hb
    go_wp2
    refine bodyPost_ret (results_tmp2 rfl _ _ _) rfl ?_
    exact ⟨[], none, 0, rfl, SO.nil _, B.out⟩
  | true =>
    cases h2 : getO l nm with
    | none =>
      have e1 : dropR l nm = (102, []) := by unfold dropR; rw [if_neg (by simp [h1]), if_pos (find_none.2 h2)]
      rw [e1] at hr
      obtain ⟨rfl, rfl⟩ := Prod.mk.inj hr
      obtain rfl : kr = 0 := hkr.symm
      have H := Lib.hid (And.intro h1 (findI_no h2))
      clear hr h1 h2 e1 hL hkr
      go_enter Tryz.func31, Tryz.ntmps31
      go_wp2_with (go_at_call 18; refine (RRight_w H.out.1 L.out).mono ?_)
      rintro e w1 ⟨rfl, hb⟩
      replace B := Lib.hid (below_more B.out hb)
      replace L := Lib.hid (L.out.more hb)
      clear hb
      go_wp2_with (go_at_call 22; refine (RFind_w H.out.2 L.out).mono ?_)
      rintro e w2 ⟨rfl, hb⟩
      replace B := Lib.hid (below_more B.out hb)
      clear hb
      go_wp2
      refine bodyPost_ret (results_tmp2 rfl _ _ _) rfl ?_
      exact ⟨[], none, 0, rfl, SO.nil _, B.out⟩
    | some o =>
      rw [drop_ok h1 h2] at hr
      obtain ⟨rfl, hr2⟩ := Prod.mk.inj hr
      obtain ⟨j, hj, hjl, hja⟩ := findI_of h2
      have hjf : findN l nm = j := by
        unfold findI at hj
        rw [if_neg (by have := find_lt h2; omega)] at hj
        omega
      have hrm := (with_rem l nm).trans hr2
      rw [hjf] at hrm
      have hdj : decide ((j : Int) < 0) = false := decide_eq_false (by omega)
      have hjk : j < k0 := by rw [← hL.len]; exact hjl
      have hkc := hL.o.hle
      have hk22 := hL.le
      have hwj : IntKind.i64.wrap ((j : Int) + 1) = (j : Int) + 1 := by rw [IntKind.wrap_i64]; omega
      have HR := Lib.hid (And.intro h1 (And.intro hj (And.intro hrm hkr)))
      have HWJ := Lib.hid hwj
      have hkr2 : j + (k0 - (j + 1)) = kr := by
        have hx := (rem_get h2).1
        rw [hL.len, hr2, hkr] at hx
        omega
      have HKR := Lib.hid hkr2
      clear hr hr2 h1 h2 hj hja hjl hjf hrm hL hkr hwj hkr2
      go_enter Tryz.func31, Tryz.ntmps31
      go_wp2_with (go_at_call 18; refine (RRight_w HR.out.1 L.out).mono ?_)
      rintro e w1 ⟨rfl, hb⟩
      replace B := Lib.hid (below_more B.out hb)
      replace L := Lib.hid (L.out.more hb)
      clear hb
      go_wp2_with (go_at_call 22; refine (RFind_w HR.out.2.1 L.out).mono ?_)
      rintro e w2 ⟨rfl, hb⟩
      replace B := Lib.hid (below_more B.out hb)
      replace L := Lib.hid (L.out.more hb)
      clear hb
      have hT := L.out.o.take j cap (by omega) (by omega) (Nat.le_refl _)
      have hF := L.out.o.from (j + 1) (by omega)
      have u1 := slice_uptoO2 ao k0 cap j (by omega)
      have u2 := slice_fromO3 ao k0 cap j (by omega)
      obtain ⟨a2, ha2⟩ : ∃ a2, fromO ao (j + 1) cap = a2 := ⟨_, rfl⟩
      obtain ⟨m, hm⟩ : ∃ m, k0 - (j + 1) = m := ⟨_, rfl⟩
      obtain ⟨c2, hc2⟩ : ∃ c2, cap - (j + 1) = c2 := ⟨_, rfl⟩
      rw [ha2, hm, hc2] at u2 hF
      rw [hm] at HKR
      have hmb : m ≤ 22 := by omega
      have hwj := HWJ.out
      have HT := Lib.hid (And.intro hT hF)
      have hlt : (ocl (zs.take j)).length = j * 5 := by rw [ocl_length, hT.hlen]
      have hlf : (ocl (zs.drop (j + 1))).length = m * 5 := by rw [ocl_length, hF.hlen]
      have HLL := Lib.hid (And.intro hlt hlf)
      have hV : Below w2.heap.size w2 w2.drew := (Below.refl _ w2).drew
      have HV := Lib.hid hV
      clear ha2 hm hc2 hT hF hlt hlf hV
      go_wp2
      go_region_law (first
        | (refine step_append_some rfl (.tmp 16) (.tmp 19) 22 rfl w2.heap.size 55 i0 (.agg #[.string { data := #[] }, .int .i64 0, .string { data := #[] }, .int .i64 0, .slice none 0 0]) 5 72 Tryz.underlying22 hin hz0 hz1 hz2 rfl (by decide) (.slice none 0 0) 0 [] (by simp [Act.eval, Act.put]) (World.ownsRow_nil _ _ _ _) ao j cap (ocl (zs.take j)) (by simp [Act.eval, Act.put]) HLL.out.1 (HT.out.1.more HV.out).nones (HT.out.1.more HV.out).news (ocl_cells _) (by unfold maxLen; omega) (by omega) HV.out.size ?_; rintro v1 w5 hA1; have hB5 := app_below HV.out (World.ownsRow_nil _ _ _ _) hA1; obtain ⟨va1, vc1, rfl⟩ := row_slice hA1.1)
        | (refine step_append_some rfl (.tmp 20) (.tmp 24) 22 rfl w2.heap.size 55 i0 (.agg #[.string { data := #[] }, .int .i64 0, .string { data := #[] }, .int .i64 0, .slice none 0 0]) 5 72 Tryz.underlying22 hin hz0 hz1 hz2 rfl (by decide) (.slice va1 (0 + j) vc1) (0 + j) ([] ++ ocl (zs.take j)) (by simp [Act.eval]) hA1.1 a2 m c2 (ocl (zs.drop (j + 1))) (by simp [Act.eval]) HLL.out.2 (HT.out.2.more hB5).nones (HT.out.2.more hB5).news (ocl_cells _) (by unfold maxLen; omega) (by omega) hB5.size ?_; rintro v2 w6 hA2; have hB6 := app_below hB5 hA1.1 hA2; obtain ⟨va2, vc2, rfl⟩ := row_slice hA2.1))
      all_goals
        have hh := hA2.1
        rw [Nat.zero_add, List.nil_append, ← ocl_append] at hh
        have hlen : (zs.take j ++ zs.drop (j + 1)).length = j + m := by rw [List.length_append, HT.out.1.hlen, HT.out.2.hlen]
        have hO := (app_objs hh hlen).objs hlen (fun x hx => by
          rcases List.mem_append.1 hx with h | h
          · exact (HT.out.1.hrows x h).more hB6
          · exact (HT.out.2.hrows x h).more hB6)
        have HO := Lib.hid (And.intro hO (below_more B.out hB6))
        have HE := Lib.hid (show obs (zs.take j ++ zs.drop (j + 1)) = a by
          have := withL_obs zs [] j (j + 1)
          rw [List.append_nil] at this
          rw [this, L.out.e]
          exact HR.out.2.2.1)
        clear hh hO hA1 hA2 hB5 hB6
        go_wp2
        refine bodyPost_ret (results_tmp2 rfl _ _ _) rfl ?_
        obtain rfl : j + m = kr := HKR.out
        exact ⟨_, va2, vc2, rfl, ⟨HE.out, HO.out.1, HSM.out⟩, HO.out.2⟩
end

end Go.Proofs.YtnbpfbmhheimbaaGreatDoor
