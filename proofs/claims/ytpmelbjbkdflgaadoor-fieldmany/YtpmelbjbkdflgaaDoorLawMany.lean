/- FieldPacks and FieldMany, walked. -/
import Derived.Test.YtpmelbjbkdflgaaDoorFldRef3
import Derived.Test.YtpmelbjbkdflgaaDoorFldLaid
namespace Go.Proofs.YtpmelbjbkdflgaaDoor
open Go.ChangeShapes Go.WideShapes Go.ChangeAt Go.RowKit Go.Shelf Go.Proofs.Fld

/-- A slice of numbers that came in. -/
def SlIn (q : IntKind) (W : World) (a : Option Addr) (len cap : Nat) (zs : List Int) : Prop :=
  SlI q W.heap.size W a zs ∧ zs.length = len ∧ len ≤ cap ∧ cap ≤ maxLen ∧ ∀ z ∈ zs, (Lit.int q z).wf = true

theorem slIn_nil (q : IntKind) (W : World) : SlIn q W none 0 0 [] := ⟨slI_nil _ _ _ _, rfl, Nat.le_refl _, Nat.zero_le _, fun _ h => by cases h⟩
theorem slIn_row {q : IntKind} {W : World} {x : Addr} {len cap : Nat} {zs : List Int} (hl : len ≤ cap) (hm : cap ≤ maxLen) (hz : zs.length = cap) (hc : ∀ i, i < zs.length → W.cell? (x.add i) = some (.int q (zs.getD i 0))) (hw : ∀ n ∈ zs, (Lit.int q n).wf = true) :
    SlIn q W (some x) len cap (zs.take len) := by
  have hlen : (zs.take len).length = len := by rw [List.length_take]; omega
  refine ⟨fun j hj => ?_, hlen, hl, hm, fun z h => hw z (List.mem_of_mem_take h)⟩
  rw [hlen] at hj
  obtain ⟨b, off, sp⟩ := x
  have h0 := hc j (by omega)
  have hp0 : 0 < zs.length := by omega
  have hh := hc 0 hp0
  have hsp : sp = none := World.cell?_spot hh
  subst hsp
  have e : (⟨b, off, none⟩ : Addr).add j = ⟨b, off + j, none⟩ := by
    unfold Addr.add
    by_cases hj0 : j = 0
    · subst hj0; simp
    · simp [hj0]
  rw [e] at h0
  refine ⟨b, off, rfl, World.block_lt_of_cell? W _ h0, ?_⟩
  rw [h0, List.getElem_take]
  simp [List.getD_eq_getElem?_getD, List.getElem?_eq_getElem (show j < zs.length by omega)]

section
variable {H : Type} {enc : TypeId × Value → H} {W : World} {base : Nat}
theorem slIn_i64 {a : Option Addr} {len cap : Nat} {d : DataW H} {p : List MemPlace} (h : DataW.Trod enc Tryd.prog W base (fun _ => true) true 34 (.slice a len cap) d p) : ∃ zs, SlIn .i64 W a len cap zs := by
  obtain ⟨fuel, hf⟩ := h
  rcases open_ints Tryd.underlying34 Tryd.underlying3 (by kernel_rfl) hf with ⟨hcs, _⟩ | ⟨x, l, c, zs, hcs, _, hl, hm, hz, _, hcell, hwz⟩
  · simp [Value.cells] at hcs
    obtain ⟨rfl, rfl, rfl⟩ := hcs
    exact ⟨[], slIn_nil _ W⟩
  · simp [Value.cells] at hcs
    obtain ⟨rfl, rfl, rfl⟩ := hcs
    exact ⟨_, slIn_row hl hm (by simpa using hz) hcell hwz⟩
theorem slIn_u64 {a : Option Addr} {len cap : Nat} {d : DataW H} {p : List MemPlace} (h : DataW.Trod enc Tryd.prog W base (fun _ => true) true 35 (.slice a len cap) d p) : ∃ ns : List Nat, SlIn .u64 W a len cap (ns.map fun (x : Nat) => (x : Int)) ∧ ∀ x ∈ ns, x < 18446744073709551616 := by
  obtain ⟨fuel, hf⟩ := h
  have key : ∀ zs : List Int, (∀ z ∈ zs, (Lit.int .u64 z).wf = true) → ∃ ns : List Nat, zs = ns.map (fun (x : Nat) => (x : Int)) ∧ ∀ x ∈ ns, x < 18446744073709551616 := by
    intro zs
    induction zs with
    | nil => exact fun _ => ⟨[], rfl, fun _ h => by cases h⟩
    | cons z r ih =>
      intro h
      obtain ⟨ns, e, hb⟩ := ih (fun y hy => h y (List.mem_cons_of_mem _ hy))
      obtain ⟨n, hn, hl⟩ := nat_of_u64 (h z (List.mem_cons_self ..))
      refine ⟨n :: ns, by rw [e, hn]; rfl, fun x hx => ?_⟩
      rcases List.mem_cons.1 hx with rfl | hx
      · exact hl
      · exact hb x hx
  rcases open_ints Tryd.underlying35 Tryd.underlying22 (by kernel_rfl) hf with ⟨hcs, _⟩ | ⟨x, l, c, zs, hcs, _, hl, hm, hz, _, hcell, hwz⟩
  · simp [Value.cells] at hcs
    obtain ⟨rfl, rfl, rfl⟩ := hcs
    exact ⟨[], slIn_nil _ W, fun _ h => by cases h⟩
  · simp [Value.cells] at hcs
    obtain ⟨rfl, rfl, rfl⟩ := hcs
    have hs := slIn_row (q := .u64) hl hm (by simpa using hz) hcell hwz
    obtain ⟨ns, e, hb⟩ := key _ hs.2.2.2.2
    exact ⟨ns, by rw [← e]; exact hs, hb⟩
end

theorem slI_take {q : IntKind} {B : Nat} {w : World} {a : Option Addr} {zs : List Int} (h : SlI q B w a zs) (k : Nat) : SlI q B w a (zs.take k) := fun j hj => by
  rw [List.length_take] at hj
  obtain ⟨g, off, e, hg, hc⟩ := h j (by omega)
  exact ⟨g, off, e, hg, by rw [hc, List.getElem_take]⟩

set_option maxHeartbeats 1000000 in
theorem few_at (Lw K cw : Nat) (hm : min (Lw : Int) 20 = (K : Int)) (hK : K ≤ Lw) (hc : Lw ≤ cw) (_hcm : cw ≤ 9223372036854775807) (aw : Option Addr) (w : World) :
    Calls Tryd.prog 21 #[.slice aw Lw cw] w fun e w' => e = .returned (.slice aw K cw) ∧ w = w' := by
  go_enter Tryd.func21, Tryd.ntmps21
  go_wp2
  go_ret
  exact ⟨rfl, rfl⟩

theorem pack_parts : ∀ (ws : List Int) (ns : List Nat), ws.length = ns.length → packC ws ns = 0 → ∀ l, numsC ws (packB ws ns ++ l) = 0 ∧ numsL ws (packB ws ns ++ l) = ns ∧ numsR ws (packB ws ns ++ l) = l ∧ (packB ws ns).length ≤ 8 * ws.length
  | [], [], _, _, l => ⟨rfl, rfl, rfl, by simp [packB]⟩
  | [], _ :: _, h, _, _ => by simp at h
  | _ :: _, [], h, _, _ => by simp at h
  | k :: ks, n :: ns, h, hc, l => by
    by_cases hz : putC k n = 0
    · rw [packC_cons hz] at hc
      obtain ⟨hw, hn⟩ := putC_zero hz
      obtain ⟨m, rfl, hm1, hm8⟩ := isW_le hw
      have hn' : n < 256 ^ m := by simpa using hn
      obtain ⟨i1, i2, i3, i4⟩ := pack_parts ks ns (by simpa using h) hc l
      have e0 : packB ((m : Int) :: ks) (n :: ns) ++ l = enc m n ++ (packB ks ns ++ l) := by simp [packB]
      have ht : (enc m n ++ (packB ks ns ++ l)).take m = enc m n := by
        have := List.take_left (l₁ := enc m n) (l₂ := packB ks ns ++ l)
        rwa [enc_length] at this
      have hd : (enc m n ++ (packB ks ns ++ l)).drop m = packB ks ns ++ l := by
        have := List.drop_left (l₁ := enc m n) (l₂ := packB ks ns ++ l)
        rwa [enc_length] at this
      have hg : getC (m : Int) (enc m n ++ (packB ks ns ++ l)) = 0 := getC_ok hw (by rw [List.length_append, enc_length]; omega)
      rw [e0]
      refine ⟨?_, ?_, ?_, ?_⟩
      · rw [numsC, if_pos hg, Int.toNat_natCast, hd]; exact i1
      · rw [numsL, Int.toNat_natCast, hd, ht, i2, dec_enc_lt hn']
      · rw [numsR, Int.toNat_natCast, hd]; exact i3
      · simp only [packB, Int.toNat_natCast, List.length_append, enc_length, List.length_cons]; omega
    · rw [packC_stop hz] at hc; exact absurd hc hz
theorem packRes_cases (ws : List Int) (ns : List Nat) : (∃ p, packRes ws ns = (p, 0) ∧ ws.length = ns.length ∧ p.length ≤ 8 * ws.length ∧ ∀ l, unpackRes ws (p ++ l) = (ns, l, 0)) ∨ (∃ c : Int, (c == 0) = false ∧ (c != 0) = true ∧ packRes ws ns = ([], c)) := by
  unfold packRes
  by_cases h : ws.length = ns.length
  · by_cases hc : packC ws ns = 0
    · refine .inl ⟨packB ws ns, by rw [if_pos h, if_pos hc], h, (pack_parts ws ns h hc []).2.2.2, fun l => ?_⟩
      obtain ⟨i1, i2, i3, _⟩ := pack_parts ws ns h hc l
      unfold unpackRes
      rw [if_pos i1, i2, i3]
    · exact .inr ⟨packC ws ns, by simpa using hc, by simpa using hc, by rw [if_pos h, if_neg hc]⟩
  · exact .inr ⟨2, rfl, rfl, by rw [if_neg h]⟩

attribute [local go_sem] bs_toList

set_option maxRecDepth 100000 in
set_option maxHeartbeats 4000000 in
theorem packs_at (s : Sn) (Lw Kw cw Ln Kn cn : Nat) (ws : List Int) (ns : List Nat) (hmw : min (Lw : Int) 20 = (Kw : Int)) (hmn : min (Ln : Int) 20 = (Kn : Int)) (hKw : ws.length = Kw) (hKn : ns.length = Kn) (hcw : Lw ≤ cw) (hcn : Ln ≤ cn) (hcw2 : cw ≤ 9223372036854775807) (hcn2 : cn ≤ 9223372036854775807)
    (hww : ∀ k ∈ ws, (Lit.int .i64 k).wf = true) (hnw : ∀ x ∈ ns, x < 18446744073709551616) (aw an : Option Addr) (a : List UInt8) (ha : a.length ≤ 9223372036854775807) (w : World) (hs : Sent s w) (hW : SlI .i64 w.heap.size w aw ws) (hN : SlI .u64 w.heap.size w an (ns.map fun (x : Nat) => (x : Int))) :
    Calls Tryd.prog 4 #[.slice aw Lw cw, .slice an Ln cn, .string (bs a)] w fun e w' => e = .returned (.bool true) ∧ Below w.heap.size w w' := by
  have HS := Lib.hid hs
  have _hu := hcn2
  clear _hu
  have hKLw : Kw ≤ Lw := by omega
  have hKLn : Kn ≤ Ln := by omega
  have hK20 : Kn ≤ 20 := by omega
  have hKw20 : Kw ≤ 20 := by omega
  obtain ⟨l, hl⟩ : ∃ l, a.take 300 = l := ⟨_, rfl⟩
  have hll : l.length ≤ 300 := by rw [← hl]; simp; omega
  have HA := Lib.hid (fun w => cut300 a ha w)
  have HF := Lib.hid (fun w => few_at Lw Kw cw hmw hKLw hcw hcw2 aw w)
  have HL := Lib.hid hl
  have HW := Lib.hid (fun (w1 : World) (b : Below w.heap.size w w1) => (hW.below b (Nat.le_refl _)).more b.size)
  have HN := Lib.hid (fun (w1 : World) (b : Below w.heap.size w w1) => (hN.below b (Nat.le_refl _)).more b.size)
  obtain ⟨p, c, e1⟩ : ∃ p c, packRes ws ns = (p, c) := ⟨_, _, rfl⟩
  obtain ⟨xs, r, d, e2⟩ : ∃ xs r d, unpackRes ws l = (xs, r, d) := ⟨_, _, _, rfl⟩
  have hxl : xs.length ≤ 20 := by
    have key : ∀ (ks : List Int) (q : List UInt8), (numsL ks q).length = ks.length := by
      intro ks
      induction ks with
      | nil => intro q; rfl
      | cons k r ih => intro q; simp [numsL, ih]
    have hx : xs = (unpackRes ws l).1 := by rw [e2]
    rw [hx]
    unfold unpackRes
    by_cases h : numsC ws l = 0
    · rw [if_pos h]; simp only [key]; omega
    · rw [if_neg h]; simp
  have HP := Lib.hid (fun (w1 : World) (h : Sent s w1) (hW : SlI .i64 w1.heap.size w1 aw ws) (hN : SlI .u64 w1.heap.size w1 an (ns.map fun (x : Nat) => (x : Int))) => by
    have := packE_any s ws ns (by omega) hww hnw aw an cw cn w1 h hW hN
    rw [hKw, hKn] at this
    exact this)
  have HP2 := Lib.hid (fun (w1 : World) (hW : SlI .i64 w1.heap.size w1 aw ws) (hN : SlI .u64 w1.heap.size w1 an (ns.map fun (x : Nat) => (x : Int))) => by
    have := refPack_any ws ns (by omega) hnw aw an cw cn w1 hW hN
    rw [hKw, hKn] at this
    exact this)
  have HU := Lib.hid (fun (w1 : World) (h : Sent s w1) (hW : SlI .i64 w1.heap.size w1 aw ws) => by
    have := unpack_any s ws (by omega) hww l aw cw w1 h hW
    rw [hKw] at this
    exact this)
  have HU2 := Lib.hid (fun (w1 : World) (hW : SlI .i64 w1.heap.size w1 aw ws) => by
    have := refUnpack_any ws (by omega) l aw cw w1 hW
    rw [hKw] at this
    exact this)
  have HE := Lib.hid (And.intro e1 e2)
  obtain ⟨X, hX⟩ : ∃ X, xs.length = X := ⟨_, rfl⟩
  have HX := Lib.hid (fun (aa ab : Option Addr) (ca cb : Nat) (w1 : World) (h1 : SlI .u64 w1.heap.size w1 aa (xs.map fun (x : Nat) => (x : Int))) (h2 : SlI .u64 w1.heap.size w1 ab (xs.map fun (x : Nat) => (x : Int))) => by
    have := refNums_any (xs.map fun (x : Nat) => (x : Int)) (by rw [List.length_map]; omega) aa ab ca cb w1 h1 h2
    rw [List.length_map, hX] at this
    exact this)
  have HXX := Lib.hid hX
  clear hs ha hl e1 e2 hW hN hww hnw hX hxl hKw hKn
  go_enter Tryd.func4, Tryd.ntmps4
  go_wp2_with (go_at_call 10; refine (shown_any s w HS.out).mono ?_)
  rintro e w1 ⟨he, b1⟩
  have he2 : e = .returned (.bool true) := by rw [he]
  subst he2
  clear he
  go_wp2_with (go_at_call 21; refine (HF.out w1).mono ?_)
  rintro e w2 ⟨he, hw2⟩
  have he2 : e = .returned (.slice aw Kw cw) := by rw [he]
  subst he2
  clear he
  obtain rfl := hw2
  go_wp2_with (go_at_call 20; refine (HP.out w1 (HS.out.more b1) (HW.out w1 b1) (HN.out w1 b1)).mono ?_)
  rintro e w2 ⟨he, b2⟩
  have he2 : e = .returned (.tuple #[.string (bs p), .int .i64 c]) := by rw [he, HE.out.1]
  subst he2
  clear he
  have d2 := below_more b1 b2
  go_wp2_with (go_at_call 21; refine (HF.out w2).mono ?_)
  rintro e w3 ⟨he, hw3⟩
  have he2 : e = .returned (.slice aw Kw cw) := by rw [he]
  subst he2
  clear he
  obtain rfl := hw3
  go_wp2_with (go_at_call 22; refine (HP2.out w2 (HW.out w2 d2) (HN.out w2 d2)).mono ?_)
  rintro e w3 ⟨he, b3⟩
  have he2 : e = .returned (.tuple #[.string (bs p), .int .i64 c]) := by rw [he, HE.out.1]
  subst he2
  clear he
  have d3 := below_more d2 b3
  go_wp2_with (go_at_call 21; refine (HF.out w3).mono ?_)
  rintro e w4 ⟨he, hw4⟩
  have he2 : e = .returned (.slice aw Kw cw) := by rw [he]
  subst he2
  clear he
  obtain rfl := hw4
  go_wp2_with (go_at_call 14; refine (HA.out w3).mono ?_)
  rintro e w4 ⟨he, hw4⟩
  have he2 : e = .returned (.string (bs l)) := by rw [he, HL.out]
  subst he2
  clear he
  obtain rfl := hw4
  go_wp2_with (go_at_call 23; refine (HU.out w3 (HS.out.more d3) (HW.out w3 d3)).mono ?_)
  rintro e w4 ⟨a1, c1, he, hq1, b4⟩
  have he2 : e = .returned (.tuple #[.slice a1 X c1, .string (bs r), .int .i64 d]) := by rw [he, HE.out.2, ← HXX.out]
  rw [HE.out.2] at hq1
  have HQ1 := Lib.hid hq1
  subst he2
  clear he hq1
  have d4 := below_more d3 b4
  go_wp2_with (go_at_call 21; refine (HF.out w4).mono ?_)
  rintro e w5 ⟨he, hw5⟩
  have he2 : e = .returned (.slice aw Kw cw) := by rw [he]
  subst he2
  clear he
  obtain rfl := hw5
  go_wp2_with (go_at_call 14; refine (HA.out w4).mono ?_)
  rintro e w5 ⟨he, hw5⟩
  have he2 : e = .returned (.string (bs l)) := by rw [he, HL.out]
  subst he2
  clear he
  obtain rfl := hw5
  go_wp2_with (go_at_call 24; refine (HU2.out w4 (HW.out w4 d4)).mono ?_)
  rintro e w5 ⟨a2, c2, he, hq2, b5⟩
  have he2 : e = .returned (.tuple #[.slice a2 X c2, .string (bs r), .int .i64 d]) := by rw [he, HE.out.2, ← HXX.out]
  rw [HE.out.2] at hq2
  have HQ2 := Lib.hid hq2
  subst he2
  clear he hq2
  have d5 := below_more d4 b5
  go_wp2_with (go_at_call 25; refine (HX.out _ _ _ _ w5 ((HQ1.out.below b5 (Nat.le_refl _)).more b5.size) HQ2.out).mono ?_)
  rintro e w6 ⟨he, b6⟩
  have he2 : e = .returned (.bool true) := by rw [he]
  subst he2
  clear he
  have d6 := below_more d5 b6
  go_wp2
  go_ret
  exact ⟨rfl, d6⟩

set_option maxRecDepth 100000 in
set_option maxHeartbeats 4000000 in
theorem many_o (s : Sn) (Lw Kw cw Ln Kn cn : Nat) (ws : List Int) (ns : List Nat) (hmw : min (Lw : Int) 20 = (Kw : Int)) (hmn : min (Ln : Int) 20 = (Kn : Int)) (hKw : ws.length = Kw) (hKn : ns.length = Kn) (hcw : Lw ≤ cw) (hcn : Ln ≤ cn) (hcw2 : cw ≤ 9223372036854775807) (hcn2 : cn ≤ 9223372036854775807)
    (hww : ∀ k ∈ ws, (Lit.int .i64 k).wf = true) (hnw : ∀ x ∈ ns, x < 18446744073709551616) (aw an : Option Addr) (a : List UInt8) (ha : a.length ≤ 9223372036854775807) (w : World) (hs : Sent s w) (hW : SlI .i64 w.heap.size w aw ws) (hN : SlI .u64 w.heap.size w an (ns.map fun (x : Nat) => (x : Int))) (p : List UInt8) (e1 : packRes ws ns = (p, 0)) (hpl : p.length ≤ 8 * ws.length) (e2 : ∀ l, unpackRes ws (p ++ l) = (ns, l, 0)) :
    Calls Tryd.prog 7 #[.slice aw Lw cw, .slice an Ln cn, .string (bs a)] w fun e w' => e = .returned (.bool true) ∧ Below w.heap.size w w' := by
  have HS := Lib.hid hs
  have _hu := hcn2
  clear _hu
  have hKLw : Kw ≤ Lw := by omega
  have hKLn : Kn ≤ Ln := by omega
  have hK20 : Kn ≤ 20 := by omega
  have hKw20 : Kw ≤ 20 := by omega
  obtain ⟨l, hl⟩ : ∃ l, a.take 300 = l := ⟨_, rfl⟩
  have hll : l.length ≤ 300 := by rw [← hl]; simp; omega
  have HA := Lib.hid (fun w => cut300 a ha w)
  have HF := Lib.hid (fun w => few_at Lw Kw cw hmw hKLw hcw hcw2 aw w)
  have HL := Lib.hid hl
  have HW := Lib.hid (fun (w1 : World) (b : Below w.heap.size w w1) => (hW.below b (Nat.le_refl _)).more b.size)
  have HN := Lib.hid (fun (w1 : World) (b : Below w.heap.size w w1) => (hN.below b (Nat.le_refl _)).more b.size)
  have HP := Lib.hid (fun (w1 : World) (h : Sent s w1) (hW : SlI .i64 w1.heap.size w1 aw ws) (hN : SlI .u64 w1.heap.size w1 an (ns.map fun (x : Nat) => (x : Int))) => by
    have := packE_any s ws ns (by omega) hww hnw aw an cw cn w1 h hW hN
    rw [hKw, hKn] at this
    exact this)
  have HU := Lib.hid (fun (q : List UInt8) (w1 : World) (h : Sent s w1) (hW : SlI .i64 w1.heap.size w1 aw ws) => by
    have := unpack_any s ws (by omega) hww q aw cw w1 h hW
    rw [hKw] at this
    exact this)
  have hsl := bs_size l
  have hp200 : p.length ≤ 200 := by omega
  have hsp := bs_size p
  have hap : bs p ++ bs l = bs (p ++ l) := bs_append _ _
  have HX := Lib.hid (fun (aa ab : Option Addr) (ca cb : Nat) (w1 : World) (h1 : SlI .u64 w1.heap.size w1 aa (ns.map fun (x : Nat) => (x : Int))) (h2 : SlI .u64 w1.heap.size w1 ab (ns.map fun (x : Nat) => (x : Int))) => by
    have := refNums_any (ns.map fun (x : Nat) => (x : Int)) (by rw [List.length_map]; omega) aa ab ca cb w1 h1 h2
    rw [List.length_map, hKn] at this
    exact this)
  have HE := Lib.hid (And.intro e1 (And.intro (e2 l) hKn))
  clear hs ha hl e1 e2 hW hN hww hnw hKw hKn hpl
  go_enter Tryd.func7, Tryd.ntmps7
  go_wp2_with (go_at_call 10; refine (shown_any s w HS.out).mono ?_)
  rintro e w1 ⟨he, b1⟩
  have he2 : e = .returned (.bool true) := by rw [he]
  subst he2
  clear he
  go_wp2_with (go_at_call 21; refine (HF.out w1).mono ?_)
  rintro e w2 ⟨he, hw2⟩
  have he2 : e = .returned (.slice aw Kw cw) := by rw [he]
  subst he2
  clear he
  obtain rfl := hw2
  go_wp2_with (go_at_call 20; refine (HP.out w1 (HS.out.more b1) (HW.out w1 b1) (HN.out w1 b1)).mono ?_)
  rintro e w2 ⟨he, b2⟩
  have he2 : e = .returned (.tuple #[.string (bs p), .int .i64 0]) := by rw [he, HE.out.1]
  subst he2
  clear he
  have d2 := below_more b1 b2
  go_wp2_with (go_at_call 21; refine (HF.out w2).mono ?_)
  rintro e w3 ⟨he, hw3⟩
  have he2 : e = .returned (.slice aw Kw cw) := by rw [he]
  subst he2
  clear he
  obtain rfl := hw3
  go_wp2_with (go_at_call 14; refine (HA.out w2).mono ?_)
  rintro e w3 ⟨he, hw3⟩
  have he2 : e = .returned (.string (bs l)) := by rw [he, HL.out]
  subst he2
  clear he
  obtain rfl := hw3
  go_wp2_with (go_at_call 23; refine (HU.out (p ++ l) w2 (HS.out.more d2) (HW.out w2 d2)).mono ?_)
  rintro e w3 ⟨a1, c1, he, hq1, b3⟩
  have he2 : e = .returned (.tuple #[.slice a1 Kn c1, .string (bs l), .int .i64 0]) := by rw [he, HE.out.2.1, ← HE.out.2.2]
  rw [HE.out.2.1] at hq1
  have HQ1 := Lib.hid hq1
  subst he2
  clear he hq1
  have d3 := below_more d2 b3
  go_wp2_with (go_at_call 25; refine (HX.out _ _ _ _ w3 (HN.out w3 d3) HQ1.out).mono ?_)
  rintro e w4 ⟨he, b4⟩
  have he2 : e = .returned (.bool true) := by rw [he]
  subst he2
  clear he
  have d4 := below_more d3 b4
  go_wp2_with (go_at_call 14; refine (HA.out w4).mono ?_)
  rintro e w5 ⟨he, hw5⟩
  have he2 : e = .returned (.string (bs l)) := by rw [he, HL.out]
  subst he2
  clear he
  obtain rfl := hw5
  go_wp2
  go_ret
  exact ⟨rfl, d4⟩

set_option maxRecDepth 100000 in
set_option maxHeartbeats 4000000 in
theorem many_e (s : Sn) (Lw Kw cw Ln Kn cn : Nat) (ws : List Int) (ns : List Nat) (hmw : min (Lw : Int) 20 = (Kw : Int)) (hmn : min (Ln : Int) 20 = (Kn : Int)) (hKw : ws.length = Kw) (hKn : ns.length = Kn) (hcw : Lw ≤ cw) (hcn : Ln ≤ cn) (hcw2 : cw ≤ 9223372036854775807) (hcn2 : cn ≤ 9223372036854775807)
    (hww : ∀ k ∈ ws, (Lit.int .i64 k).wf = true) (hnw : ∀ x ∈ ns, x < 18446744073709551616) (aw an : Option Addr) (a : List UInt8) (ha : a.length ≤ 9223372036854775807) (w : World) (hs : Sent s w) (hW : SlI .i64 w.heap.size w aw ws) (hN : SlI .u64 w.heap.size w an (ns.map fun (x : Nat) => (x : Int))) (c : Int) (hc1 : (c == 0) = false) (hc2 : (c != 0) = true) (e1 : packRes ws ns = ([], c)) :
    Calls Tryd.prog 7 #[.slice aw Lw cw, .slice an Ln cn, .string (bs a)] w fun e w' => e = .returned (.bool true) ∧ Below w.heap.size w w' := by
  have HS := Lib.hid hs
  have _hu := hcn2
  clear _hu
  have hKLw : Kw ≤ Lw := by omega
  have hKLn : Kn ≤ Ln := by omega
  have hK20 : Kn ≤ 20 := by omega
  have hKw20 : Kw ≤ 20 := by omega
  obtain ⟨l, hl⟩ : ∃ l, a.take 300 = l := ⟨_, rfl⟩
  have hll : l.length ≤ 300 := by rw [← hl]; simp; omega
  have HA := Lib.hid (fun w => cut300 a ha w)
  have HF := Lib.hid (fun w => few_at Lw Kw cw hmw hKLw hcw hcw2 aw w)
  have HL := Lib.hid hl
  have HW := Lib.hid (fun (w1 : World) (b : Below w.heap.size w w1) => (hW.below b (Nat.le_refl _)).more b.size)
  have HN := Lib.hid (fun (w1 : World) (b : Below w.heap.size w w1) => (hN.below b (Nat.le_refl _)).more b.size)
  have HP := Lib.hid (fun (w1 : World) (h : Sent s w1) (hW : SlI .i64 w1.heap.size w1 aw ws) (hN : SlI .u64 w1.heap.size w1 an (ns.map fun (x : Nat) => (x : Int))) => by
    have := packE_any s ws ns (by omega) hww hnw aw an cw cn w1 h hW hN
    rw [hKw, hKn] at this
    exact this)
  have HU := Lib.hid (fun (q : List UInt8) (w1 : World) (h : Sent s w1) (hW : SlI .i64 w1.heap.size w1 aw ws) => by
    have := unpack_any s ws (by omega) hww q aw cw w1 h hW
    rw [hKw] at this
    exact this)
  have hsl := bs_size l
  obtain ⟨xs, r, d, e2⟩ : ∃ xs r d, unpackRes ws l = (xs, r, d) := ⟨_, _, _, rfl⟩
  obtain ⟨X, hX⟩ : ∃ X, xs.length = X := ⟨_, rfl⟩
  have hse : (bs []).size = 0 := rfl
  have hap : bs [] ++ bs l = bs l := bs_append [] l
  have hee : (bs []).toList.isEmpty = true := by rw [bs_toList]; rfl
  have _hu2 := hc1
  clear _hu2
  have HE := Lib.hid (And.intro e1 (And.intro e2 hX))
  clear hs ha hl e1 e2 hW hN hww hnw hKw hKn hX
  go_enter Tryd.func7, Tryd.ntmps7
  go_wp2_with (go_at_call 10; refine (shown_any s w HS.out).mono ?_)
  rintro e w1 ⟨he, b1⟩
  have he2 : e = .returned (.bool true) := by rw [he]
  subst he2
  clear he
  go_wp2_with (go_at_call 21; refine (HF.out w1).mono ?_)
  rintro e w2 ⟨he, hw2⟩
  have he2 : e = .returned (.slice aw Kw cw) := by rw [he]
  subst he2
  clear he
  obtain rfl := hw2
  go_wp2_with (go_at_call 20; refine (HP.out w1 (HS.out.more b1) (HW.out w1 b1) (HN.out w1 b1)).mono ?_)
  rintro e w2 ⟨he, b2⟩
  have he2 : e = .returned (.tuple #[.string (bs []), .int .i64 c]) := by rw [he, HE.out.1]
  subst he2
  clear he
  have d2 := below_more b1 b2
  go_wp2_with (go_at_call 21; refine (HF.out w2).mono ?_)
  rintro e w3 ⟨he, hw3⟩
  have he2 : e = .returned (.slice aw Kw cw) := by rw [he]
  subst he2
  clear he
  obtain rfl := hw3
  go_wp2_with (go_at_call 14; refine (HA.out w2).mono ?_)
  rintro e w3 ⟨he, hw3⟩
  have he2 : e = .returned (.string (bs l)) := by rw [he, HL.out]
  subst he2
  clear he
  obtain rfl := hw3
  go_wp2_with (go_at_call 23; refine (HU.out l w2 (HS.out.more d2) (HW.out w2 d2)).mono ?_)
  rintro e w3 ⟨a1, c1, he, hq1, b3⟩
  have he2 : e = .returned (.tuple #[.slice a1 X c1, .string (bs r), .int .i64 d]) := by rw [he, HE.out.2.1, ← HE.out.2.2]
  rw [HE.out.2.1] at hq1
  have HQ1 := Lib.hid hq1
  subst he2
  clear he hq1
  have d3 := below_more d2 b3
  go_wp2
  go_ret
  exact ⟨rfl, d3⟩

theorem packs_walk (s : Sn) (aw : Option Addr) (lw cw : Nat) (zs : List Int) (an : Option Addr) (ln cn : Nat) (ns : List Nat) (a : List UInt8) (ha : a.length ≤ 9223372036854775807) (w : World) (hs : Sent s w) (hW : SlIn .i64 w aw lw cw zs) (hN : SlIn .u64 w an ln cn (ns.map fun (x : Nat) => (x : Int))) (hnw : ∀ x ∈ ns, x < 18446744073709551616) :
    Calls Tryd.prog 4 #[.slice aw lw cw, .slice an ln cn, .string (bs a)] w fun e w' => e = .returned (.bool true) ∧ Below w.heap.size w w' := by
  obtain ⟨w1, w2, w3, w4, w5⟩ := hW
  obtain ⟨n1, n2, n3, n4, _⟩ := hN
  rw [List.length_map] at n2
  have hN' : SlI .u64 w.heap.size w an ((ns.take 20).map fun (x : Nat) => (x : Int)) := by rw [List.map_take]; exact slI_take n1 20
  exact packs_at s lw (zs.take 20).length cw ln (ns.take 20).length cn (zs.take 20) (ns.take 20) (by rw [List.length_take]; omega) (by rw [List.length_take]; omega) rfl rfl w3 n3 w4 n4 (fun k hk => w5 k (List.mem_of_mem_take hk)) (fun x hx => hnw x (List.mem_of_mem_take hx)) aw an a ha w hs (slI_take w1 20) hN'

theorem many_walk (s : Sn) (aw : Option Addr) (lw cw : Nat) (zs : List Int) (an : Option Addr) (ln cn : Nat) (ns : List Nat) (a : List UInt8) (ha : a.length ≤ 9223372036854775807) (w : World) (hs : Sent s w) (hW : SlIn .i64 w aw lw cw zs) (hN : SlIn .u64 w an ln cn (ns.map fun (x : Nat) => (x : Int))) (hnw : ∀ x ∈ ns, x < 18446744073709551616) :
    Calls Tryd.prog 7 #[.slice aw lw cw, .slice an ln cn, .string (bs a)] w fun e w' => e = .returned (.bool true) ∧ Below w.heap.size w w' := by
  obtain ⟨w1, w2, w3, w4, w5⟩ := hW
  obtain ⟨n1, n2, n3, n4, _⟩ := hN
  rw [List.length_map] at n2
  have hN' : SlI .u64 w.heap.size w an ((ns.take 20).map fun (x : Nat) => (x : Int)) := by rw [List.map_take]; exact slI_take n1 20
  rcases packRes_cases (zs.take 20) (ns.take 20) with ⟨p, e1, _, hpl, e2⟩ | ⟨c, hc1, hc2, e1⟩
  · exact many_o s lw (zs.take 20).length cw ln (ns.take 20).length cn (zs.take 20) (ns.take 20) (by rw [List.length_take]; omega) (by rw [List.length_take]; omega) rfl rfl w3 n3 w4 n4 (fun k hk => w5 k (List.mem_of_mem_take hk)) (fun x hx => hnw x (List.mem_of_mem_take hx)) aw an a ha w hs (slI_take w1 20) hN' p e1 hpl e2
  · exact many_e s lw (zs.take 20).length cw ln (ns.take 20).length cn (zs.take 20) (ns.take 20) (by rw [List.length_take]; omega) (by rw [List.length_take]; omega) rfl rfl w3 n3 w4 n4 (fun k hk => w5 k (List.mem_of_mem_take hk)) (fun x hx => hnw x (List.mem_of_mem_take hx)) aw an a ha w hs (slI_take w1 20) hN' c hc1 hc2 e1

end Go.Proofs.YtpmelbjbkdflgaaDoor
