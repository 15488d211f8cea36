/- New, Right, Used, Put, Take, All. -/
import Derived.Test.YtbdhagilmdmpdaaDoorRgPut
namespace Go.Proofs.YtbdhagilmdmpdaaDoor
open Go.RowKit Go.Proofs.Fld Go.Proofs.Rng Go.Shelf Go.Sort

/-- A ring is told, and a number. -/
def TellR (m : Int) (l : List It) (k : Nat) (c : Int) (w : World) (e : Ending) (w' : World) : Prop :=
  ∃ va vc, e = .returned (.tuple #[.agg #[.int .i64 m, .slice va k vc], .int .i64 c]) ∧ (Txs w' va k vc l ∧ OwnT w.heap.size w' (.slice va k vc) l) ∧ Below w.heap.size w w'
/-- An item, a ring, a number. -/
def TellX (x : It) (m : Int) (l : List It) (k : Nat) (c : Int) (w : World) (e : Ending) (w' : World) : Prop :=
  ∃ va vc, e = .returned (.tuple #[.string (bs x), .agg #[.int .i64 m, .slice va k vc], .int .i64 c]) ∧ (Txs w' va k vc l ∧ OwnT w.heap.size w' (.slice va k vc) l) ∧ Below w.heap.size w w'
/-- A ring, how many, a number. -/
def TellA (m : Int) (l : List It) (k n : Nat) (c : Int) (w : World) (e : Ending) (w' : World) : Prop :=
  ∃ va vc, e = .returned (.tuple #[.agg #[.int .i64 m, .slice va k vc], .int .i64 (n : Int), .int .i64 c]) ∧ (Txs w' va k vc l ∧ OwnT w.heap.size w' (.slice va k vc) l) ∧ Below w.heap.size w w'
theorem Sent.set2 {s : Sn} {w A : World} {X : Nat} {u v : Value} (h : Sent s w) (hb : Below w.heap.size w A) (hX : w.heap.size ≤ X) : Sent s ((A.setCell ⟨X, 0, none⟩ u).setCell ⟨X, 1, none⟩ v) := h.more (set2B hb hX u v)

set_option maxRecDepth 100000 in
set_option maxHeartbeats 4000000 in
theorem Put_p {s : Sn} {m : Int} {ao : Option Addr} {len cap : Nat} {zs : List It} {x : It} {pm : Int} {pl : List It} {pe k : Nat} (hx : x.length ≤ 900000) (hreach : len ≤ 1000000) (hsum : takes zs ≤ 1000000) (hpm : putM m zs x = pm) (hpl : putL m zs x = pl) (hpe : putE m zs x = pe) (hk : pl.length = k) {w : World} (hL : Txs w ao len cap zs) (hs : Sent s w) :
    Calls Tryd.prog 13 #[.agg #[.int .i64 m, .slice ao len cap], .string (bs x)] w (TellR pm pl k (errN pe) w) := by
  have hB1 := Below.new w (.cells #[.int .i64 m, .slice ao len cap] 24)
  have hB2 := below_more hB1 (Below.new _ (.cells #[.int .i64 0, .slice none 0 0] 24))
  have r1 := (R2.new w (.int .i64 m) (.slice ao len cap) 24).more (Below.new _ (.cells #[.int .i64 0, .slice none 0 0] 24))
  have r2 := R2.new (w.alloc (.cells #[.int .i64 m, .slice ao len cap] 24)) (.int .i64 0) (.slice none 0 0) 24
  rw [World.size_alloc] at r2
  obtain ⟨W0, hW0⟩ : ∃ W0, (w.alloc (.cells #[.int .i64 m, .slice ao len cap] 24)).alloc (.cells #[.int .i64 0, .slice none 0 0] 24) = W0 := ⟨_, rfl⟩
  rw [hW0] at hB2 r1 r2
  have hf : ∀ y ∈ pl, y.length ≤ 9223372036854775807 := by
    intro y hy
    rw [← hpl] at hy
    unfold putL at hy
    split at hy
    · rcases List.mem_append.1 hy with h | h
      · exact hL.hfits y h
      · obtain rfl : y = x := by simpa using h
        omega
    · cases hy
  have HP := Lib.hid (put_any s m ao len cap zs x hx hreach hsum W0 (hL.more hB2) (hs.more hB2))
  rw [hpm, hpl, hpe] at HP
  have HX := Lib.hid (And.intro hs (And.intro r2 (And.intro hB2 (And.intro hf hk))))
  obtain ⟨c0, c1, _, _⟩ := r1
  clear hB1 hB2 r2 hL hs hpm hpl hpe hf hk
  go_enter Tryd.func13, Tryd.ntmps13
  go_wp2_with (go_at_call 29; refine HP.out.mono ?_)
  rintro e w1 ⟨va, vc, v, k', rfl, hv, rfl, hO, hb1⟩
  have hkk := HX.out.2.2.2.2
  rw [hkk] at hO
  rw [hkk]
  have hN1 := Below.new w1 (.cells #[.int .i64 pm, .slice va k vc] 24)
  have q := R2.new w1 (.int .i64 pm) (.slice va k vc) 24
  have O2 := hO.more hN1
  have RR := HX.out.2.1.more hb1
  have BB := below_more HX.out.2.2.1 hb1
  have hl0 := HX.out.2.1.lt
  clear hO hkk hb1
  have hQ : w.heap.size + 1 ≠ w1.heap.size := by have := RR.lt; omega
  have B2 := below_more BB hN1
  have R2' := RR.more hN1
  obtain ⟨W2, hW2⟩ : ∃ W2, w1.alloc (.cells #[.int .i64 pm, .slice va k vc] 24) = W2 := ⟨_, rfl⟩
  rw [hW2] at hN1 q R2' B2 O2
  have hD : Below W2.heap.size W2 W2.drew := (Below.refl _ W2).drew
  have B3 := below_more B2 hD
  have hlt := R2'.lt
  have z0 : ∀ u x, (((W2.setCell ⟨w.heap.size + 1, 0, none⟩ u).setCell ⟨w.heap.size + 1, 1, none⟩ x).drew).cell? ⟨w1.heap.size, 0, none⟩ = some (.int .i64 pm) := fun u x => set2O q.c0 hQ
  have z1 : ∀ u x, (((W2.setCell ⟨w.heap.size + 1, 0, none⟩ u).setCell ⟨w.heap.size + 1, 1, none⟩ x).drew).cell? ⟨w1.heap.size, 1, none⟩ = some (.slice va k vc) := fun u x => set2O q.c1 hQ
  have zs2 : ∀ u x, Sent s (((W2.setCell ⟨w.heap.size + 1, 0, none⟩ u).setCell ⟨w.heap.size + 1, 1, none⟩ x).drew) := fun u x => HX.out.1.more (set2B B2 (b := w.heap.size + 1) (by omega) u x).drew
  have HS := Lib.hid (And.intro (HX.out.1.more B3) zs2)
  obtain ⟨d0, d1, f0, f1⟩ := id R2'
  obtain ⟨y0, y1, _, _⟩ := R2'.set (.int .i64 pm) (.slice va k vc)
  have x0 := cell_later hD q.c0
  have x1 := cell_later hD q.c1
  have q0 := q.c0
  have q1 := q.c1
  have HB3 := Lib.hid (set2B B2 (b := w.heap.size + 1) (by omega) (.int .i64 pm) (.slice va k vc))
  have HO := Lib.hid (((O2.set1 (b := w.heap.size + 1) (i := 0) (x := .int .i64 pm) (by omega)).set1 (b := w.heap.size + 1) (i := 1) (x := .slice va k vc) (by omega)).mono (n1 := w.heap.size) (by have := HX.out.2.2.1.size; omega))
  have HV := Lib.hid hv
  clear q zs2 RR BB R2' B2 B3 hN1 hD hlt hv O2
  go_wp2
  go_region_held3 (fun w' => w'.cell? ⟨w1.heap.size, 0, none⟩ = some (.int .i64 pm) ∧ w'.cell? ⟨w1.heap.size, 1, none⟩ = some (.slice va k vc) ∧ Sent s w')
    (first | (with_reducible exact ⟨x0, x1, HS.out.1⟩) | (with_reducible exact ⟨z0 _ _, z1 _ _, HS.out.2 _ _⟩))
    (first | (go_at_call 28; go_split_ands; ((with_reducible refine (told_any s HV.out _ (by assumption)).mono ?_); rintro e w3 ⟨rfl, rfl⟩)))
  all_goals go_wp2
  all_goals
    generalize hWF : ((W2.setCell ⟨w.heap.size + 1, 0, none⟩ (.int .i64 pm)).setCell ⟨w.heap.size + 1, 1, none⟩ (.slice va k vc)) = WF at y0 y1 HB3 HO ⊢
    refine bodyPost_ret (v := .tuple #[.agg #[.int .i64 pm, .slice va k vc], .int .i64 (errN pe)]) (by simp [results, Tryd.results13, go_sem, y0, y1]) rfl ?_
    exact ⟨va, vc, rfl, ⟨(HO.out.more (Below.refl _ WF).drew).txs HX.out.2.2.2.2 HX.out.2.2.2.1, HO.out.more (Below.refl _ WF).drew⟩, HB3.out.drew⟩

set_option maxRecDepth 100000 in
set_option maxHeartbeats 4000000 in
theorem Take_p {s : Sn} {m : Int} {ao : Option Addr} {len cap : Nat} {zs : List It} {px : It} {pm : Int} {pl : List It} {pe k : Nat} (hreach : len ≤ 1000000) (hsum : takes zs ≤ 1000000) (hpx : takeX m zs = px) (hpm : takeM m zs = pm) (hpl : takeL m zs = pl) (hpe : takeE m zs = pe) (hk : pl.length = k) {w : World} (hL : Txs w ao len cap zs) (hs : Sent s w) :
    Calls Tryd.prog 16 #[.agg #[.int .i64 m, .slice ao len cap]] w (TellX px pm pl k (errN pe) w) := by
  have hB1 := Below.new w (.cells #[.int .i64 m, .slice ao len cap] 24)
  have hB2 := below_more hB1 (Below.new _ (.cells #[.int .i64 0, .slice none 0 0] 24))
  have r1 := (R2.new w (.int .i64 m) (.slice ao len cap) 24).more (Below.new _ (.cells #[.int .i64 0, .slice none 0 0] 24))
  have r2 := R2.new (w.alloc (.cells #[.int .i64 m, .slice ao len cap] 24)) (.int .i64 0) (.slice none 0 0) 24
  rw [World.size_alloc] at r2
  obtain ⟨W0, hW0⟩ : ∃ W0, (w.alloc (.cells #[.int .i64 m, .slice ao len cap] 24)).alloc (.cells #[.int .i64 0, .slice none 0 0] 24) = W0 := ⟨_, rfl⟩
  rw [hW0] at hB2 r1 r2
  have hf : ∀ y ∈ pl, y.length ≤ 9223372036854775807 := by
    intro y hy
    rw [← hpl] at hy
    unfold takeL at hy
    split at hy
    · exact hL.hfits y (List.mem_of_mem_tail hy)
    · cases hy
  have HP := Lib.hid (take_any s m ao len cap zs hreach hsum W0 (hL.more hB2) (hs.more hB2))
  rw [hpx, hpm, hpl, hpe] at HP
  have HX := Lib.hid (And.intro hs (And.intro r2 (And.intro hB2 (And.intro hf hk))))
  obtain ⟨c0, c1, _, _⟩ := r1
  clear hB1 hB2 r2 hL hs hpm hpl hpe hf hk hpx
  go_enter Tryd.func16, Tryd.ntmps16
  go_wp2_with (go_at_call 31; refine HP.out.mono ?_)
  rintro e w1 ⟨va, vc, v, k', rfl, hv, rfl, hO, hb1⟩
  have hkk := HX.out.2.2.2.2
  rw [hkk] at hO
  rw [hkk]
  have hN1 := Below.new w1 (.cells #[.int .i64 pm, .slice va k vc] 24)
  have q := R2.new w1 (.int .i64 pm) (.slice va k vc) 24
  have O2 := hO.more hN1
  have RR := HX.out.2.1.more hb1
  have BB := below_more HX.out.2.2.1 hb1
  have hl0 := HX.out.2.1.lt
  clear hO hkk hb1
  have hQ : w.heap.size + 1 ≠ w1.heap.size := by have := RR.lt; omega
  have B2 := below_more BB hN1
  have R2' := RR.more hN1
  obtain ⟨W2, hW2⟩ : ∃ W2, w1.alloc (.cells #[.int .i64 pm, .slice va k vc] 24) = W2 := ⟨_, rfl⟩
  rw [hW2] at hN1 q R2' B2 O2
  have hD : Below W2.heap.size W2 W2.drew := (Below.refl _ W2).drew
  have B3 := below_more B2 hD
  have hlt := R2'.lt
  have z0 : ∀ u x, (((W2.setCell ⟨w.heap.size + 1, 0, none⟩ u).setCell ⟨w.heap.size + 1, 1, none⟩ x).drew).cell? ⟨w1.heap.size, 0, none⟩ = some (.int .i64 pm) := fun u x => set2O q.c0 hQ
  have z1 : ∀ u x, (((W2.setCell ⟨w.heap.size + 1, 0, none⟩ u).setCell ⟨w.heap.size + 1, 1, none⟩ x).drew).cell? ⟨w1.heap.size, 1, none⟩ = some (.slice va k vc) := fun u x => set2O q.c1 hQ
  have zs2 : ∀ u x, Sent s (((W2.setCell ⟨w.heap.size + 1, 0, none⟩ u).setCell ⟨w.heap.size + 1, 1, none⟩ x).drew) := fun u x => HX.out.1.more (set2B B2 (b := w.heap.size + 1) (by omega) u x).drew
  have HS := Lib.hid (And.intro (HX.out.1.more B3) zs2)
  obtain ⟨d0, d1, f0, f1⟩ := id R2'
  obtain ⟨y0, y1, _, _⟩ := R2'.set (.int .i64 pm) (.slice va k vc)
  have x0 := cell_later hD q.c0
  have x1 := cell_later hD q.c1
  have q0 := q.c0
  have q1 := q.c1
  have HB3 := Lib.hid (set2B B2 (b := w.heap.size + 1) (by omega) (.int .i64 pm) (.slice va k vc))
  have HO := Lib.hid (((O2.set1 (b := w.heap.size + 1) (i := 0) (x := .int .i64 pm) (by omega)).set1 (b := w.heap.size + 1) (i := 1) (x := .slice va k vc) (by omega)).mono (n1 := w.heap.size) (by have := HX.out.2.2.1.size; omega))
  have HV := Lib.hid hv
  clear q zs2 RR BB R2' B2 B3 hN1 hD hlt hv O2
  go_wp2
  go_region_held3 (fun w' => w'.cell? ⟨w1.heap.size, 0, none⟩ = some (.int .i64 pm) ∧ w'.cell? ⟨w1.heap.size, 1, none⟩ = some (.slice va k vc) ∧ Sent s w')
    (first | (with_reducible exact ⟨x0, x1, HS.out.1⟩) | (with_reducible exact ⟨z0 _ _, z1 _ _, HS.out.2 _ _⟩))
    (first | (go_at_call 28; go_split_ands; ((with_reducible refine (told_any s HV.out _ (by assumption)).mono ?_); rintro e w3 ⟨rfl, rfl⟩)))
  all_goals go_wp2
  all_goals
    generalize hWF : ((W2.setCell ⟨w.heap.size + 1, 0, none⟩ (.int .i64 pm)).setCell ⟨w.heap.size + 1, 1, none⟩ (.slice va k vc)) = WF at y0 y1 HB3 HO ⊢
    refine bodyPost_ret (v := .tuple #[.string (bs px), .agg #[.int .i64 pm, .slice va k vc], .int .i64 (errN pe)]) (by simp [results, Tryd.results16, go_sem, y0, y1]) rfl ?_
    exact ⟨va, vc, rfl, ⟨(HO.out.more (Below.refl _ WF).drew).txs HX.out.2.2.2.2 HX.out.2.2.2.1, HO.out.more (Below.refl _ WF).drew⟩, HB3.out.drew⟩

theorem new_open (s : Sn) (m : Int) (w : World) (hs : Sent s w) : Calls Tryd.prog 27 #[.agg #[.int .i64 m, .slice none 0 0]] w (OpenP s m none 0 0 [] w) := open_any s m none 0 0 [] (by omega) (by simp [takes]) w (Txs.nil w) hs
set_option maxRecDepth 100000 in
set_option maxHeartbeats 4000000 in
theorem New_p {s : Sn} {m pm : Int} {pe : Nat} (hp1 : rightR m [] = true → pm = m ∧ pe = 0) (hp2 : rightR m [] = false → pm = 0 ∧ pe = 1) {w : World} (hs : Sent s w) :
    Calls Tryd.prog 11 #[.int .i64 m] w (TellR pm [] 0 (errN pe) w) := by
  have hB2 := Below.new w (.cells #[.int .i64 0, .slice none 0 0] 24)
  have r2 := R2.new w (.int .i64 0) (.slice none 0 0) 24
  obtain ⟨W0, hW0⟩ : ∃ W0, w.alloc (.cells #[.int .i64 0, .slice none 0 0] 24) = W0 := ⟨_, rfl⟩
  rw [hW0] at hB2 r2
  have HP := Lib.hid (new_open s m W0 (hs.more hB2))
  have HX := Lib.hid (And.intro hs (And.intro r2 (And.intro hB2 (And.intro hp1 hp2))))
  clear hB2 r2 hs hp1 hp2
  go_enter Tryd.func11, Tryd.ntmps11
  go_wp2_with (go_at_call 27; refine HP.out.mono ?_)
  rintro e w1 ⟨⟨hr, t, ht, rfl⟩ | ⟨hr, rfl⟩, hb1⟩
  · obtain ⟨rfl, rfl⟩ := HX.out.2.2.2.1 hr
    have hv : ErrIs s .nilIface 0 := .ok
    have hN1 := Below.new w1 (.cells #[.int .i64 pm, .slice none 0 0, .int .i64 (t : Int)] 45)
    have q := R3.new w1 (.int .i64 pm) (.slice none 0 0) (.int .i64 (t : Int)) 45
    have RR := HX.out.2.1.more hb1
    have BB := below_more HX.out.2.2.1 hb1
    have hl0 := HX.out.2.1.lt
    clear hb1 hr ht
    have hQ : w.heap.size ≠ w1.heap.size := by have := RR.lt; omega
    have B2 := below_more BB hN1
    have R2' := RR.more hN1
    obtain ⟨W2, hW2⟩ : ∃ W2, w1.alloc (.cells #[.int .i64 pm, .slice none 0 0, .int .i64 (t : Int)] 45) = W2 := ⟨_, rfl⟩
    rw [hW2] at hN1 q R2' B2
    have hD : Below W2.heap.size W2 W2.drew := (Below.refl _ W2).drew
    have B3 := below_more B2 hD
    have hlt := R2'.lt
    have z0 : ∀ u x, (((W2.setCell ⟨w.heap.size, 0, none⟩ u).setCell ⟨w.heap.size, 1, none⟩ x).drew).cell? ⟨w1.heap.size, 0, none⟩ = some (.int .i64 pm) := fun u x => set2O q.c0 hQ
    have z1 : ∀ u x, (((W2.setCell ⟨w.heap.size, 0, none⟩ u).setCell ⟨w.heap.size, 1, none⟩ x).drew).cell? ⟨w1.heap.size, 1, none⟩ = some (.slice none 0 0) := fun u x => set2O q.c1 hQ
    have zs2 : ∀ u x, Sent s (((W2.setCell ⟨w.heap.size, 0, none⟩ u).setCell ⟨w.heap.size, 1, none⟩ x).drew) := fun u x => HX.out.1.more (set2B B2 (b := w.heap.size) (by omega) u x).drew
    have HS := Lib.hid (And.intro (HX.out.1.more B3) zs2)
    obtain ⟨d0, d1, f0, f1⟩ := id R2'
    obtain ⟨y0, y1, _, _⟩ := R2'.set (.int .i64 pm) (.slice none 0 0)
    have x0 := cell_later hD q.c0
    have x1 := cell_later hD q.c1
    have q0 := q.c0
    have q1 := q.c1
    have HB3 := Lib.hid (set2B B2 (b := w.heap.size) (by omega) (.int .i64 pm) (.slice none 0 0))
    have HV := Lib.hid hv
    clear q zs2 RR BB R2' B2 B3 hN1 hD hlt hv
    go_wp2
    go_region_held3 (fun w' => w'.cell? ⟨w1.heap.size, 0, none⟩ = some (.int .i64 pm) ∧ w'.cell? ⟨w1.heap.size, 1, none⟩ = some (.slice none 0 0) ∧ Sent s w')
      (first | (with_reducible exact ⟨x0, x1, HS.out.1⟩) | (with_reducible exact ⟨z0 _ _, z1 _ _, HS.out.2 _ _⟩))
      (first | (go_at_call 28; go_split_ands; ((with_reducible refine (told_any s HV.out _ (by assumption)).mono ?_); rintro e w3 ⟨rfl, rfl⟩)))
    all_goals go_wp2
    all_goals
      generalize hWF : ((W2.setCell ⟨w.heap.size, 0, none⟩ (.int .i64 pm)).setCell ⟨w.heap.size, 1, none⟩ (.slice none 0 0)) = WF at y0 y1 HB3 ⊢
      refine bodyPost_ret (v := .tuple #[.agg #[.int .i64 pm, .slice none 0 0], .int .i64 (errN 0)]) (by simp [results, Tryd.results11, go_sem, y0, y1]) rfl ?_
      exact ⟨none, 0, rfl, ⟨Txs.nil _, OwnT.nil _ _⟩, HB3.out.drew⟩
  · obtain ⟨rfl, rfl⟩ := HX.out.2.2.2.2 hr
    have hv : ErrIs s (.iface 82 (.pointer (some s.w))) 1 := .wrong
    have hN1 := Below.new w1 (.cells #[.int .i64 0, .slice none 0 0, .int .i64 0] 45)
    have q := R3.new w1 (.int .i64 0) (.slice none 0 0) (.int .i64 0) 45
    have RR := HX.out.2.1.more hb1
    have BB := below_more HX.out.2.2.1 hb1
    have hl0 := HX.out.2.1.lt
    clear hb1 hr
    go_wp2
    have hQ : w.heap.size ≠ w1.heap.size := by have := RR.lt; omega
    have B2 := below_more BB hN1
    have R2' := RR.more hN1
    obtain ⟨W2, hW2⟩ : ∃ W2, w1.alloc (.cells #[.int .i64 0, .slice none 0 0, .int .i64 0] 45) = W2 := ⟨_, rfl⟩
    rw [hW2] at hN1 q R2' B2 ⊢
    have hD : Below W2.heap.size W2 W2.drew := (Below.refl _ W2).drew
    have B3 := below_more B2 hD
    have hlt := R2'.lt
    have z0 : ∀ u x, (((W2.setCell ⟨w.heap.size, 0, none⟩ u).setCell ⟨w.heap.size, 1, none⟩ x).drew).cell? ⟨w1.heap.size, 0, none⟩ = some (.int .i64 0) := fun u x => set2O q.c0 hQ
    have z1 : ∀ u x, (((W2.setCell ⟨w.heap.size, 0, none⟩ u).setCell ⟨w.heap.size, 1, none⟩ x).drew).cell? ⟨w1.heap.size, 1, none⟩ = some (.slice none 0 0) := fun u x => set2O q.c1 hQ
    have zs2 : ∀ u x, Sent s (((W2.setCell ⟨w.heap.size, 0, none⟩ u).setCell ⟨w.heap.size, 1, none⟩ x).drew) := fun u x => HX.out.1.more (set2B B2 (b := w.heap.size) (by omega) u x).drew
    have HS := Lib.hid (And.intro (HX.out.1.more B3) zs2)
    obtain ⟨d0, d1, f0, f1⟩ := id R2'
    obtain ⟨y0, y1, _, _⟩ := R2'.set (.int .i64 0) (.slice none 0 0)
    have x0 := cell_later hD q.c0
    have x1 := cell_later hD q.c1
    have q0 := q.c0
    have q1 := q.c1
    have HB3 := Lib.hid (set2B B2 (b := w.heap.size) (by omega) (.int .i64 0) (.slice none 0 0))
    have HV := Lib.hid hv
    clear q zs2 RR BB R2' B2 B3 hN1 hD hlt hv
    go_region_held3 (fun w' => w'.cell? ⟨w1.heap.size, 0, none⟩ = some (.int .i64 0) ∧ w'.cell? ⟨w1.heap.size, 1, none⟩ = some (.slice none 0 0) ∧ Sent s w')
      (first | (with_reducible exact ⟨x0, x1, HS.out.1⟩) | (with_reducible exact ⟨z0 _ _, z1 _ _, HS.out.2 _ _⟩))
      (first | (go_at_call 28; go_split_ands; ((with_reducible refine (told_any s HV.out _ (by assumption)).mono ?_); rintro e w3 ⟨rfl, rfl⟩)))
    all_goals go_wp2
    all_goals
      generalize hWF : ((W2.setCell ⟨w.heap.size, 0, none⟩ (.int .i64 0)).setCell ⟨w.heap.size, 1, none⟩ (.slice none 0 0)) = WF at y0 y1 HB3 ⊢
      refine bodyPost_ret (v := .tuple #[.agg #[.int .i64 0, .slice none 0 0], .int .i64 (errN 1)]) (by simp [results, Tryd.results11, go_sem, y0, y1]) rfl ?_
      exact ⟨none, 0, rfl, ⟨Txs.nil _, OwnT.nil _ _⟩, HB3.out.drew⟩

set_option maxHeartbeats 2000000 in
theorem Right_p {s : Sn} {m : Int} {ao : Option Addr} {len cap : Nat} {zs : List It} {b : Bool} (hreach : len ≤ 1000000) (hsum : takes zs ≤ 1000000) (hb : rightR m zs = b) {w : World} (hL : Txs w ao len cap zs) (hs : Sent s w) :
    Calls Tryd.prog 19 #[.agg #[.int .i64 m, .slice ao len cap]] w (BoolP b w) := by
  have hB2 := Below.new w (.cells #[.int .i64 m, .slice ao len cap] 24)
  obtain ⟨c0, c1, _, _⟩ := R2.new w (.int .i64 m) (.slice ao len cap) 24
  have HP := Lib.hid (open_any s m ao len cap zs hreach hsum _ (hL.more hB2) (hs.more hB2))
  have HB := Lib.hid (And.intro hB2 hb)
  clear hB2 hL hs hb
  go_enter Tryd.func19, Tryd.ntmps19
  go_wp2_with (go_at_call 27; refine HP.out.mono ?_)
  rintro e w1 ⟨⟨hr, t, ht, rfl⟩ | ⟨hr, rfl⟩, hb1⟩
  · have HZ := Lib.hid (And.intro (below_more (below_more HB.out.1 hb1) (Below.new w1 (.cells #[.int .i64 m, .slice ao len cap, .int .i64 (t : Int)] 45))) (HB.out.2.symm.trans hr))
    clear hb1 hr ht
    go_wp2
    go_ret
    exact ⟨by rw [HZ.out.2]; rfl, HZ.out.1⟩
  · have HZ := Lib.hid (And.intro (below_more (below_more HB.out.1 hb1) (Below.new w1 (.cells #[.int .i64 0, .slice none 0 0, .int .i64 0] 45))) (HB.out.2.symm.trans hr))
    have qq := eql_err s.w
    clear hb1 hr
    go_wp2
    go_ret
    exact ⟨by rw [HZ.out.2]; rfl, HZ.out.1⟩

set_option maxHeartbeats 2000000 in
theorem Used_p {s : Sn} {m : Int} {ao : Option Addr} {len cap : Nat} {zs : List It} {b : Nat} (hreach : len ≤ 1000000) (hsum : takes zs ≤ 1000000) (hb : usedR m zs = b) {w : World} (hL : Txs w ao len cap zs) (hs : Sent s w) :
    Calls Tryd.prog 21 #[.agg #[.int .i64 m, .slice ao len cap]] w (IntP (b : Int) w) := by
  have hB2 := Below.new w (.cells #[.int .i64 m, .slice ao len cap] 24)
  obtain ⟨c0, c1, _, _⟩ := R2.new w (.int .i64 m) (.slice ao len cap) 24
  have HP := Lib.hid (open_any s m ao len cap zs hreach hsum _ (hL.more hB2) (hs.more hB2))
  have HB := Lib.hid (And.intro hB2 hb)
  clear hB2 hL hs hb
  go_enter Tryd.func21, Tryd.ntmps21
  go_wp2_with (go_at_call 27; refine HP.out.mono ?_)
  rintro e w1 ⟨⟨hr, t, ht, rfl⟩ | ⟨hr, rfl⟩, hb1⟩
  · have HZ := Lib.hid (And.intro (below_more (below_more HB.out.1 hb1) (Below.new w1 (.cells #[.int .i64 m, .slice ao len cap, .int .i64 (t : Int)] 45))) (show b = t by rw [← HB.out.2, usedR, if_pos hr, ht]))
    clear hb1 hr ht
    go_wp2
    go_ret
    exact ⟨by rw [HZ.out.2]; rfl, HZ.out.1⟩
  · have HZ := Lib.hid (And.intro (below_more (below_more HB.out.1 hb1) (Below.new w1 (.cells #[.int .i64 0, .slice none 0 0, .int .i64 0] 45))) (show b = 0 by rw [← HB.out.2, usedR, hr]; rfl))
    clear hb1 hr
    go_wp2
    go_ret
    exact ⟨by rw [HZ.out.2]; rfl, HZ.out.1⟩

set_option maxRecDepth 100000 in
set_option maxHeartbeats 4000000 in
theorem All_p {s : Sn} {m : Int} {ao bo : Option Addr} {len cap kl kc : Nat} {zs ys : List It} {pm : Int} {pl : List It} {pn pe k : Nat} (hreach : len ≤ 1000000) (hsum : takes zs ≤ 1000000) (hr2 : kl ≤ 1000000) (hs2 : takes ys ≤ 900000) (hpm : allM m zs = pm) (hpl : allL m zs ys = pl) (hpn : allN m zs ys = pn) (hpe : allE m zs = pe) (hk : pl.length = k) {w : World} (hL : Txs w ao len cap zs) (hM : Txs w bo kl kc ys) (hs : Sent s w) :
    Calls Tryd.prog 24 #[.agg #[.int .i64 m, .slice ao len cap], .slice bo kl kc] w (TellA pm pl k pn (errN pe) w) := by
  have hB1 := Below.new w (.cells #[.int .i64 m, .slice ao len cap] 24)
  have hB2 := below_more hB1 (Below.new _ (.cells #[.int .i64 0, .slice none 0 0] 24))
  have r1 := (R2.new w (.int .i64 m) (.slice ao len cap) 24).more (Below.new _ (.cells #[.int .i64 0, .slice none 0 0] 24))
  have r2 := R2.new (w.alloc (.cells #[.int .i64 m, .slice ao len cap] 24)) (.int .i64 0) (.slice none 0 0) 24
  rw [World.size_alloc] at r2
  obtain ⟨W0, hW0⟩ : ∃ W0, (w.alloc (.cells #[.int .i64 m, .slice ao len cap] 24)).alloc (.cells #[.int .i64 0, .slice none 0 0] 24) = W0 := ⟨_, rfl⟩
  rw [hW0] at hB2 r1 r2
  have hf : ∀ y ∈ pl, y.length ≤ 9223372036854775807 := by
    intro y hy
    rw [← hpl] at hy
    unfold allL at hy
    split at hy
    · rcases List.mem_append.1 hy with h | h
      · exact hL.hfits y h
      · exact hM.hfits y (List.mem_of_mem_take h)
    · cases hy
  have HP := Lib.hid (open_any s m ao len cap zs hreach hsum W0 (hL.more hB2) (hs.more hB2))
  have HX := Lib.hid (And.intro (hs.more hB2) (And.intro r2 (And.intro hB2 (And.intro hf (And.intro hk (And.intro (hL.more hB2) (hM.more hB2)))))))
  have HW := Lib.hid (And.intro hpm (And.intro hpl (And.intro hpn hpe)))
  have hkl := hM.hlen
  have hkc := hM.hle
  have hzl := hL.hlen
  obtain ⟨c0, c1, _, _⟩ := r1
  clear hB1 hB2 r2 hL hs hM hpm hpl hpe hpn hf hk
  go_enter Tryd.func24, Tryd.ntmps24
  go_wp2_with (go_at_call 27; refine HP.out.mono ?_)
  rintro e w1 ⟨⟨hr, t, ht, rfl⟩ | ⟨hr, rfl⟩, hb1⟩
  · obtain ⟨hm0, hm1, _, hm2⟩ := rightR_iff.1 hr
    have hN1 := Below.new w1 (.cells #[.int .i64 m, .slice ao len cap, .int .i64 (t : Int)] 45)
    have q := R3.new w1 (.int .i64 m) (.slice ao len cap) (.int .i64 (t : Int)) 45
    have b2 := below_more hb1 hN1
    obtain ⟨h1, h2, h3, h4⟩ := HW.out
    unfold allM at h1
    unfold allL at h2
    unfold allN at h3
    unfold allE at h4
    rw [if_pos hr] at h1 h2 h3 h4
    rw [← ht] at h2 h3 hm2
    subst h1 h4
    have hpk : pn ≤ kl := by rw [← h3, ← hkl]; exact roomN_le _ _ _
    obtain ⟨W2, hW2⟩ : ∃ W2, w1.alloc (.cells #[.int .i64 m, .slice ao len cap, .int .i64 (t : Int)] 45) = W2 := ⟨_, rfl⟩
    rw [hW2] at hN1 q b2
    have HC := callsIn_wide.1 (room_in 3 (Nat.le_refl _) s m t (.slice ao len cap) rfl bo kl kc ys hr2 (by omega) W2 (HX.out.2.2.2.2.2.2.more b2) (HX.out.1.more b2))
    have HC := Lib.hid HC
    have hQ : w.heap.size + 1 ≠ w1.heap.size := by have := (HX.out.2.1.more hb1).lt; omega
    have HY := Lib.hid (And.intro q (And.intro b2 (And.intro h2 h3)))
    obtain ⟨q0, q1, q2, _, _, _⟩ := id q
    clear hb1 hr ht h2 h3 b2 hN1 q
    go_wp2_with (go_at_call 34; refine HC.out.mono ?_)
    rintro e w2 ⟨v, tt, _, _, rfl, hb2⟩
    rw [HY.out.2.2.2]
    have b3 := below_more HY.out.2.1 hb2
    have hD : Below w2.heap.size w2 w2.drew := (Below.refl _ w2).drew
    have b4 := below_more b3 hD
    have L3 := HX.out.2.2.2.2.2.1.more b4
    have M3 := (HX.out.2.2.2.2.2.2.more b4).take pn pn hpk (Nat.le_refl _) (by omega)
    have R3' := HX.out.2.1.more b4
    have B3 := below_more HX.out.2.2.1 b4
    have q3 := HY.out.1.more hb2
    have x0 := cell_later hD q3.c0
    have x1 := cell_later hD q3.c1
    have x2 := cell_later hD q3.c2
    obtain ⟨q0, q1, q2, _, _, _⟩ := q3
    have sl := slice_hm bo kl kc pn (by omega)
    have hp6 : pn ≤ 1000000 := by omega
    have HD := Lib.hid (with_any m ao bo len cap pn pn zs (ys.take pn) (.int .i64 (t : Int)) rfl hreach hp6 w2.drew L3 M3)
    have HZ := Lib.hid (And.intro R3' B3)
    clear hb2 b3 b4 L3 M3 R3' B3 hD
    go_wp2
    go_region_held3 (fun w' => w'.cell? ⟨w1.heap.size, 0, none⟩ = some (.int .i64 m) ∧ w'.cell? ⟨w1.heap.size, 1, none⟩ = some (.slice ao len cap) ∧ w'.cell? ⟨w1.heap.size, 2, none⟩ = some (.int .i64 (t : Int)))
      (first | (simp only [World.cell?_drew, q0, q1, q2, and_self]; done) | (with_reducible exact ⟨cell_later hb x0, cell_later hb x1, cell_later hb x2⟩) | (with_reducible exact ⟨set2O (cell_later hb x0) hQ, set2O (cell_later hb x1) hQ, set2O (cell_later hb x2) hQ⟩))
      (first | (go_at_call 35; ((with_reducible refine HD.out.mono ?_); rintro e w3 ⟨va, vc, rfl, hO, hb⟩; obtain ⟨d0, d1, f0, f1⟩ := HZ.out.1.more hb)))
    have hlen : len + pn = k := by
      rw [← HX.out.2.2.2.2.1, ← HY.out.2.2.1, List.length_append, List.length_take, hzl, hkl, HY.out.2.2.2]
      omega
    rw [HY.out.2.2.2] at HY
    have hpl2 : zs ++ ys.take pn = pl := HY.out.2.2.1
    rw [hpl2, hlen] at hO
    rw [hlen] at *
    obtain ⟨y0, y1, _, _⟩ := R2.set ⟨d0, d1, f0, f1⟩ (.int .i64 m) (.slice va k vc)
    have hz : w2.drew.heap.size = w2.heap.size := rfl
    have hlt := HZ.out.1.lt
    have hs0 := HZ.out.2.size
    have HB3 := Lib.hid (set2B (below_more HZ.out.2 hb) (b := w.heap.size + 1) (by omega) (.int .i64 m) (.slice va k vc))
    have HO := Lib.hid (((hO.set1 (b := w.heap.size + 1) (i := 0) (x := .int .i64 m) (by omega)).set1 (b := w.heap.size + 1) (i := 1) (x := .slice va k vc) (by omega)).mono (n1 := w.heap.size) (by omega))
    clear hO hb hlt hs0
    go_wp2
    generalize hWF : ((w3.setCell ⟨w.heap.size + 1, 0, none⟩ (.int .i64 m)).setCell ⟨w.heap.size + 1, 1, none⟩ (.slice va k vc)) = WF at y0 y1 HB3 HO ⊢
    refine bodyPost_ret (v := .tuple #[.agg #[.int .i64 m, .slice va k vc], .int .i64 (pn : Int), .int .i64 0]) (by simp [results, Tryd.results24, go_sem, y0, y1]) rfl ?_
    exact ⟨va, vc, rfl, ⟨HO.out.txs HX.out.2.2.2.2.1 HX.out.2.2.2.1, HO.out⟩, HB3.out⟩
  · obtain ⟨h1, h2, h3, h4⟩ := HW.out
    unfold allM at h1
    unfold allL at h2
    unfold allN at h3
    unfold allE at h4
    rw [hr] at h1 h2 h3 h4
    simp only [Bool.false_eq_true, if_false] at h1 h2 h3 h4
    subst h1 h2 h3 h4
    have hk0 := HX.out.2.2.2.2.1
    obtain rfl : 0 = k := hk0
    have qq := neq_err s.w
    have hN1 := Below.new w1 (.cells #[.int .i64 0, .slice none 0 0, .int .i64 0] 45)
    have b2 := below_more hb1 hN1
    have HT := Lib.hid (told_any s (.wrong) _ (HX.out.1.more b2))
    obtain ⟨d0, d1, f0, f1⟩ := HX.out.2.1.more b2
    obtain ⟨y0, y1, _, _⟩ := (HX.out.2.1.more b2).set (.int .i64 0) (.slice none 0 0)
    have hlt := HX.out.2.1.lt
    have HB3 := Lib.hid (set2B (below_more HX.out.2.2.1 b2) (b := w.heap.size + 1) (by omega) (.int .i64 0) (.slice none 0 0))
    clear hb1 hr b2 hN1 hlt
    go_wp2_with (go_at_call 28; refine HT.out.mono ?_; rintro e w3 ⟨rfl, rfl⟩)
    generalize hWF : (((w1.alloc (.cells #[.int .i64 0, .slice none 0 0, .int .i64 0] 45)).setCell ⟨w.heap.size + 1, 0, none⟩ (.int .i64 0)).setCell ⟨w.heap.size + 1, 1, none⟩ (.slice none 0 0)) = WF at y0 y1 HB3 ⊢
    refine bodyPost_ret (v := .tuple #[.agg #[.int .i64 0, .slice none 0 0], .int .i64 0, .int .i64 (errN 1)]) (by simp [results, Tryd.results24, go_sem, y0, y1]) rfl ?_
    exact ⟨none, 0, rfl, ⟨Txs.nil _, OwnT.nil _ _⟩, HB3.out⟩

end Go.Proofs.YtbdhagilmdmpdaaDoor
