/- New. -/
import Derived.Test.YtjfooblnpkckfaaDoorSlAll
namespace Go.Proofs.Slt

/-- So many slots, all free, as they are at first. -/
def fresh (n : Nat) : St := List.replicate n (0, false)
theorem fresh_succ (n : Nat) : fresh (n + 1) = fresh n ++ [(0, false)] := by simp [fresh, List.replicate_succ']
theorem fresh_length (n : Nat) : (fresh n).length = n := by simp [fresh]
theorem fresh_get {n i : Nat} (h : i < n) : (fresh n)[i]? = some (0, false) := by simp [fresh, h]
theorem fresh_all (n : Nat) : allR (fresh n) = [] := by
  apply List.eq_nil_of_length_eq_zero
  rw [allR_count]
  simp [fresh]
theorem FreeOk.zero : FreeOk (fresh 0) [] := ⟨fun k _ h => by simp at h, List.nodup_nil, fun x => Iff.intro (fun h => by cases h) (by rintro ⟨i, _, g, h, _⟩; simp [fresh] at h)⟩
theorem FreeOk.new {k : Nat} {l l' : List Int} (h : FreeOk (fresh k) l) (hp : l'.Perm (l ++ [(k : Int)])) (hr : Hp l' l'.length) : FreeOk (fresh (k + 1)) l' := by
  have hm : ∀ x : Int, x ∈ l ↔ ∃ i : Nat, x = i ∧ i < k := fun x => by
    rw [h.mem]
    constructor
    · rintro ⟨i, rfl, g, hg, _⟩
      have := (List.getElem?_eq_some_iff.1 hg).1
      rw [fresh_length] at this
      exact ⟨i, rfl, this⟩
    · rintro ⟨i, rfl, hi⟩
      exact ⟨i, rfl, 0, fresh_get hi, by omega⟩
  refine ⟨hr, hp.symm.nodup ?_, fun x => ?_⟩
  · rw [List.nodup_append]
    refine ⟨h.nd, by simp, fun a ha b hb e => ?_⟩
    obtain ⟨i, hi, hk⟩ := (hm a).1 ha
    rw [List.mem_singleton.1 hb] at e
    omega
  · rw [hp.mem_iff, List.mem_append, hm, List.mem_singleton]
    constructor
    · rintro (⟨i, rfl, hi⟩ | rfl)
      · exact ⟨i, rfl, 0, fresh_get (by omega), by omega⟩
      · exact ⟨k, rfl, 0, fresh_get (by omega), by omega⟩
    · rintro ⟨i, rfl, g, hg, _⟩
      have := (List.getElem?_eq_some_iff.1 hg).1
      rw [fresh_length] at this
      by_cases e : i = k
      · exact .inr (by rw [e])
      · exact .inl ⟨i, rfl, by omega⟩

end Go.Proofs.Slt
namespace Go.Proofs.YtjfooblnpkckfaaDoor
open Go.RowKit Go.Proofs.Slt Go.Shelf

theorem SlF.mono {n0 n1 : Nat} {W : World} {p : Pl} {st : St} {fr : List Int} (h : SlF n0 W p st fr) (hn : n1 ≤ n0) : SlF n1 W p st fr :=
  ⟨h.obj, World.ownsRow.mono h.rs hn, World.ownsRow.mono h.row hn, h.free, h.room, h.few, h.gen, Nat.le_trans hn h.base⟩
theorem Sl.mono {n0 n1 : Nat} {W : World} {p : Pl} {st : St} (h : Sl n0 W p st) (hn : n1 ≤ n0) : Sl n1 W p st := by
  obtain ⟨fr, h⟩ := h
  exact ⟨fr, h.mono hn⟩

/-- A slot put in behind the others, in memory. -/
theorem new_step {n0 S k : Nat} {v1 v2 v' u : Value} {l : List Int} {xs ys : List Value} {w w5 : World} {tmp : Obj} (hS : n0 ≤ S) (hn : n0 ≤ w.heap.size) (ho : Obj3 w S v1 v2 u) (h1 : w.ownsRow n0 59 3 v1 k xs) (h2 : RowV n0 w v2 l)
    (hown : w5.ownsRow n0 59 3 v' (k + 1) ys) (hg : (w.alloc tmp).grownBy w5 v1.ownBlock) :
    Obj3 w5 S v1 v2 u ∧ Obj3 (w5.setCell ⟨S, 0, none⟩ v') S v' v2 u ∧ (w5.setCell ⟨S, 0, none⟩ v').ownsRow n0 59 3 v' (k + 1) ys ∧ RowV n0 (w5.setCell ⟨S, 0, none⟩ v') v2 l ∧ Below n0 w (w5.setCell ⟨S, 0, none⟩ v') := by
  have t1 : ∀ k, v1.ownBlock = some k → ∃ cur, w.heap[k]? = some (.cells cur 59 (0, 0)) := fun k hk => by
    rcases h1.2 with ⟨rfl, _⟩ | ⟨g, cap, cur, rfl, _, hgb, _⟩
    · cases hk
    · cases hk; exact ⟨cur, hgb⟩
  have hSn : v1.ownBlock ≠ some S := fun e => by
    obtain ⟨cur, hc⟩ := t1 S e
    rw [show w.heap[S]? = _ from ho] at hc
    cases hc
  have o5 : Obj3 w5 S v1 v2 u := ((hg.block S (by have := ho.lt; simp; omega) (fun e => hSn e.symm)).trans (Below.heap_alloc _ _ _ ho.lt)).trans ho
  have r5 : RowV n0 w5 v2 l := by
    refine World.ownsRow.kept (World.ownsRow.alloc h2 tmp) hg ?_
    rcases h2.2 with ⟨rfl, _⟩ | ⟨g, cap, cur, rfl, _, hgb, _⟩
    · exact .inl rfl
    · refine .inr fun e => ?_
      obtain ⟨cur', hc⟩ := t1 g (by rw [← e]; rfl)
      rw [hgb] at hc
      cases hc
  refine ⟨o5, o5.set0 v', ?_, ?_, ?_⟩
  · refine hown.kept (World.grownBy.mk rfl rfl rfl (by simp [World.setCell]) (fun k _ hk => Below.heap_setCell _ _ _ _ (fun e => hk (by rw [e])))) (row := some S) (.inr fun e => ?_)
    rcases hown.2 with ⟨rfl, _⟩ | ⟨g, cap, cur, rfl, _, hgb, _⟩
    · cases e
    · obtain rfl : g = S := by simpa [Value.ownBlock] using e
      rw [show w5.heap[g]? = _ from o5] at hgb
      cases hgb
  · refine World.ownsRow.kept r5 (World.grownBy.mk rfl rfl rfl (by simp [World.setCell]) (fun k _ hk => Below.heap_setCell _ _ _ _ (fun e => hk (by rw [e])))) (row := some S) (.inr fun e => ?_)
    exact ob_ne r5 o5 e
  · exact (((Below.refl n0 w).alloc hn tmp).grown hg (by simp; omega) (fun k e => (World.ownsRow.lt h1 k e).1)).setCell (p := ⟨S, 0, none⟩) hS v'

theorem slot_new (W : World) (k : Nat) : ∀ j u, [Value.int .i64 k, .int .i64 0, .bool false][j]? = some u → (W.alloc (.cells #[.int .i64 k, .int .i64 0, .bool false] 59)).cell? ((⟨W.heap.size, 0, none⟩ : Addr).add j) = some u := by
  intro j u hu
  match j, hu with
  | 0, hu => simp at hu; subst hu; simp [Addr.add]
  | 1, hu => simp at hu; subst hu; simp [Addr.add]
  | 2, hu => simp at hu; subst hu; simp [Addr.add]
theorem rowK_slice {w : World} {base e size n : Nat} {v : Value} {xs : List Value} (h : w.ownsRow base e size v n xs) : ∃ a cap, v = .slice a n cap := by
  rcases h.2 with ⟨rfl, rfl⟩ | ⟨g, cap, cur, rfl, _⟩
  · exact ⟨none, 0, rfl⟩
  · exact ⟨_, cap, rfl⟩

/-- New's word between two rounds. -/
structure NewI (w : World) (k : Nat) (wr : World) (v1 v2 : Value) (l : List Int) : Prop where
  obj : Obj3 wr w.heap.size v1 v2 (.int .i64 0)
  rs : wr.ownsRow w.heap.size 59 3 v1 k (sc 0 (fresh k))
  row : RowV w.heap.size wr v2 l
  free : FreeOk (fresh k) l
  len : l.length = k
  below : Below w.heap.size w wr
def NewJ (w : World) (k : Nat) (wr : World) : Prop := ∃ v1 v2 l, NewI w k wr v1 v2 l
/-- What New tells. -/
def NewPost (n : Nat) (w : World) (e : Ending) (w' : World) : Prop := ∃ p : Pl, e = .returned (.tuple #[.pointer (some ⟨p.S, 0, none⟩), .int .i64 0]) ∧ Sl w.heap.size w' p (fresh n) ∧ Below w.heap.size w w'

set_option maxHeartbeats 1000000 in
theorem New_bad (n : Int) (w : World) (h : n < 1 ∨ 64 < n) : Calls Tryd.prog 10 #[.int .i64 n] w fun e w' => e = .returned (.tuple #[.pointer none, .int .i64 2]) ∧ w = w' := by
  by_cases h1 : n < 1
  · clear h
    go_enter Tryd.func10, Tryd.ntmps10
    go_wp2
    go_ret2
    exact ⟨rfl, rfl⟩
  · have h2 : 64 < n := by omega
    clear h
    go_enter Tryd.func10, Tryd.ntmps10
    go_wp2
    go_ret2
    exact ⟨rfl, rfl⟩

set_option maxRecDepth 100000 in
set_option maxHeartbeats 2000000 in
theorem New_ok (n : Nat) (w : World) (h1 : 1 ≤ n) (h2 : n ≤ 64) : Calls Tryd.prog 10 #[.int .i64 n] w (NewPost n w) := by
  obtain ⟨i0, hi, hz0, hz1, hz2⟩ := info_parts infoSlot
  go_enter Tryd.func10, Tryd.ntmps10
  go_wp2
  go_loopw [15] (fun v wr => ∃ (k : Nat), k ≤ n ∧ v = .int .i64 k ∧ Hid (NewJ w k wr)) (fun v _ => n - (intOf v).toNat)
  case atStart =>
    exact ⟨0, by omega, rfl, _, _, [], World.alloc_heap_new w _, World.ownsRow_nil _ _ _ _, World.ownsRow_nil _ _ _ _, FreeOk.zero, rfl, Below.new _ _⟩
  case round =>
    obtain ⟨k, hk, rfl, HJ⟩ := hrel
    obtain ⟨v1, v2, l, HI'⟩ := HJ.out
    have HI := Lib.hid HI'
    have hsz := HI'.below.size
    have c0 := HI'.obj.c0
    obtain ⟨a1, cc1, rfl⟩ := rowK_slice HI'.rs
    have hrow := HI'.rs.alloc (.cells #[.int .i64 k, .int .i64 0, .bool false] 59)
    have HN := Lib.hid (slot_new wr k)
    clear HI'
    by_cases hlt : k < n
    · go_wp2_with (at_builtin; go_loud (refine wpList_append_own _ rfl _ _ 47 rfl w.heap.size 59 i0 (.agg #[.int .i64 0, .int .i64 0, .bool false]) 3 24 Tryd.underlying47 hi hz0 hz1 hz2 rfl (by decide) (.slice a1 k cc1) k (sc 0 (fresh k)) rfl hrow ⟨wr.heap.size, 0, none⟩ 1 1 [.int .i64 k, .int .i64 0, .bool false] rfl rfl HN.out (by simp [Value.oneCell']) (by unfold maxLen; omega) (by omega) (by simp; omega) ?_; intro v' w5 hown' hgrow _; obtain ⟨g1, c1, rfl⟩ := ownsRow_succ hown'; obtain ⟨hq1, hq2⟩ := new_step (Nat.le_refl _) hsz HI.out.obj HI.out.rs HI.out.row hown' hgrow; have hc5 := hq1.c0; have hf5 := hq1.fz 0; have HQ := Lib.hid hq2; clear hq1 hq2))
      obtain ⟨W5, hW5⟩ : ∃ W5, w5.setCell ⟨w.heap.size, 0, none⟩ (.slice (some ⟨g1, 0, none⟩) (k + 1) c1) = W5 := ⟨_, rfl⟩
      rw [hW5] at HQ ⊢
      clear hown' hgrow hc5 hf5 hW5 c0 hrow
      go_wp2_with (go_at_call 22; go_loud (refine (add_any w.heap.size w.heap.size v2 l k _ _ W5 (by rw [HI.out.len]; omega) (Nat.le_trans hsz HQ.out.2.2.2.size) (Nat.le_refl _) HQ.out.1 HQ.out.2.2.1 HI.out.free.hp).mono ?_))
      rintro e W6 ⟨⟨v6, rfl⟩, hA⟩
      have HA := Lib.hid hA
      clear hA
      go_wp2
      go_roundw
      case rel =>
        refine ⟨k + 1, by omega, by simp, ?_⟩
        obtain ⟨g', c', l', p1, p2, p3, p4, p5, _⟩ := HA.out
        have hrs : Rs w.heap.size W5 g1 c1 (fresh (k + 1)) := by
          unfold Rs
          rw [fresh_length, fresh_succ, sc_append, fresh_length]
          simpa [sc] using HQ.out.2.1
        obtain ⟨_, _, _, cur, hcur⟩ := hrs.at
        have hne : g1 ≠ w.heap.size := fun e => by
          rw [e, show W5.heap[w.heap.size]? = _ from HQ.out.1] at hcur
          cases hcur
        have hrs6 := hrs.of_block ((p5 g1 cur _ _ hne (by decide) hcur).trans hcur.symm)
        unfold Rs at hrs6
        rw [fresh_length] at hrs6
        have hl' : l'.length = k + 1 := by rw [p1.length_eq, List.length_append, HI.out.len]; rfl
        exact ⟨_, _, l', p3.1, hrs6, p3.2, HI.out.free.new p1 p2, hl', (HI.out.below.trans HQ.out.2.2.2).trans p4⟩
      case measure => simp [intOf]; omega
    · obtain rfl : k = n := by omega
      go_wp2
      go_ret2
      obtain ⟨m, hm⟩ : ∃ m, k = m + 1 := ⟨k - 1, by omega⟩
      have hI := HI.out
      have hrs := hI.rs
      have hrw := hI.row
      have hob := hI.obj
      have hln := hI.len
      rcases hrs.2 with ⟨_, h0⟩ | ⟨g1, c1, cur1, e1, _⟩
      · omega
      rcases hrw.2 with ⟨_, h0⟩ | ⟨g2, c2, cur2, e2, _⟩
      · omega
      rw [e1] at hrs hob
      rw [e2] at hrw hob
      have hr1 : Rs w.heap.size wr g1 c1 (fresh k) := by unfold Rs; rw [fresh_length]; exact hrs
      have hr2 : Row w.heap.size wr g2 c2 l := hrw
      refine ⟨⟨w.heap.size, g1, c1, g2, c2⟩, rfl, ⟨l, ?_, hr1, hr2, hI.free, ?_, ?_, ?_, Nat.le_refl _⟩, hI.below⟩
      · rw [fresh_length, fresh_all]
        exact hob
      · rw [fresh_length]
        have := hr2.at.2.1
        show k ≤ c2
        omega
      · rw [fresh_length]; exact h2
      · intro i g b hg
        have hlt := (List.getElem?_eq_some_iff.1 hg).1
        rw [fresh_length] at hlt
        rw [fresh_get hlt] at hg
        cases hg
        omega

end Go.Proofs.YtjfooblnpkckfaaDoor
