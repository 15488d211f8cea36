/- climb: as far as one may. -/
import Derived.Test.YtciohfeifihobaaDoorCeIter
import Derived.TacticsInMore
namespace Go.Proofs.YtciohfeifihobaaDoor
open Go.RowKit Go.Proofs.Cats Go.Proofs.Cel Go.Shelf Go.Sort

attribute [local go_sem] Oper.semAt_some

theorem boxed_oth {W : World} {b b' o : Nat} {t : TypeId} {v x : Value} (h : Boxed W b t v) (hne : b ≠ b') : Boxed (W.setCell ⟨b', o, none⟩ x) b t v := (Below.heap_setCell _ _ _ _ (fun e => hne e)).trans h
theorem boxed_oth3 {W : World} {b b' : Nat} {t : TypeId} {v x y z : Value} (h : Boxed W b t v) (hne : b ≠ b') : Boxed (((W.setCell ⟨b', 0, none⟩ x).setCell ⟨b', 1, none⟩ y).setCell ⟨b', 2, none⟩ z) b t v := boxed_oth (boxed_oth (boxed_oth h hne) hne) hne
/-- climb's variables: the answer's room, where one is, how many, what stopped one. -/
structure ClB (m : Nat) (W : World) (x : Lab) (k : Nat) (v : Value) : Prop where
  r : BoxF W (m + 1) Lab.zero
  a : BoxF W (m + 1 + 1) x
  d : Boxed W (m + 1 + 1 + 1) 3 (.int .i64 (k : Int))
  e : Boxed W (m + 1 + 1 + 1 + 1) 44 v
theorem ClB.low {m n : Nat} {A B : World} {x : Lab} {k : Nat} {v : Value} (h : ClB m A x k v) (hb : Below n A B) (hn : m + 5 ≤ n) : ClB m B x k v :=
  ⟨h.r.eq (hb.block _ (by omega)), h.a.eq (hb.block _ (by omega)), (hb.block _ (by omega)).trans h.d, (hb.block _ (by omega)).trans h.e⟩
/-- climb between two rounds. -/
def ClI (cur : Lab) (w : World) (pre : List (Lab × Bool)) (W : World) : Prop := ((∀ y ∈ pre, y.2 = true) ∧ ClB w.heap.size W (atL cur pre) pre.length .nilIface ∧ w.heap.size + 7 ≤ W.heap.size) ∧ Below w.heap.size w W
/-- .. when a round has left. -/
def ClX (s : Sn) (cur : Lab) (w : World) (c : Code) (pre : List (Lab × Bool)) (W : World) : Prop :=
  (c = .exit 0 ∧ ∃ q x, pre = q ++ [(x, false)] ∧ (∀ y ∈ q, y.2 = true) ∧ ClB w.heap.size W (atL cur q) q.length (stopV (atL cur q) q.length s.a)) ∧ Below w.heap.size w W
theorem ClI.ab {cur : Lab} {w : World} : AbB (w.heap.size + 7) (ClI cur w) := by
  rintro pre A B ⟨⟨h1, h2, h3⟩, h4⟩ hb
  exact ⟨⟨h1, h2.low hb (by omega), Nat.le_trans h3 hb.size⟩, h4.trans (hb.mono (by omega))⟩
theorem ClX.ab {s : Sn} {cur : Lab} {w : World} (c : Code) : AbB (w.heap.size + 7) (ClX s cur w c) := by
  rintro pre A B ⟨⟨h1, q, x, h2, h3, h4⟩, h5⟩ hb
  exact ⟨⟨h1, q, x, h2, h3, h4.low hb (by omega)⟩, h5.trans (hb.mono (by omega))⟩
/-- What climb tells: the label, and none or what stopped one. -/
def ClP (s : Sn) (c : Int) (k : Nat) (x : Lab) (w : World) (e : Ending) (w' : World) : Prop := e = .returned (.tuple #[.agg #[.int .i64 x.l, .int .u64 x.c, .int .i64 x.i], if c = 0 then .nilIface else stopV x k s.a]) ∧ Below w.heap.size w w'
theorem pathGo_two {high : Lab} {cur : Lab} {l : List Lab} {k : Nat} {c : Int} {m : Nat} {x : Lab} (h : pathGo high cur k l = (c, m, x)) : c = 0 ∨ c = 120 := by
  induction l generalizing cur k with
  | nil => exact .inl (Prod.mk.inj h).1.symm
  | cons a r ih =>
    cases e : (cur.join a).under high with
    | true => rw [pathGo_step e] at h; exact ih h
    | false => rw [pathGo_stop e] at h; exact .inr (Prod.mk.inj h).1.symm

/-- What climb's last region holds. -/
structure ClS (w : World) (x : Lab) (v : Value) (W : World) : Prop where
  a : W.cell? ⟨w.heap.size + 1 + 1, 0, none⟩ = some (.int .i64 x.l) ∧ W.cell? ⟨w.heap.size + 1 + 1, 1, none⟩ = some (.int .u64 x.c) ∧ W.cell? ⟨w.heap.size + 1 + 1, 2, none⟩ = some (.int .i64 x.i)
  e : W.cell? ⟨w.heap.size + 1 + 1 + 1 + 1, 0, none⟩ = some v
theorem ClS.set {w : World} {x : Lab} {y : Value} {A : World} {u v t : Value} (h : ClS w x y A) : ClS w x y (((A.setCell ⟨w.heap.size + 1, 0, none⟩ u).setCell ⟨w.heap.size + 1, 1, none⟩ v).setCell ⟨w.heap.size + 1, 2, none⟩ t) :=
  ⟨⟨set3_other h.a.1 (by omega), set3_other h.a.2.1 (by omega), set3_other h.a.2.2 (by omega)⟩, set3_other h.e (by omega)⟩
set_option maxRecDepth 100000 in
set_option maxHeartbeats 4000000 in
theorem climb_in (n : Nat) (hn : 3 ≤ n) {s : Sn} {cur high x : Lab} {zs : List Lab} {ao : Option Addr} {len cap : Nat} {c : Int} {m : Nat} (w : World) (hc : cur.fits) (hh : high.fits) (hcr : cur.right = true) (hzr : zs.all Lab.right = true) (hz : zs.length ≤ 1000)
    (hI : Labs w.heap.size w (.slice ao len cap) zs) (hp : pathGo high cur 0 zs = (c, m, x)) (hs : Ce w) (hS : Sent s w) :
    CallsIn Fence.wide n Tryd.prog 45 #[.agg #[.int .i64 cur.l, .int .u64 cur.c, .int .i64 cur.i, .int .i64 high.l, .int .u64 high.c, .int .i64 high.i], .slice ao len cap] w (ClP s c m x w) := by
  have hn1 : 1 ≤ n := by omega
  refine callsIn_of_wp_marks Tryd.func45 rfl trivial ?_ rfl
  simp only [Tryd.ntmps45, List.size_toArray, List.length_cons, List.length_nil, Nat.reduceAdd, Nat.reduceSub, Array.replicate_succ, Array.replicate_zero, List.push_toArray, List.append_toArray, List.nil_append, List.cons_append]
  have hB : Below w.heap.size w (((((((w.alloc (.cells #[.int .i64 cur.l, .int .u64 cur.c, .int .i64 cur.i, .int .i64 high.l, .int .u64 high.c, .int .i64 high.i] 47)).alloc (.cells #[.int .i64 0, .int .u64 0, .int .i64 0] 42)).alloc (.cells #[.int .i64 cur.l, .int .u64 cur.c, .int .i64 cur.i] 42)).alloc (.cells #[.int .i64 0] 3)).alloc (.cells #[.nilIface] 44)).alloc (.cells #[.int .i64 cur.l, .int .u64 cur.c, .int .i64 cur.i, .int .i64 high.l, .int .u64 high.c, .int .i64 high.i] 47)).alloc (.cells #[.slice ao len cap] 34)) := ((((((Below.new w _).alloc (by simp) _).alloc (by simp; omega) _).alloc (by simp; omega) _).alloc (by simp; omega) _).alloc (by simp; omega) _).alloc (by simp; omega) _
  have hr : BoxF (((((((w.alloc (.cells #[.int .i64 cur.l, .int .u64 cur.c, .int .i64 cur.i, .int .i64 high.l, .int .u64 high.c, .int .i64 high.i] 47)).alloc (.cells #[.int .i64 0, .int .u64 0, .int .i64 0] 42)).alloc (.cells #[.int .i64 cur.l, .int .u64 cur.c, .int .i64 cur.i] 42)).alloc (.cells #[.int .i64 0] 3)).alloc (.cells #[.nilIface] 44)).alloc (.cells #[.int .i64 cur.l, .int .u64 cur.c, .int .i64 cur.i, .int .i64 high.l, .int .u64 high.c, .int .i64 high.i] 47)).alloc (.cells #[.slice ao len cap] 34)) (w.heap.size + 1) Lab.zero := by
    have h := (((((boxF_zero (w.alloc (.cells #[.int .i64 cur.l, .int .u64 cur.c, .int .i64 cur.i, .int .i64 high.l, .int .u64 high.c, .int .i64 high.i] 47))).more (Below.new _ (.cells #[.int .i64 cur.l, .int .u64 cur.c, .int .i64 cur.i] 42))).more (Below.new _ (.cells #[.int .i64 0] 3))).more (Below.new _ (.cells #[.nilIface] 44))).more (Below.new _ (.cells #[.int .i64 cur.l, .int .u64 cur.c, .int .i64 cur.i, .int .i64 high.l, .int .u64 high.c, .int .i64 high.i] 47))).more (Below.new _ (.cells #[.slice ao len cap] 34))
    simpa only [World.size_alloc] using h
  have ha : BoxF (((((((w.alloc (.cells #[.int .i64 cur.l, .int .u64 cur.c, .int .i64 cur.i, .int .i64 high.l, .int .u64 high.c, .int .i64 high.i] 47)).alloc (.cells #[.int .i64 0, .int .u64 0, .int .i64 0] 42)).alloc (.cells #[.int .i64 cur.l, .int .u64 cur.c, .int .i64 cur.i] 42)).alloc (.cells #[.int .i64 0] 3)).alloc (.cells #[.nilIface] 44)).alloc (.cells #[.int .i64 cur.l, .int .u64 cur.c, .int .i64 cur.i, .int .i64 high.l, .int .u64 high.c, .int .i64 high.i] 47)).alloc (.cells #[.slice ao len cap] 34)) (w.heap.size + 1 + 1) cur := by
    have h := ((((BoxF.new ((w.alloc (.cells #[.int .i64 cur.l, .int .u64 cur.c, .int .i64 cur.i, .int .i64 high.l, .int .u64 high.c, .int .i64 high.i] 47)).alloc (.cells #[.int .i64 0, .int .u64 0, .int .i64 0] 42)) cur).more (Below.new _ (.cells #[.int .i64 0] 3))).more (Below.new _ (.cells #[.nilIface] 44))).more (Below.new _ (.cells #[.int .i64 cur.l, .int .u64 cur.c, .int .i64 cur.i, .int .i64 high.l, .int .u64 high.c, .int .i64 high.i] 47))).more (Below.new _ (.cells #[.slice ao len cap] 34))
    simpa only [World.size_alloc] using h
  have hd : Boxed (((((((w.alloc (.cells #[.int .i64 cur.l, .int .u64 cur.c, .int .i64 cur.i, .int .i64 high.l, .int .u64 high.c, .int .i64 high.i] 47)).alloc (.cells #[.int .i64 0, .int .u64 0, .int .i64 0] 42)).alloc (.cells #[.int .i64 cur.l, .int .u64 cur.c, .int .i64 cur.i] 42)).alloc (.cells #[.int .i64 0] 3)).alloc (.cells #[.nilIface] 44)).alloc (.cells #[.int .i64 cur.l, .int .u64 cur.c, .int .i64 cur.i, .int .i64 high.l, .int .u64 high.c, .int .i64 high.i] 47)).alloc (.cells #[.slice ao len cap] 34)) (w.heap.size + 1 + 1 + 1) 3 (.int .i64 0) := by
    have h := (((Boxed.new (((w.alloc (.cells #[.int .i64 cur.l, .int .u64 cur.c, .int .i64 cur.i, .int .i64 high.l, .int .u64 high.c, .int .i64 high.i] 47)).alloc (.cells #[.int .i64 0, .int .u64 0, .int .i64 0] 42)).alloc (.cells #[.int .i64 cur.l, .int .u64 cur.c, .int .i64 cur.i] 42)) 3 (.int .i64 0)).alloc (.cells #[.nilIface] 44)).alloc (.cells #[.int .i64 cur.l, .int .u64 cur.c, .int .i64 cur.i, .int .i64 high.l, .int .u64 high.c, .int .i64 high.i] 47)).alloc (.cells #[.slice ao len cap] 34)
    simpa only [World.size_alloc] using h
  have he : Boxed (((((((w.alloc (.cells #[.int .i64 cur.l, .int .u64 cur.c, .int .i64 cur.i, .int .i64 high.l, .int .u64 high.c, .int .i64 high.i] 47)).alloc (.cells #[.int .i64 0, .int .u64 0, .int .i64 0] 42)).alloc (.cells #[.int .i64 cur.l, .int .u64 cur.c, .int .i64 cur.i] 42)).alloc (.cells #[.int .i64 0] 3)).alloc (.cells #[.nilIface] 44)).alloc (.cells #[.int .i64 cur.l, .int .u64 cur.c, .int .i64 cur.i, .int .i64 high.l, .int .u64 high.c, .int .i64 high.i] 47)).alloc (.cells #[.slice ao len cap] 34)) (w.heap.size + 1 + 1 + 1 + 1) 44 .nilIface := by
    have h := ((Boxed.new ((((w.alloc (.cells #[.int .i64 cur.l, .int .u64 cur.c, .int .i64 cur.i, .int .i64 high.l, .int .u64 high.c, .int .i64 high.i] 47)).alloc (.cells #[.int .i64 0, .int .u64 0, .int .i64 0] 42)).alloc (.cells #[.int .i64 cur.l, .int .u64 cur.c, .int .i64 cur.i] 42)).alloc (.cells #[.int .i64 0] 3)) 44 .nilIface).alloc (.cells #[.int .i64 cur.l, .int .u64 cur.c, .int .i64 cur.i, .int .i64 high.l, .int .u64 high.c, .int .i64 high.i] 47)).alloc (.cells #[.slice ao len cap] 34)
    simpa only [World.size_alloc] using h
  have hbc : BoxC (((((((w.alloc (.cells #[.int .i64 cur.l, .int .u64 cur.c, .int .i64 cur.i, .int .i64 high.l, .int .u64 high.c, .int .i64 high.i] 47)).alloc (.cells #[.int .i64 0, .int .u64 0, .int .i64 0] 42)).alloc (.cells #[.int .i64 cur.l, .int .u64 cur.c, .int .i64 cur.i] 42)).alloc (.cells #[.int .i64 0] 3)).alloc (.cells #[.nilIface] 44)).alloc (.cells #[.int .i64 cur.l, .int .u64 cur.c, .int .i64 cur.i, .int .i64 high.l, .int .u64 high.c, .int .i64 high.i] 47)).alloc (.cells #[.slice ao len cap] 34)) (w.heap.size + 1 + 1 + 1 + 1 + 1) cur high := by
    have h := (BoxC.new (((((w.alloc (.cells #[.int .i64 cur.l, .int .u64 cur.c, .int .i64 cur.i, .int .i64 high.l, .int .u64 high.c, .int .i64 high.i] 47)).alloc (.cells #[.int .i64 0, .int .u64 0, .int .i64 0] 42)).alloc (.cells #[.int .i64 cur.l, .int .u64 cur.c, .int .i64 cur.i] 42)).alloc (.cells #[.int .i64 0] 3)).alloc (.cells #[.nilIface] 44)) cur high).more (Below.new _ (.cells #[.slice ao len cap] 34))
    simpa only [World.size_alloc] using h
  have hbs : (((((((w.alloc (.cells #[.int .i64 cur.l, .int .u64 cur.c, .int .i64 cur.i, .int .i64 high.l, .int .u64 high.c, .int .i64 high.i] 47)).alloc (.cells #[.int .i64 0, .int .u64 0, .int .i64 0] 42)).alloc (.cells #[.int .i64 cur.l, .int .u64 cur.c, .int .i64 cur.i] 42)).alloc (.cells #[.int .i64 0] 3)).alloc (.cells #[.nilIface] 44)).alloc (.cells #[.int .i64 cur.l, .int .u64 cur.c, .int .i64 cur.i, .int .i64 high.l, .int .u64 high.c, .int .i64 high.i] 47)).alloc (.cells #[.slice ao len cap] 34)).cell? ⟨w.heap.size + 1 + 1 + 1 + 1 + 1 + 1, 0, none⟩ = some (.slice ao len cap) := by
    have h := (Boxed.new ((((((w.alloc (.cells #[.int .i64 cur.l, .int .u64 cur.c, .int .i64 cur.i, .int .i64 high.l, .int .u64 high.c, .int .i64 high.i] 47)).alloc (.cells #[.int .i64 0, .int .u64 0, .int .i64 0] 42)).alloc (.cells #[.int .i64 cur.l, .int .u64 cur.c, .int .i64 cur.i] 42)).alloc (.cells #[.int .i64 0] 3)).alloc (.cells #[.nilIface] 44)).alloc (.cells #[.int .i64 cur.l, .int .u64 cur.c, .int .i64 cur.i, .int .i64 high.l, .int .u64 high.c, .int .i64 high.i] 47)) 34 (.slice ao len cap)).cell
    simpa only [World.size_alloc] using h
  have hz0 : (((((((w.alloc (.cells #[.int .i64 cur.l, .int .u64 cur.c, .int .i64 cur.i, .int .i64 high.l, .int .u64 high.c, .int .i64 high.i] 47)).alloc (.cells #[.int .i64 0, .int .u64 0, .int .i64 0] 42)).alloc (.cells #[.int .i64 cur.l, .int .u64 cur.c, .int .i64 cur.i] 42)).alloc (.cells #[.int .i64 0] 3)).alloc (.cells #[.nilIface] 44)).alloc (.cells #[.int .i64 cur.l, .int .u64 cur.c, .int .i64 cur.i, .int .i64 high.l, .int .u64 high.c, .int .i64 high.i] 47)).alloc (.cells #[.slice ao len cap] 34)).heap.size = w.heap.size + 7 := by simp only [World.size_alloc]
  have HJ := Lib.hid (steps_any cur high ao len cap (((((w.alloc (.cells #[.int .i64 cur.l, .int .u64 cur.c, .int .i64 cur.i, .int .i64 high.l, .int .u64 high.c, .int .i64 high.i] 47)).alloc (.cells #[.int .i64 0, .int .u64 0, .int .i64 0] 42)).alloc (.cells #[.int .i64 cur.l, .int .u64 cur.c, .int .i64 cur.i] 42)).alloc (.cells #[.int .i64 0] 3)).alloc (.cells #[.nilIface] 44)))
  obtain ⟨W0, hW0⟩ : ∃ W0, (((((((w.alloc (.cells #[.int .i64 cur.l, .int .u64 cur.c, .int .i64 cur.i, .int .i64 high.l, .int .u64 high.c, .int .i64 high.i] 47)).alloc (.cells #[.int .i64 0, .int .u64 0, .int .i64 0] 42)).alloc (.cells #[.int .i64 cur.l, .int .u64 cur.c, .int .i64 cur.i] 42)).alloc (.cells #[.int .i64 0] 3)).alloc (.cells #[.nilIface] 44)).alloc (.cells #[.int .i64 cur.l, .int .u64 cur.c, .int .i64 cur.i, .int .i64 high.l, .int .u64 high.c, .int .i64 high.i] 47)).alloc (.cells #[.slice ao len cap] 34)) = W0 := ⟨_, rfl⟩
  rw [hW0] at hB hr ha hd he hbc hbs hz0
  have HWE := Lib.hid hW0
  have HA := Lib.hid (And.intro hB (And.intro (show ClB w.heap.size W0 cur 0 .nilIface from ⟨hr, ha, hd, he⟩) (And.intro hbc hbs)))
  have HL := Lib.hid (And.intro hI (And.intro hs (And.intro hS (And.intro hc (And.intro hh (And.intro hcr (And.intro hzr hz)))))))
  have HPa := Lib.hid hp
  clear hB hr ha hd he hbc hbs hW0 hI hs hS hc hh hcr hzr hz hp
  gi_wp2
  refine wpIn_scope_wide ?_
  gi_wp2
  refine wpIn_label ?_
  gi_wp2_with (refine ⟨trivial, ?_⟩; gi_at_call 59; refine (callsIn_wide.2 HJ.out).mono ?_)
  rintro e w0 ⟨rfl, rfl⟩
  rw [HWE.out]
  simp only [World.size_alloc]
  gi_wp2
  refine wpIn_rangeB hn1 (gf := 65) (lb := #[.pointer (some ⟨w.heap.size + 1 + 1 + 1 + 1 + 1, 0, none⟩), .pointer (some ⟨w.heap.size + 1 + 1 + 1 + 1 + 1 + 1, 0, none⟩)]) rfl (enters_of Tryd.func65 (by kernel_rfl) rfl)
    (steps1 (n - 1) (by omega) (s := s) HL.out.2.2.2.1 HL.out.2.2.2.2.1 HL.out.2.2.2.2.2.1 HL.out.2.2.2.2.2.2.1 (w.heap.size + 1 + 1 + 1 + 1 + 1) (w.heap.size + 1 + 1 + 1 + 1 + 1 + 1) len cap ao (fun k => k = w.heap.size + 1 + 1 ∨ k = w.heap.size + 1 + 1 + 1 ∨ k = w.heap.size + 1 + 1 + 1 + 1 ∨ k = W0.heap.size + 1) w W0 HL.out.2.2.2.2.2.2.2 HL.out.1 HL.out.2.1 HL.out.2.2.1 HA.out.1 (fun k hk => by omega) (fun k hk => by omega) HA.out.2.2.1 HA.out.2.2.2)
    KN.trans (fun V o o' _ _ _ => KN.put V o' (.inr (.inr (.inr rfl)))) (fun _ => rfl)
    (ClI cur w) (ClX s cur w) ?hI ?hIx ?h0
    (fun y a' W => ∃ Bx, w.heap.size + 7 ≤ Bx ∧ LabAt W Bx 0 y.1 ∧ a' = { tmps := #[.agg #[.int .i64 cur.l, .int .u64 cur.c, .int .i64 cur.i, .int .i64 high.l, .int .u64 high.c, .int .i64 high.i], .slice ao len cap, .pointer (some ⟨w.heap.size, 0, none⟩), undef, .pointer (some ⟨w.heap.size + 1, 0, none⟩), .nilIface, .pointer (some ⟨w.heap.size + 1 + 1, 0, none⟩), .pointer (some ⟨w.heap.size + 1 + 1 + 1, 0, none⟩), .pointer (some ⟨w.heap.size + 1 + 1 + 1 + 1, 0, none⟩), .pointer (some ⟨Bx, 0, none⟩), errU s y.2, .pointer (some ⟨w.heap.size, 0, none⟩), .agg #[.int .i64 cur.l, .int .u64 cur.c, .int .i64 cur.i], .agg #[.int .i64 cur.l, .int .u64 cur.c, .int .i64 cur.i, .int .i64 high.l, .int .u64 high.c, .int .i64 high.i], .slice ao len cap, .func (.func 65) #[] #[.pointer (some ⟨w.heap.size + 1 + 1 + 1 + 1 + 1, 0, none⟩), .pointer (some ⟨w.heap.size + 1 + 1 + 1 + 1 + 1 + 1, 0, none⟩)], .agg #[.int .i64 y.1.l, .int .u64 y.1.c, .int .i64 y.1.i], errU s y.2, undef, undef, undef, undef, undef, undef, undef, undef, undef, undef, undef, undef, undef], defers := [] })
    ?hAx ?assign ?body ?done ?stop
  case hI => rw [hz0]; exact ClI.ab
  case hIx => rw [hz0]; exact fun c => ClX.ab c
  case hAx =>
    rintro y a' _ A B row ⟨Bx, hBx, hl, rfl⟩ hg hr
    exact ⟨Bx, hBx, ⟨cellK hl.1 hg (fun r e => (hr r e).2), cellK hl.2.1 hg (fun r e => (hr r e).2), cellK hl.2.2 hg (fun r e => (hr r e).2)⟩, rfl⟩
  case h0 => exact ⟨⟨(fun y hy => by cases hy), HA.out.2.1, by omega⟩, HA.out.1⟩
  case assign =>
    rintro l pre ⟨y, b⟩ V K hI hH hK
    have HK := Lib.hid hK
    have hb := Below.new V (.cells #[.int .i64 y.l, .int .u64 y.c, .int .i64 y.i] 42)
    have hz1 := hI.1.2.2
    have HP := Lib.hid (show ClI cur w pre (V.alloc (.cells #[.int .i64 y.l, .int .u64 y.c, .int .i64 y.i] 42)) from ClI.ab pre V _ hI (hb.mono hz1))
    have HB := Lib.hid hb
    clear hK hI hb hH
    simp only [encU]
    gi_wp2
    exact HK.out _ _ ((KeepsOthers.alloc _ _).from _) (KN.of_below HB.out) HP.out ⟨V.heap.size, hz1, ⟨by simp, by simp, by simp⟩, rfl⟩
  case body =>
    rintro l pre ⟨y, b⟩ a' V ⟨⟨hall, hV, hz1⟩, hB⟩ hH ⟨Bx, hBx, hx, rfl⟩
    have hpl : pre.length < 1000 := by
      have h1 := hH.length_le
      have h2 := ups_len high cur zs
      have h3 := HL.out.2.2.2.2.2.2.2
      simp at h1
      omega
    have HP := Lib.hid (And.intro hall (And.intro hB (And.intro hV hz1)))
    cases b with
    | true =>
      have HX := Lib.hid (show LabAt V.drew Bx 0 y from hx)
      have HD := Lib.hid (And.intro hV.a (And.intro hV.d trivial))
      have HD2 := Lib.hid (show Boxed (((V.setCell ⟨w.heap.size + 1 + 1, 0, none⟩ (.int .i64 y.l)).setCell ⟨w.heap.size + 1 + 1, 1, none⟩ (.int .u64 (y.c : Int))).setCell ⟨w.heap.size + 1 + 1, 2, none⟩ (.int .i64 y.i)) (w.heap.size + 1 + 1 + 1) 3 (.int .i64 (pre.length : Int)) from boxed_oth3 hV.d (by omega))
      have hwr : IntKind.i64.wrap ((pre.length : Int) + 1) = (pre.length : Int) + 1 := by rw [IntKind.wrap_i64]; omega
      have hv : errU s true = .nilIface := rfl
      have HE := Lib.hid (show KeepsFrom W0.heap.size V (((((V.setCell ⟨w.heap.size + 1 + 1, 0, none⟩ (.int .i64 y.l)).setCell ⟨w.heap.size + 1 + 1, 1, none⟩ (.int .u64 (y.c : Int))).setCell ⟨w.heap.size + 1 + 1, 2, none⟩ (.int .i64 y.i)).setCell ⟨w.heap.size + 1 + 1 + 1, 0, none⟩ (.int .i64 ((pre.length : Int) + 1))).drew) ∧ KN (fun k => k = w.heap.size + 1 + 1 ∨ k = w.heap.size + 1 + 1 + 1 ∨ k = w.heap.size + 1 + 1 + 1 + 1 ∨ k = W0.heap.size + 1) V (((((V.setCell ⟨w.heap.size + 1 + 1, 0, none⟩ (.int .i64 y.l)).setCell ⟨w.heap.size + 1 + 1, 1, none⟩ (.int .u64 (y.c : Int))).setCell ⟨w.heap.size + 1 + 1, 2, none⟩ (.int .i64 y.i)).setCell ⟨w.heap.size + 1 + 1 + 1, 0, none⟩ (.int .i64 ((pre.length : Int) + 1))).drew) ∧ ClI cur w (pre ++ [(y, true)]) (((((V.setCell ⟨w.heap.size + 1 + 1, 0, none⟩ (.int .i64 y.l)).setCell ⟨w.heap.size + 1 + 1, 1, none⟩ (.int .u64 (y.c : Int))).setCell ⟨w.heap.size + 1 + 1, 2, none⟩ (.int .i64 y.i)).setCell ⟨w.heap.size + 1 + 1 + 1, 0, none⟩ (.int .i64 ((pre.length : Int) + 1))).drew) by
        refine ⟨(((((KeepsOthers.setCell V _ _).trans (KeepsOthers.setCell _ _ _)).trans (KeepsOthers.setCell _ _ _)).trans (KeepsOthers.setCell _ _ _)).trans (KeepsOthers.drew _)).from _, ?_, ⟨?_, ?_, ?_⟩, ?_⟩
        · exact ((((KN.set V (.inl rfl)).trans (KN.set _ (.inl rfl))).trans (KN.set _ (.inl rfl))).trans (KN.set _ (.inr (.inl rfl)))).trans (KN.of_below (Below.refl _ _).drew)
        · intro z hz
          rcases List.mem_append.1 hz with h | h
          · exact hall z h
          · obtain rfl : z = (y, true) := by simpa using h
            rfl
        · rw [atL_snoc]
          refine ClB.low (n := w.heap.size + 7) (A := (((V.setCell ⟨w.heap.size + 1 + 1, 0, none⟩ (.int .i64 y.l)).setCell ⟨w.heap.size + 1 + 1, 1, none⟩ (.int .u64 (y.c : Int))).setCell ⟨w.heap.size + 1 + 1, 2, none⟩ (.int .i64 y.i)).setCell ⟨w.heap.size + 1 + 1 + 1, 0, none⟩ (.int .i64 ((pre.length : Int) + 1))) ⟨(hV.r.other3 (by omega)).other (by omega), (hV.a.set y).other (by omega), ?_, ?_⟩ (Below.refl _ _).drew (by omega)
          · have := HD2.out.set (.int .i64 ((pre.length : Int) + 1))
            simpa using this
          · exact boxed_oth (boxed_oth3 hV.e (by omega)) (by omega)
        · simpa [World.setCell, World.drew] using hz1
        · exact ((below_set3 hB (by omega) _ _ _).setCell (p := ⟨w.heap.size + 1 + 1 + 1, 0, none⟩) (by simp; omega) _).drew)
      clear hall hV hB hx hH
      simp only [hv]
      gi_wp2
      refine wpIn_round_held (S := fun w' => LabAt w' Bx 0 y) (by kernel_rfl) (by kernel_rfl) (by rintro ⟨_, _, h⟩; exact h) (HX.out) (fun hS0 => ?_)
      refine wpAnyH_take (i := 0) (oi := { dst := some 18, op := Go.Op.load 42 (Go.Operand.tmp 9), type := 42, pos := "ceiling.go:140", after := #[], guard := none }) (v := ?_) rfl (by kernel_rfl) (by kernel_rfl) (by kernel_rfl) (fun _ _ _ h => h) (Or.inl ⟨by rfl, ?_⟩) hS0 ?_
      rotate_left
      · (intro wq hSw; obtain ⟨x0, x1, x2⟩ := hSw; go_simp; try with_reducible rfl)
      try simp only [Act.put, List.setIfInBounds_toArray, List.set_cons_zero, List.set_cons_succ]
      refine wpAnyH_ready (rs := [1, 3]) (by kernel_rfl) (by simp) ?_
      refine AllReadyH.cons (o := { dst := some 19, op := Go.Op.load 3 (Go.Operand.tmp 7), type := 3, pos := "ceiling.go:140", after := #[], guard := none }) rfl (fun K hK => ?_) (AllReadyH.cons (o := { dst := none, op := Go.Op.store 42 (Go.Operand.tmp 6) (Go.Operand.tmp 18), type := 0, pos := "ceiling.go:140", after := #[{ on := 0, ground := Go.Ground.data }, { on := 0, ground := Go.Ground.phase }, { on := 1, ground := Go.Ground.textOnly Go.Departure.inlinedCapture }, { on := 2, ground := Go.Ground.textOnly Go.Departure.inlinedCapture }], guard := none }) rfl (fun K hK => ?_) AllReadyH.nil)
      · skip
        have hcd := HD.out.2.1.cell
        go_simp
        refine hK.out _ _ (hS0) (fun hS1 => ?_)
        clear hK K
        clear hcd
        try simp only [Act.put, List.setIfInBounds_toArray, List.set_cons_zero, List.set_cons_succ]
        refine wpAnyH_take (i := 2) (oi := { dst := some 20, op := Go.Op.binOp Go.BinOp.add 3 (Go.Operand.tmp 19) (Go.Operand.const (Go.Value.int Go.IntKind.i64 1)) 3, type := 3, pos := "ceiling.go:140", after := #[{ on := 1, ground := Go.Ground.data }], guard := none }) (v := ?_) rfl (by kernel_rfl) (by kernel_rfl) (by kernel_rfl) (fun _ _ _ h => h) (Or.inl ⟨by rfl, ?_⟩) hS1 ?_
        rotate_left
        · (intro wq hSw; obtain ⟨x0, x1, x2⟩ := hSw; go_simp; try with_reducible rfl)
        try simp only [Act.put, List.setIfInBounds_toArray, List.set_cons_zero, List.set_cons_succ]
        refine wpAnyH_ready (rs := [3]) (by kernel_rfl) (by simp) ?_
        refine AllReadyH.cons (o := { dst := none, op := Go.Op.store 42 (Go.Operand.tmp 6) (Go.Operand.tmp 18), type := 0, pos := "ceiling.go:140", after := #[{ on := 0, ground := Go.Ground.data }, { on := 0, ground := Go.Ground.phase }, { on := 1, ground := Go.Ground.textOnly Go.Departure.inlinedCapture }, { on := 2, ground := Go.Ground.textOnly Go.Departure.inlinedCapture }], guard := none }) rfl (fun K hK => ?_) AllReadyH.nil
        obtain ⟨g0, g1, g2⟩ := HD.out.1.lab
        obtain ⟨fg0, fg1, fg2⟩ := HD.out.1.frozen
        go_simp
        refine hK.out _ _ (show LabAt (((V.setCell ⟨w.heap.size + 1 + 1, 0, none⟩ (.int .i64 y.l)).setCell ⟨w.heap.size + 1 + 1, 1, none⟩ (.int .u64 (y.c : Int))).setCell ⟨w.heap.size + 1 + 1, 2, none⟩ (.int .i64 y.i)).drew Bx 0 y from ⟨set3_other hS1.1 (by omega), set3_other hS1.2.1 (by omega), set3_other hS1.2.2 (by omega)⟩) (fun hS2 => ?_)
        clear hK K
        clear g0 g1 g2 fg0 fg1 fg2
        try simp only [Act.put, List.setIfInBounds_toArray, List.set_cons_zero, List.set_cons_succ]
        refine wpAnyH_ready (rs := [4]) (by kernel_rfl) (by simp) ?_
        refine AllReadyH.cons (o := { dst := none, op := Go.Op.store 3 (Go.Operand.tmp 7) (Go.Operand.tmp 20), type := 0, pos := "ceiling.go:140", after := #[{ on := 2, ground := Go.Ground.data }, { on := 3, ground := Go.Ground.chain }, { on := 0, ground := Go.Ground.phase }, { on := 1, ground := Go.Ground.phase }, { on := 2, ground := Go.Ground.phase }, { on := 3, ground := Go.Ground.phase }], guard := none }) rfl (fun K hK => ?_) AllReadyH.nil
        have hd2 := HD2.out
        have hcd := hd2.cell
        have hfd := hd2.frozen
        go_simp
        refine hK.out _ _ (show LabAt ((((V.setCell ⟨w.heap.size + 1 + 1, 0, none⟩ (.int .i64 y.l)).setCell ⟨w.heap.size + 1 + 1, 1, none⟩ (.int .u64 (y.c : Int))).setCell ⟨w.heap.size + 1 + 1, 2, none⟩ (.int .i64 y.i)).setCell ⟨w.heap.size + 1 + 1 + 1, 0, none⟩ (.int .i64 ((pre.length : Int) + 1))).drew Bx 0 y from ⟨setO hS2.1 (ne_blk (by omega)), setO hS2.2.1 (ne_blk (by omega)), setO hS2.2.2 (ne_blk (by omega))⟩) (fun hS3 => ?_)
        clear hK K
        clear hd2 hcd hfd
        try simp only [Act.put, List.setIfInBounds_toArray, List.set_cons_zero, List.set_cons_succ]
        refine wpAnyH_done (by kernel_rfl) ?_ _
        clear hS0 hS3
        gi_wp2
        exact HE.out
      · skip
        obtain ⟨g0, g1, g2⟩ := HD.out.1.lab
        obtain ⟨fg0, fg1, fg2⟩ := HD.out.1.frozen
        go_simp
        refine hK.out _ _ (show LabAt (((V.setCell ⟨w.heap.size + 1 + 1, 0, none⟩ (.int .i64 y.l)).setCell ⟨w.heap.size + 1 + 1, 1, none⟩ (.int .u64 (y.c : Int))).setCell ⟨w.heap.size + 1 + 1, 2, none⟩ (.int .i64 y.i)).drew Bx 0 y from ⟨set3_other hS0.1 (by omega), set3_other hS0.2.1 (by omega), set3_other hS0.2.2 (by omega)⟩) (fun hS4 => ?_)
        clear hK K
        clear g0 g1 g2 fg0 fg1 fg2
        try simp only [Act.put, List.setIfInBounds_toArray, List.set_cons_zero, List.set_cons_succ]
        refine wpAnyH_ready (rs := [1]) (by kernel_rfl) (by simp) ?_
        refine AllReadyH.cons (o := { dst := some 19, op := Go.Op.load 3 (Go.Operand.tmp 7), type := 3, pos := "ceiling.go:140", after := #[], guard := none }) rfl (fun K hK => ?_) AllReadyH.nil
        have hcd := HD.out.2.1.cell
        go_simp
        refine hK.out _ _ (hS4) (fun hS5 => ?_)
        clear hK K
        clear hcd
        try simp only [Act.put, List.setIfInBounds_toArray, List.set_cons_zero, List.set_cons_succ]
        refine wpAnyH_take (i := 2) (oi := { dst := some 20, op := Go.Op.binOp Go.BinOp.add 3 (Go.Operand.tmp 19) (Go.Operand.const (Go.Value.int Go.IntKind.i64 1)) 3, type := 3, pos := "ceiling.go:140", after := #[{ on := 1, ground := Go.Ground.data }], guard := none }) (v := ?_) rfl (by kernel_rfl) (by kernel_rfl) (by kernel_rfl) (fun _ _ _ h => h) (Or.inl ⟨by rfl, ?_⟩) hS5 ?_
        rotate_left
        · (intro wq hSw; obtain ⟨x0, x1, x2⟩ := hSw; go_simp; try with_reducible rfl)
        try simp only [Act.put, List.setIfInBounds_toArray, List.set_cons_zero, List.set_cons_succ]
        refine wpAnyH_ready (rs := [4]) (by kernel_rfl) (by simp) ?_
        refine AllReadyH.cons (o := { dst := none, op := Go.Op.store 3 (Go.Operand.tmp 7) (Go.Operand.tmp 20), type := 0, pos := "ceiling.go:140", after := #[{ on := 2, ground := Go.Ground.data }, { on := 3, ground := Go.Ground.chain }, { on := 0, ground := Go.Ground.phase }, { on := 1, ground := Go.Ground.phase }, { on := 2, ground := Go.Ground.phase }, { on := 3, ground := Go.Ground.phase }], guard := none }) rfl (fun K hK => ?_) AllReadyH.nil
        have hd2 := HD2.out
        have hcd := hd2.cell
        have hfd := hd2.frozen
        go_simp
        refine hK.out _ _ (show LabAt ((((V.setCell ⟨w.heap.size + 1 + 1, 0, none⟩ (.int .i64 y.l)).setCell ⟨w.heap.size + 1 + 1, 1, none⟩ (.int .u64 (y.c : Int))).setCell ⟨w.heap.size + 1 + 1, 2, none⟩ (.int .i64 y.i)).setCell ⟨w.heap.size + 1 + 1 + 1, 0, none⟩ (.int .i64 ((pre.length : Int) + 1))).drew Bx 0 y from ⟨setO hS5.1 (ne_blk (by omega)), setO hS5.2.1 (ne_blk (by omega)), setO hS5.2.2 (ne_blk (by omega))⟩) (fun hS6 => ?_)
        clear hK K
        clear hd2 hcd hfd
        try simp only [Act.put, List.setIfInBounds_toArray, List.set_cons_zero, List.set_cons_succ]
        refine wpAnyH_done (by kernel_rfl) ?_ _
        clear hS0 hS6
        gi_wp2
        exact HE.out
    | false =>
      obtain ⟨g0, g1, g2⟩ := hV.a.lab
      have cd := hV.d.cell
      have ce := hV.e.cell
      have fe := hV.e.frozen
      have hv : errU s false = .iface 116 (.pointer (some s.a)) := rfl
      obtain ⟨x0, x1, x2⟩ := hx
      clear hall hB hH
      simp only [hv]
      gi_wp2
      refine ⟨(KeepsOthers.setCell _ _ _).from _, ⟨rfl, pre, y, rfl, HP.out.1, hV.r.other (by omega), hV.a.other (by omega), ?_, ?_⟩, HP.out.2.1.setCell (p := ⟨w.heap.size + 1 + 1 + 1 + 1, 0, none⟩) (by simp; omega) _⟩
      · exact boxed_oth hV.d (by omega)
      · exact hV.e.set _
  case done =>
    rintro D ys V hD rfl ⟨⟨hall, hV, hz1⟩, hB⟩ hK
    have hpg := ups_path zs cur 0 hall
    rw [HPa.out] at hpg
    obtain ⟨hc0, hm1⟩ := Prod.mk.inj hpg
    obtain ⟨-, hx1⟩ := Prod.mk.inj hm1
    rw [← hx1] at hV
    have hD2 : w.heap.size ≤ D := by omega
    have HU := Lib.hid (And.intro hc0 trivial)
    have HK := Lib.hid hK
    have HB := Lib.hid hB
    have HD := Lib.hid hV.r
    have HS := Lib.hid (show ClS w x .nilIface V from ⟨hV.a.lab, hV.e.cell⟩)
    clear hall hV hB hK hpg hc0 hm1 hx1
    gi_wp2
    refine wpIn_wide.2 ?_
    obtain ⟨x0, x1, x2⟩ := ClS.a HS.out
    have x3 := ClS.e HS.out
    obtain ⟨g0, g1, g2⟩ := HD.out.lab
    obtain ⟨fg0, fg1, fg2⟩ := HD.out.frozen
    go_region_held3 (fun w' => w'.cell? ⟨w.heap.size + 1 + 1, 0, none⟩ = some (.int .i64 x.l) ∧ w'.cell? ⟨w.heap.size + 1 + 1, 1, none⟩ = some (.int .u64 x.c) ∧ w'.cell? ⟨w.heap.size + 1 + 1, 2, none⟩ = some (.int .i64 x.i) ∧ w'.cell? ⟨w.heap.size + 1 + 1 + 1 + 1, 0, none⟩ = some .nilIface) (go_keep) (fail)
    gi_wp2
    rw [Exit.noGoto_ret]
    have hK' := ((((KeepsOthers.setCell V ⟨w.heap.size + 1, 0, none⟩ (.int .i64 x.l)).trans (KeepsOthers.setCell _ ⟨w.heap.size + 1, 1, none⟩ (.int .u64 (x.c : Int)))).trans (KeepsOthers.setCell _ ⟨w.heap.size + 1, 2, none⟩ (.int .i64 x.i))).trans (KeepsOthers.drew _)).same D _ HK.out rfl
    obtain ⟨u0, u1, u2⟩ := (HD.out.set x).lab
    have c0 : (((((V.setCell ⟨w.heap.size + 1, 0, none⟩ (.int .i64 x.l)).setCell ⟨w.heap.size + 1, 1, none⟩ (.int .u64 (x.c : Int))).setCell ⟨w.heap.size + 1, 2, none⟩ (.int .i64 x.i)).drew).putObj D (.deferred none)).cell? ⟨w.heap.size + 1, 0, none⟩ = some (.int .i64 x.l) := cellP hK' u0
    have c1 : (((((V.setCell ⟨w.heap.size + 1, 0, none⟩ (.int .i64 x.l)).setCell ⟨w.heap.size + 1, 1, none⟩ (.int .u64 (x.c : Int))).setCell ⟨w.heap.size + 1, 2, none⟩ (.int .i64 x.i)).drew).putObj D (.deferred none)).cell? ⟨w.heap.size + 1, 1, none⟩ = some (.int .u64 (x.c : Int)) := cellP hK' u1
    have c2 : (((((V.setCell ⟨w.heap.size + 1, 0, none⟩ (.int .i64 x.l)).setCell ⟨w.heap.size + 1, 1, none⟩ (.int .u64 (x.c : Int))).setCell ⟨w.heap.size + 1, 2, none⟩ (.int .i64 x.i)).drew).putObj D (.deferred none)).cell? ⟨w.heap.size + 1, 2, none⟩ = some (.int .i64 x.i) := cellP hK' u2
    have hB3 : Below w.heap.size w ((((V.setCell ⟨w.heap.size + 1, 0, none⟩ (.int .i64 x.l)).setCell ⟨w.heap.size + 1, 1, none⟩ (.int .u64 (x.c : Int))).setCell ⟨w.heap.size + 1, 2, none⟩ (.int .i64 x.i)).drew) := (below_set3 HB.out (by omega) _ _ _).drew
    refine ⟨by simp, .inl ⟨_, _, rfl, run_takeDeferred hK', ?_⟩⟩
    refine ⟨.tuple #[.agg #[.int .i64 x.l, .int .u64 x.c, .int .i64 x.i], .nilIface], ?_, ?_, hB3.trans (belowK_b (w := w) (Nat.le_refl _) _ D _ _ hD2 hK' rfl rfl)⟩
    rotate_left
    · rw [HU.out.1]; rfl
    generalize (((((V.setCell ⟨w.heap.size + 1, 0, none⟩ (.int .i64 x.l)).setCell ⟨w.heap.size + 1, 1, none⟩ (.int .u64 (x.c : Int))).setCell ⟨w.heap.size + 1, 2, none⟩ (.int .i64 x.i)).drew).putObj D (.deferred none)) = WF at c0 c1 c2 ⊢
    clear hK' hB3 u0 u1 u2
    simp [results, Tryd.results45, go_sem, c0, c1, c2]
  case stop =>
    rintro D c1 pre V hD hpre ⟨⟨rfl, q, y, rfl, hall, hV⟩, hB⟩ hK
    have hpg := ups_stop zs cur 0 q y hall hpre
    rw [HPa.out] at hpg
    obtain ⟨hc0, hm1⟩ := Prod.mk.inj hpg
    obtain ⟨hm2, hx1⟩ := Prod.mk.inj hm1
    rw [Nat.zero_add] at hm2
    rw [← hx1, ← hm2] at hV
    have hD2 : w.heap.size ≤ D := by omega
    have HU := Lib.hid (And.intro hc0 trivial)
    have HK := Lib.hid hK
    have HB := Lib.hid hB
    have HD := Lib.hid hV.r
    have HS := Lib.hid (show ClS w x (stopV x m s.a) V from ⟨hV.a.lab, hV.e.cell⟩)
    clear hall hV hB hK hpg hc0 hm1 hx1 hm2 hpre
    gi_wp2
    refine wpIn_wide.2 ?_
    obtain ⟨x0, x1, x2⟩ := ClS.a HS.out
    have x3 := ClS.e HS.out
    obtain ⟨g0, g1, g2⟩ := HD.out.lab
    obtain ⟨fg0, fg1, fg2⟩ := HD.out.frozen
    go_region_held3 (fun w' => w'.cell? ⟨w.heap.size + 1 + 1, 0, none⟩ = some (.int .i64 x.l) ∧ w'.cell? ⟨w.heap.size + 1 + 1, 1, none⟩ = some (.int .u64 x.c) ∧ w'.cell? ⟨w.heap.size + 1 + 1, 2, none⟩ = some (.int .i64 x.i) ∧ w'.cell? ⟨w.heap.size + 1 + 1 + 1 + 1, 0, none⟩ = some (stopV x m s.a)) (go_keep) (fail)
    gi_wp2
    rw [Exit.noGoto_ret]
    have hK' := ((((KeepsOthers.setCell V ⟨w.heap.size + 1, 0, none⟩ (.int .i64 x.l)).trans (KeepsOthers.setCell _ ⟨w.heap.size + 1, 1, none⟩ (.int .u64 (x.c : Int)))).trans (KeepsOthers.setCell _ ⟨w.heap.size + 1, 2, none⟩ (.int .i64 x.i))).trans (KeepsOthers.drew _)).same D _ HK.out rfl
    obtain ⟨u0, u1, u2⟩ := (HD.out.set x).lab
    have c0 : (((((V.setCell ⟨w.heap.size + 1, 0, none⟩ (.int .i64 x.l)).setCell ⟨w.heap.size + 1, 1, none⟩ (.int .u64 (x.c : Int))).setCell ⟨w.heap.size + 1, 2, none⟩ (.int .i64 x.i)).drew).putObj D (.deferred none)).cell? ⟨w.heap.size + 1, 0, none⟩ = some (.int .i64 x.l) := cellP hK' u0
    have c1 : (((((V.setCell ⟨w.heap.size + 1, 0, none⟩ (.int .i64 x.l)).setCell ⟨w.heap.size + 1, 1, none⟩ (.int .u64 (x.c : Int))).setCell ⟨w.heap.size + 1, 2, none⟩ (.int .i64 x.i)).drew).putObj D (.deferred none)).cell? ⟨w.heap.size + 1, 1, none⟩ = some (.int .u64 (x.c : Int)) := cellP hK' u1
    have c2 : (((((V.setCell ⟨w.heap.size + 1, 0, none⟩ (.int .i64 x.l)).setCell ⟨w.heap.size + 1, 1, none⟩ (.int .u64 (x.c : Int))).setCell ⟨w.heap.size + 1, 2, none⟩ (.int .i64 x.i)).drew).putObj D (.deferred none)).cell? ⟨w.heap.size + 1, 2, none⟩ = some (.int .i64 x.i) := cellP hK' u2
    have hB3 : Below w.heap.size w ((((V.setCell ⟨w.heap.size + 1, 0, none⟩ (.int .i64 x.l)).setCell ⟨w.heap.size + 1, 1, none⟩ (.int .u64 (x.c : Int))).setCell ⟨w.heap.size + 1, 2, none⟩ (.int .i64 x.i)).drew) := (below_set3 HB.out (by omega) _ _ _).drew
    refine ⟨by simp, .inl ⟨_, _, rfl, run_takeDeferred hK', ?_⟩⟩
    refine ⟨.tuple #[.agg #[.int .i64 x.l, .int .u64 x.c, .int .i64 x.i], (stopV x m s.a)], ?_, ?_, hB3.trans (belowK_b (w := w) (Nat.le_refl _) _ D _ _ hD2 hK' rfl rfl)⟩
    rotate_left
    · rw [HU.out.1]; rfl
    generalize (((((V.setCell ⟨w.heap.size + 1, 0, none⟩ (.int .i64 x.l)).setCell ⟨w.heap.size + 1, 1, none⟩ (.int .u64 (x.c : Int))).setCell ⟨w.heap.size + 1, 2, none⟩ (.int .i64 x.i)).drew).putObj D (.deferred none)) = WF at c0 c1 c2 ⊢
    clear hK' hB3 u0 u1 u2
    simp [results, Tryd.results45, go_sem, c0, c1, c2]
theorem climb_any {s : Sn} {cur high x : Lab} {zs : List Lab} {ao : Option Addr} {len cap : Nat} {c : Int} {m : Nat} (w : World) (hc : cur.fits) (hh : high.fits) (hcr : cur.right = true) (hzr : zs.all Lab.right = true) (hz : zs.length ≤ 1000)
    (hI : Labs w.heap.size w (.slice ao len cap) zs) (hp : pathGo high cur 0 zs = (c, m, x)) (hs : Ce w) (hS : Sent s w) :
    Calls Tryd.prog 45 #[.agg #[.int .i64 cur.l, .int .u64 cur.c, .int .i64 cur.i, .int .i64 high.l, .int .u64 high.c, .int .i64 high.i], .slice ao len cap] w (ClP s c m x w) :=
  (callsIn_wide (n := 3)).1 (climb_in 3 (by omega) w hc hh hcr hzr hz hI hp hs hS)
end Go.Proofs.YtciohfeifihobaaDoor
