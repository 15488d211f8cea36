/- Package heap's Push and Pop; a number put in, the least one taken out. -/
import Derived.Test.YtjfooblnpkckfaaDoorSlDown
namespace Go.Proofs.YtjfooblnpkckfaaDoor
open Go.RowKit Go.Proofs.Slt

/-- Where the two sentinels lie: none to be taken, not live. -/
structure Sn where
  n : Addr
  s : Addr
def Blk0 (w : World) (a : Addr) : Prop := ∃ c t, w.heap[a.block]? = some (.cells c t (0, 0))
/-- .. below n0. -/
structure Ctx (t : Sn) (n0 : Nat) (w : World) : Prop where
  cn : w.cell? ⟨0, 0, none⟩ = some (.iface 113 (.pointer (some t.n)))
  cs : w.cell? ⟨1, 0, none⟩ = some (.iface 113 (.pointer (some t.s)))
  bn : Blk0 w t.n
  bs : Blk0 w t.s
  ns : t.n ≠ t.s
  l0 : 0 < n0
  l1 : 1 < n0
  ln : t.n.block < n0
  ls : t.s.block < n0
  size : n0 ≤ w.heap.size
theorem Ctx.below {t : Sn} {n0 : Nat} {w w' : World} (h : Ctx t n0 w) (hb : Below n0 w w') : Ctx t n0 w' := by
  obtain ⟨c, u, e⟩ := h.bn
  obtain ⟨c', u', e'⟩ := h.bs
  exact ⟨(hb.cell (p := ⟨0, 0, none⟩) h.l0).trans h.cn, (hb.cell (p := ⟨1, 0, none⟩) h.l1).trans h.cs, ⟨c, u, (hb.block _ h.ln).trans e⟩, ⟨c', u', (hb.block _ h.ls).trans e'⟩, h.ns, h.l0, h.l1, h.ln, h.ls, Nat.le_trans h.size hb.size⟩
theorem Ctx.more {t : Sn} {n0 : Nat} {w w' : World} (h : Ctx t n0 w) (hb : Below w.heap.size w w') : Ctx t n0 w' := h.below (hb.mono h.size)

/-- What a number put in leaves. -/
def AddPost (n0 S : Nat) (v : Value) (l : List Int) (x : Int) (v0 v2 : Value) (w w' : World) : Prop :=
  ∃ g' c' l', l'.Perm (l ++ [x]) ∧ Hp l' l'.length ∧ Hv n0 w' S g' c' v0 v2 l' ∧ Below n0 w w' ∧ (∀ k cur t fz, k ≠ S → t ≠ 3 → w.heap[k]? = some (.cells cur t fz) → w'.heap[k]? = some (.cells cur t fz)) ∧
    (∀ g c, v = .slice (some ⟨g, 0, none⟩) l.length c → l.length + 1 ≤ c → g' = g ∧ c' = c ∧ Fr S g g w w')

theorem ob_at {n0 : Nat} {W : World} {v : Value} {l : List Int} (h : RowV n0 W v l) (S k : Nat) (hk : k ≠ S) {cur : Array Value} {t : TypeId} {fz : Nat × Nat} (ht : t ≠ 3) (hc : W.heap[k]? = some (.cells cur t fz)) : k ≠ ob v S := fun e => by
  unfold ob at e
  cases hv : v.ownBlock with
  | none => rw [hv] at e; exact hk e
  | some b =>
    rw [hv] at e
    obtain rfl : k = b := e
    obtain ⟨cur', h'⟩ := h.type hv
    rw [h'] at hc
    cases hc
    exact ht rfl
theorem ob_le {n0 : Nat} {W : World} {v : Value} {l : List Int} (h : RowV n0 W v l) {S : Nat} (hS : n0 ≤ S) : n0 ≤ ob v S := by
  unfold ob
  cases hv : v.ownBlock with
  | none => exact hS
  | some b => exact (World.ownsRow.lt h b hv).1

theorem add_post {n0 S : Nat} {v : Value} {l : List Int} {x : Int} {v0 v2 : Value} {w w1 w2 : World} (hn : n0 ≤ w.heap.size) (hS : n0 ≤ S) (hr : RowV n0 w v l) {g' c' : Nat} (h2 : Row n0 w1 g' c' (l ++ [x])) (h3 : Fr S (ob v S) (ob v S) w w1)
    (h4 : ∀ g c, v = .slice (some ⟨g, 0, none⟩) l.length c → l.length + 1 ≤ c → g' = g ∧ c' = c) (hp : HpPost n0 S g' c' v0 v2 (l ++ [x]) (l.length + 1) w1 w2) : AddPost n0 S v l x v0 v2 w w2 := by
  obtain ⟨l', p1, p2, _, p4, p5⟩ := hp
  have hob := ob_le hr hS
  obtain ⟨hg', _, _, cur', hcur⟩ := h2.at
  have hb : Below n0 w w1 := h3.below hn hS hob hob
  refine ⟨g', c', l', p1, by rw [p1.length_eq]; simpa using p2, p4, hb.trans (p5.below (Nat.le_trans hn h3.size) hS hg' hg'), ?_, ?_⟩
  · intro k cur t fz hk ht hc
    have hkl := (Array.getElem?_eq_some_iff.1 hc).1
    have e1 := (h3.block k hkl hk (ob_at hr S k hk ht hc) (ob_at hr S k hk ht hc)).trans hc
    have hne : k ≠ g' := fun e => by
      subst e
      rw [hcur] at e1
      cases e1
      exact ht rfl
    exact (p5.block k (Nat.lt_of_lt_of_le hkl h3.size) hk hne hne).trans e1
  · intro g c hv hc
    obtain ⟨rfl, rfl⟩ := h4 g c hv hc
    have : ob v S = g' := by rw [hv]; rfl
    rw [this] at h3
    exact ⟨rfl, rfl, h3.trans p5⟩

set_option maxRecDepth 100000 in
set_option maxHeartbeats 1000000 in
theorem hpush_any (n0 S : Nat) (v : Value) (l : List Int) (x : Int) (v0 v2 : Value) (w : World) (hl : l.length ≤ 900) (hn0 : n0 ≤ w.heap.size) (hS : n0 ≤ S) (ho : Obj3 w S v0 v v2) (h : RowV n0 w v l) (hp : Hp l l.length) :
    Calls Tryd.prog 30 #[.iface 76 (.pointer (some ⟨S, 1, none⟩)), .iface 3 (.int .i64 x)] w fun e w' => (∃ u, e = .returned u) ∧ AddPost n0 S v l x v0 v2 w w' := by
  have HH := Lib.hid (And.intro ho (And.intro h hp))
  clear ho h hp
  have m1 := mPush S 1 w
  go_enter Tryd.func30, Tryd.ntmps30
  go_wp2_with (go_at_call 63; refine (push_any n0 S v l x v0 v2 w (by omega) hn0 HH.out.1 HH.out.2.1).mono ?_)
  rintro e w1 ⟨⟨u, rfl⟩, g', c', h1, h2, h3, h4⟩
  clear m1
  have m2 := mLen S 1 _ w1 h1.c1
  have c1 := h1.c1
  have H2 := Lib.hid (And.intro h1 (And.intro h2 (And.intro h3 h4)))
  clear h1 h2 h3 h4
  have hlen : Hid ((l ++ [x]).length = l.length + 1) := by show (l ++ [x]).length = l.length + 1; simp
  obtain ⟨n, hn⟩ : ∃ n, l.length = n := ⟨_, rfl⟩
  have HN := Lib.hid hn
  rw [hn] at m2 c1 hl
  clear hn
  go_wp2_with (first
    | (go_at_call 38; refine (len_any _ _ _ _).mono ?_; rintro e w' ⟨rfl, rfl⟩)
    | (go_at_call 37; go_loud (refine (up_any n0 S g' c' n v0 v2 (l ++ [x]) w1 ⟨by rw [hlen.out]; exact H2.out.1, H2.out.2.1⟩ (by rw [hlen.out, HN.out]; exact UpOk.start (by rw [← HN.out]; exact HH.out.2.2) HN.out) (by rw [hlen.out, HN.out]; omega) (by rw [hlen.out, HN.out]; omega)).mono ?_)))
  rintro e w2 ⟨⟨u, rfl⟩, hpost⟩
  have HP := Lib.hid hpost
  clear hpost
  go_wp2
  go_end0
  exact ⟨⟨_, rfl⟩, add_post hn0 hS HH.out.2.1 H2.out.2.1 H2.out.2.2.1 H2.out.2.2.2 (by rw [← hlen.out]; exact HP.out)⟩

set_option maxHeartbeats 1000000 in
theorem add_any (n0 S : Nat) (v : Value) (l : List Int) (x : Int) (v0 v2 : Value) (w : World) (hl : l.length ≤ 900) (hn0 : n0 ≤ w.heap.size) (hS : n0 ≤ S) (ho : Obj3 w S v0 v v2) (h : RowV n0 w v l) (hp : Hp l l.length) :
    Calls Tryd.prog 22 #[.pointer (some ⟨S, 1, none⟩), .int .i64 x] w fun e w' => (∃ u, e = .returned u) ∧ AddPost n0 S v l x v0 v2 w w' := by
  have HH := Lib.hid (And.intro ho (And.intro h hp))
  clear ho h hp
  go_enter Tryd.func22, Tryd.ntmps22
  go_wp2_with (go_at_call 30; refine (hpush_any n0 S v l x v0 v2 w hl hn0 hS HH.out.1 HH.out.2.1 HH.out.2.2).mono ?_)
  rintro e w1 ⟨⟨u, rfl⟩, hpost⟩
  have HP := Lib.hid hpost
  clear hpost
  go_wp2
  go_end0
  exact ⟨⟨_, rfl⟩, HP.out⟩

/-- What the least number taken out leaves. -/
def PopPost (n0 S g c : Nat) (v0 v2 : Value) (l : List Int) (w w' : World) : Prop :=
  ∃ r, (r ++ [at_ l 0]).Perm l ∧ Hp r r.length ∧ Hv n0 w' S g c v0 v2 r ∧ Fr S g g w w'
theorem split_last {l : List Int} {n : Nat} (h : l.length = n + 1) : l = l.take n ++ [at_ l n] := by
  have hx := at_eq (l := l) (k := n) (by omega)
  obtain ⟨hn, e⟩ := List.getElem?_eq_some_iff.1 hx
  rw [← e, List.take_append_getElem hn, List.take_of_length_le (by omega)]

set_option maxRecDepth 100000 in
set_option maxHeartbeats 1000000 in
theorem hpop_any (n0 S g c n : Nat) (v0 v2 : Value) (l : List Int) (w : World) (hn : l.length = n + 1) (hl : n ≤ 900) (h : Hv n0 w S g c v0 v2 l) (hp : Hp l l.length) :
    Calls Tryd.prog 39 #[.iface 76 (.pointer (some ⟨S, 1, none⟩))] w fun e w' => e = .returned (.iface 3 (.int .i64 (at_ l 0))) ∧ PopPost n0 S g c v0 v2 l w w' := by
  have c1 := h.c1 hn
  have m1 := mLen S 1 _ w c1
  have m2 := mSwap S 1 _ w c1
  have HH := Lib.hid (And.intro h (And.intro hp hn))
  clear h hp hn
  go_enter Tryd.func39, Tryd.ntmps39
  go_wp2_with (first
    | (go_at_call 38; refine (len_any _ _ _ _).mono ?_; rintro e w' ⟨rfl, rfl⟩)
    | (go_at_call 61; go_loud (refine (swap_n (n + 1) n0 g c 0 n l HH.out.2.2 w HH.out.1.2 (by omega) (by omega)).mono ?_)))
  rintro e w1 ⟨⟨u, rfl⟩, hr, hf⟩
  have hv1 := Lib.hid (HH.out.1.swapped hr (swp_length _ _ _) hf)
  have hf1 := Lib.hid (hf.one (a := S))
  have hl1 : Hid ((swp l 0 n).length = n + 1) := (swp_length _ _ _).trans HH.out.2.2
  clear m1 m2 c1 hr hf
  go_wp2_with (go_at_call 43; go_loud (refine (down_any n0 S g c n v0 v2 (swp l 0 n) w1 hv1.out (DnOk.start (by rw [← HH.out.2.2]; exact HH.out.2.1) (by rw [HH.out.2.2]; omega)) hl1.out (by omega)).mono ?_))
  rintro e w2 ⟨⟨u, rfl⟩, l2, q1, q2, q3, q4, q5⟩
  have m3 := mPop S 1 w2
  have hl2 : l2.length = n + 1 := q1.length_eq.trans hl1.out
  have hx : at_ l2 n = at_ l 0 := by
    rw [q3 n (Nat.le_refl _), at_swp (by rw [HH.out.2.2]; omega) (by rw [HH.out.2.2]; omega), if_pos rfl]
  have hsp := split_last hl2
  rw [hx] at hsp
  have hlr : (l2.take n).length = n := by simp [hl2]
  obtain ⟨r, hr⟩ : ∃ r, l2.take n = r := ⟨_, rfl⟩
  rw [hr] at hsp hlr
  have hpm : (r ++ [at_ l 0]).Perm l := by
    rw [← hsp]
    exact q1.trans (swp_perm (by rw [HH.out.2.2]; omega) (by rw [HH.out.2.2]; omega))
  have hhp : Hp r r.length := Hp.take (by rw [hlr]; exact q2) hsp
  obtain ⟨hv2, hrow2⟩ := q4
  have hne := (show Hv n0 w2 S g c v0 v2 l2 from ⟨hv2, hrow2⟩).ne
  have hv2' : Obj3 w2 S v0 (.slice (some ⟨g, 0, none⟩) (r.length + 1) c) v2 := by
    have := hv2
    rw [hl2] at this
    rw [hlr]
    exact this
  rw [hsp] at hrow2
  have HR := Lib.hid (And.intro hpm (And.intro hhp (And.intro hv2' (And.intro hrow2 (And.intro q5 (And.intro hne hlr))))))
  clear q1 q2 q3 q5 hx hsp hr hpm hhp hv2 hv2' hrow2 hne hl2 hlr
  go_wp2_with (go_at_call 62; go_loud (refine (pop_any n0 S g c r (at_ l 0) v0 v2 w2 HR.out.2.2.1 HR.out.2.2.2.1).mono ?_; rintro e w3 ⟨rfl, rfl⟩))
  go_ret
  refine ⟨rfl, r, HR.out.1, HR.out.2.1, ⟨HR.out.2.2.1.set1 _, HR.out.2.2.2.1.take.of_block (Below.heap_setCell _ _ _ _ HR.out.2.2.2.2.2.1)⟩, (hf1.out.trans HR.out.2.2.2.2.1).trans (Fr.set _ _ _ (.inl rfl))⟩

set_option maxHeartbeats 1000000 in
theorem least_none (n0 S g c : Nat) (v0 v2 : Value) (t : Sn) (w : World) (h : Hv n0 w S g c v0 v2 []) (hc : Ctx t n0 w) :
    Calls Tryd.prog 31 #[.pointer (some ⟨S, 1, none⟩)] w fun e w' => e = .returned (.tuple #[.int .i64 0, .iface 113 (.pointer (some t.n))]) ∧ Below w.heap.size w w' := by
  have c1 := h.c1 (n := 0) rfl
  have cn := hc.cn
  clear h hc
  go_enter Tryd.func31, Tryd.ntmps31
  go_wp2_with (go_at_call 38; refine (len_any _ _ _ _).mono ?_; rintro e w' ⟨rfl, rfl⟩)
  go_quiet (fail)
  go_wp2
  go_ret2
  exact ⟨rfl, below_drews _ _⟩

set_option maxHeartbeats 1000000 in
theorem least_some (n0 S g c n : Nat) (v0 v2 : Value) (l : List Int) (w : World) (hn : l.length = n + 1) (hl : n ≤ 900) (h : Hv n0 w S g c v0 v2 l) (hp : Hp l l.length) :
    Calls Tryd.prog 31 #[.pointer (some ⟨S, 1, none⟩)] w fun e w' => e = .returned (.tuple #[.int .i64 (at_ l 0), .nilIface]) ∧ PopPost n0 S g c v0 v2 l w w' := by
  have c1 := h.c1 hn
  have HH := Lib.hid (And.intro h (And.intro hp hn))
  have hti := isInt
  clear h hp hn
  go_enter Tryd.func31, Tryd.ntmps31
  go_wp2_with (first
    | (go_at_call 38; refine (len_any _ _ _ _).mono ?_; rintro e w' ⟨rfl, rfl⟩)
    | (go_at_call 39; go_loud (refine (hpop_any n0 S g c n v0 v2 l w HH.out.2.2 hl HH.out.1 HH.out.2.1).mono ?_)))
  rintro e w1 ⟨rfl, hpost⟩
  have HP := Lib.hid hpost
  clear hpost c1
  go_wp2
  go_ret2
  exact ⟨rfl, HP.out⟩

end Go.Proofs.YtjfooblnpkckfaaDoor
