/- What a law's walk carries. -/
import Derived.Test.YtpaaeojojbdikaaDoorLgShown
namespace Go.Proofs.YtpaaeojojbdikaaDoor
open Go.RowKit Go.Proofs.Cats Go.Proofs.Lgr Go.Shelf Go.Sort

/-- A law's world. -/
structure Wd (w0 w : World) : Prop where
  below : Below w0.heap.size w0 w
  err : ErrT w
theorem Wd.more {w0 w w' : World} (h : Wd w0 w) (k : Below w.heap.size w w') : Wd w0 w' := ⟨below_more h.below k, h.err.more k⟩
theorem Wd.new {w : World} (h : ErrT w) (o : Obj) : Wd w (w.alloc o) := ⟨Below.new w o, h.more (Below.new w o)⟩
theorem rg_bool {f : FuncId} {args : Array Value} {V : World} {v : Bool} (h : ∀ W, Below V.heap.size V W → Calls Tryd.prog f args W (BoolP v W)) : ∀ d os, Calls Tryd.prog f args (grow (redrawn V d) os) fun e w'' => e = .returned (.bool v) ∧ ∃ p : Regrown, w'' = grow (redrawn V p.d) p.os :=
  fun d os => Calls.regrown_of (h _ (below_regrown V d os))
theorem rg_int {f : FuncId} {args : Array Value} {V : World} {v : Int} (h : ∀ W, Below V.heap.size V W → Calls Tryd.prog f args W (IntP v W)) : ∀ d os, Calls Tryd.prog f args (grow (redrawn V d) os) fun e w'' => e = .returned (.int .i64 v) ∧ ∃ p : Regrown, w'' = grow (redrawn V p.d) p.os :=
  fun d os => Calls.regrown_of (h _ (below_regrown V d os))
theorem Same_p {a1 a2 : Option Addr} {len1 len2 c1 c2 : Nat} {l m : List Ln} {b : Bool} (hr1 : len1 ≤ 1000000) (hr2 : len2 ≤ 1000000) (hb : sameL l m = b) {w : World} (h1 : Lns w a1 len1 c1 l) (h2 : Lns w a2 len2 c2 m) :
    Calls Tryd.prog 22 #[.slice a1 len1 c1, .slice a2 len2 c2] w (BoolP b w) := hb ▸ Same_any a1 a2 len1 len2 c1 c2 l m hr1 hr2 w h1 h2
theorem Right_p {a1 : Option Addr} {len1 c1 : Nat} {l : List Ln} {b : Bool} (hb : rightL l = b) {w : World} (h1 : Lns w a1 len1 c1 l) : Calls Tryd.prog 13 #[.slice a1 len1 c1] w (BoolP b w) := hb ▸ Right_any a1 len1 c1 l w h1
theorem Used_p {a1 : Option Addr} {len1 c1 : Nat} {l : List Ln} {a : Lab} {v : Int} (hr1 : len1 ≤ 1000000) (hb : usedL l a = v) {w : World} (h1 : Lns w a1 len1 c1 l) : Calls Tryd.prog 15 #[.slice a1 len1 c1, .agg #[.int .i64 a.l, .int .u64 a.c, .int .i64 a.i]] w (IntP v w) := hb ▸ Used_any a a1 len1 c1 l hr1 w h1
theorem Total_p {a1 : Option Addr} {len1 c1 : Nat} {l : List Ln} {v : Int} (hr1 : len1 ≤ 1000000) (hb : totalL l = v) {w : World} (h1 : Lns w a1 len1 c1 l) : Calls Tryd.prog 20 #[.slice a1 len1 c1] w (IntP v w) := hb ▸ Total_any a1 len1 c1 l hr1 w h1
/-- What Charge and Refund tell, their words named. -/
def TellP (l : List Ln) (k : Nat) (c : Int) (w : World) (e : Ending) (w' : World) : Prop :=
  ∃ va vc, e = .returned (.tuple #[.slice va k vc, .int .i64 c]) ∧ (Lns w' va k vc l ∧ OwnL w.heap.size w' (.slice va k vc) l) ∧ Below w.heap.size w w'
theorem Charge_p {a1 : Option Addr} {len1 c1 : Nat} {l m : List Ln} {a : Lab} {q n c : Int} {k : Nat} (ha : a.fits) (hb : chargeL l q a n = (m, c)) (hk : m.length = k) {w : World} (h1 : Lns w a1 len1 c1 l) (hg : ErrT w) :
    Calls Tryd.prog 23 #[.slice a1 len1 c1, .int .i64 q, .agg #[.int .i64 a.l, .int .u64 a.c, .int .i64 a.i], .int .i64 n] w (TellP m k c w) := by
  have := Charge_any a ha q n a1 len1 c1 l w h1 hg
  have hf := charge_fits (l := l) (a := a) q n h1.hfits ha
  rw [hb] at this hf
  refine this.mono ?_
  rintro e w' ⟨va, vc, he, hO, hbw⟩
  simp only [hk] at he hO
  exact ⟨va, vc, he, ⟨hO.lns hk hf, hO⟩, hbw⟩
theorem Refund_p {a1 : Option Addr} {len1 c1 : Nat} {l m : List Ln} {a : Lab} {n c : Int} {k : Nat} (ha : a.fits) (hb : refundL l a n = (m, c)) (hk : m.length = k) {w : World} (h1 : Lns w a1 len1 c1 l) (hg : ErrT w) :
    Calls Tryd.prog 25 #[.slice a1 len1 c1, .agg #[.int .i64 a.l, .int .u64 a.c, .int .i64 a.i], .int .i64 n] w (TellP m k c w) := by
  have := Refund_any a ha n a1 len1 c1 l w h1 hg
  have hf := refund_fits (l := l) (a := a) n h1.hfits ha
  rw [hb] at this hf
  refine this.mono ?_
  rintro e w' ⟨va, vc, he, hO, hbw⟩
  simp only [hk] at he hO
  exact ⟨va, vc, he, ⟨hO.lns hk hf, hO⟩, hbw⟩
theorem seen_fits {l : List Ln} {a : Lab} (h : ∀ x ∈ l, x.a.fits) : ∀ x ∈ seenL l a, x.a.fits := fun x hx => h x (List.mem_filter.1 hx).1
/-- What Seen tells. -/
def SeenP (l : List Ln) (k : Nat) (w : World) (e : Ending) (w' : World) : Prop :=
  ∃ va vc, e = .returned (.slice va k vc) ∧ (Lns w' va k vc l ∧ OwnL w.heap.size w' (.slice va k vc) l) ∧ Below w.heap.size w w'
theorem Seen_p {a1 : Option Addr} {len1 c1 : Nat} {l m : List Ln} {a : Lab} {k : Nat} (ha : a.fits) (hr1 : len1 ≤ 1000000) (hb : seenL l a = m) (hk : m.length = k) {w : World} (h1 : Lns w a1 len1 c1 l) :
    Calls Tryd.prog 18 #[.slice a1 len1 c1, .agg #[.int .i64 a.l, .int .u64 a.c, .int .i64 a.i]] w (SeenP m k w) := by
  have := Seen_any a ha a1 len1 c1 l hr1 w h1
  have hf := seen_fits (a := a) h1.hfits
  rw [hb] at this hf
  refine this.mono ?_
  rintro e w' ⟨va, vc, he, hO, hbw⟩
  simp only [hk] at he hO
  exact ⟨va, vc, he, ⟨hO.lns hk hf, hO⟩, hbw⟩
theorem Lns.few {W : World} {ao : Option Addr} {len cap : Nat} {zs : List Ln} (h : Lns W ao len cap zs) (k : Nat) : Lns W ao (min len k) cap (zs.take k) := by
  have := h.take (min len k) cap (Nat.min_le_left _ _) (Nat.le_trans (Nat.min_le_left _ _) h.hle) (Nat.le_refl _)
  rw [show zs.take (min len k) = zs.take k by
    by_cases e : len ≤ k
    · rw [Nat.min_eq_left e, List.take_of_length_le (by rw [h.hlen]; exact Nat.le_refl _), List.take_of_length_le (by rw [h.hlen]; exact e)]
    · rw [Nat.min_eq_right (by omega)]] at this
  exact this

end Go.Proofs.YtpaaeojojbdikaaDoor
