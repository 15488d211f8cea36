/- What a law leans on of the package: its six calls. -/
import Derived.Test.YtciohfeifihobaaDoorCeEnv
namespace Go.Proofs.YtciohfeifihobaaDoor
open Go.RowKit Go.Proofs.Cats Go.Proofs.Cel Go.Shelf Go.Sort

/-- The six calls, each told. -/
structure Api : Prop where
  reads : ∀ {cur a : Lab} {r : Bool} {w : World}, cur.fits → a.fits → readsL cur a = r → Ce w → Calls Tryd.prog 18 #[.agg #[.int .i64 cur.l, .int .u64 cur.c, .int .i64 cur.i], .agg #[.int .i64 a.l, .int .u64 a.c, .int .i64 a.i]] w (BoolP r w)
  writes : ∀ {cur a : Lab} {r : Bool} {w : World}, cur.fits → a.fits → writesL cur a = r → Ce w → Calls Tryd.prog 20 #[.agg #[.int .i64 cur.l, .int .u64 cur.c, .int .i64 cur.i], .agg #[.int .i64 a.l, .int .u64 a.c, .int .i64 a.i]] w (BoolP r w)
  send : ∀ {cur a : Lab} {c : Int} {r : Bool} {w : World}, cur.fits → a.fits → sendL cur a = (c, r) → Ce w → Calls Tryd.prog 14 #[.agg #[.int .i64 cur.l, .int .u64 cur.c, .int .i64 cur.i], .agg #[.int .i64 a.l, .int .u64 a.c, .int .i64 a.i]] w (BeP c r w)
  gain : ∀ {cur a x : Lab} {c : Int} {w : World}, cur.fits → a.fits → gainL cur a = (c, x) → Ce w → Calls Tryd.prog 16 #[.agg #[.int .i64 cur.l, .int .u64 cur.c, .int .i64 cur.i], .agg #[.int .i64 a.l, .int .u64 a.c, .int .i64 a.i]] w (LaP c x w)
  float : ∀ {cur a high x : Lab} {c : Int} {w : World}, cur.fits → a.fits → high.fits → floatL cur a high = (c, x) → Ce w → Calls Tryd.prog 12 #[.agg #[.int .i64 cur.l, .int .u64 cur.c, .int .i64 cur.i], .agg #[.int .i64 a.l, .int .u64 a.c, .int .i64 a.i], .agg #[.int .i64 high.l, .int .u64 high.c, .int .i64 high.i]] w (LaP c x w)
  path : ∀ {cur high x : Lab} {zs : List Lab} {ao : Option Addr} {len cap : Nat} {c : Int} {n : Nat} {w : World}, cur.fits → high.fits → Labs w.heap.size w (.slice ao len cap) zs → zs.length ≤ 1000 → len ≤ cap → cap ≤ maxLen → pathL cur zs high = (c, n, x) → Ce w → Calls Tryd.prog 22 #[.agg #[.int .i64 cur.l, .int .u64 cur.c, .int .i64 cur.i], .slice ao len cap, .agg #[.int .i64 high.l, .int .u64 high.c, .int .i64 high.i]] w (LnP c n x w)
theorem rg_bool {f : FuncId} {args : Array Value} {V : World} {v : Bool} (h : ∀ W, Below V.heap.size V W → Calls Tryd.prog f args W (BoolP v W)) : ∀ d os, Calls Tryd.prog f args (grow (redrawn V d) os) fun e w'' => e = .returned (.bool v) ∧ ∃ p : Regrown, w'' = grow (redrawn V p.d) p.os :=
  fun d os => Calls.regrown_of (h _ (below_regrown V d os))
theorem rg_be {f : FuncId} {args : Array Value} {V : World} {v : Bool} {c : Int} (h : ∀ W, Below V.heap.size V W → Calls Tryd.prog f args W (BeP c v W)) : ∀ d os, Calls Tryd.prog f args (grow (redrawn V d) os) fun e w'' => e = .returned (.tuple #[.bool v, .int .i64 c]) ∧ ∃ p : Regrown, w'' = grow (redrawn V p.d) p.os :=
  fun d os => Calls.regrown_of (h _ (below_regrown V d os))
end Go.Proofs.YtciohfeifihobaaDoor
