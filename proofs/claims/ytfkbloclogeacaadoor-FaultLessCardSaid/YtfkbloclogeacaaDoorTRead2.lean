/-
  The contract of package tte's Read. Conditions: words are below 2 to the 64.
-/
import Derived.Test.YtfkbloclogeacaaDoorTRead
namespace Go.Proofs.YtfkbloclogeacaaDoor.Fld
open Go.ChangeShapes Go.WideShapes Go.ChangeAt Go.RowKit
set_option maxHeartbeats 1000000
set_option maxRecDepth 100000
theorem ret_read {g h : Ent} {n m : Int} (e1 : g = h) (e2 : n = m) : Ending.returned (.tuple #[.agg #[.int .i64 g.size, .int .i64 g.ctx, .int .u64 g.va, .int .u64 g.pa, .bool g.att.write, .bool g.att.priv, .bool g.att.exec, .bool g.att.lock, .bool g.att.global, .bool g.att.quiet, .bool g.valid], .int .i64 n]) = .returned (.tuple #[.agg #[.int .i64 h.size, .int .i64 h.ctx, .int .u64 h.va, .int .u64 h.pa, .bool h.att.write, .bool h.att.priv, .bool h.att.exec, .bool h.att.lock, .bool h.att.global, .bool h.att.quiet, .bool h.valid], .int .i64 m]) := by rw [e1, e2]
end Go.Proofs.YtfkbloclogeacaaDoor.Fld
