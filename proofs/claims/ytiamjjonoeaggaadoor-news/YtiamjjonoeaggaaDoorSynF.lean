import Derived.Test.YtiamjjonoeaggaaDoorSynE
namespace Go.Proofs.YtiamjjonoeaggaaDoor
open Go.RowKit

def node0 (t : PTok) : PNode := ⟨t.kind, t.pos, t.name, 0, 0, 0, 0, 0, 0, 0, 0, 0, false, -1, -1⟩
def headR (ts : List PTok) (nx : Nat) : Bool × Nat × PNode :=
  if beginK (hereT ts nx).kind = true then
    if (hereT ts nx).kind = 2 then argsR ts (nx + 1) (node0 (hereT ts nx))
    else if (hereT ts nx).kind = 9 then
      if varK (hereT ts (nx + 1)).kind = true then (true, nx + 2, { node0 (hereT ts nx) with var := (hereT ts (nx + 1)).kind }) else (false, nx + 1, node0 (hereT ts nx))
    else if spanK (hereT ts nx).kind = true then spanR ts (nx + 1) (node0 (hereT ts nx))
    else (true, nx + 1, node0 (hereT ts nx))
  else (false, nx, node0 (hereT ts nx))
abbrev nodeV (n : PNode) : Value := .agg #[.int .i64 n.kind, .int .i64 n.pos, .int .u8 (padC n.name 0), .int .u8 (padC n.name 1), .int .u8 (padC n.name 2), .int .u8 (padC n.name 3), .int .u8 (padC n.name 4), .int .u8 (padC n.name 5), .int .u8 (padC n.name 6), .int .u8 (padC n.name 7), .int .i64 n.k0, .int .i64 n.v0, .int .i64 n.k1, .int .i64 n.v1, .int .i64 n.cnt, .int .i64 n.var, .int .i64 n.sat, .int .i64 n.slo, .int .i64 n.shi, .bool n.sop, .int .i64 n.fst, .int .i64 n.snd]
end Go.Proofs.YtiamjjonoeaggaaDoor
