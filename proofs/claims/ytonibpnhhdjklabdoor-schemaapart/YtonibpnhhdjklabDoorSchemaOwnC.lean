/- Contracts of schema: getValue, passOver. -/
import Derived.Test.YtonibpnhhdjklabDoorSchemaOwnA
import Derived.Test.YtonibpnhhdjklabDoorCodecGet
namespace Go.Proofs.YtonibpnhhdjklabDoor
open Go.RowKit

theorem But.ofBelow {R T : Nat} {w w' : World} (h : Below w.heap.size w w') : But R T w w' := ⟨h.os, h.tape, h.output, h.size, fun k hk _ _ => h.block k hk⟩

/-- A record's box. -/
def Bx7 (w : World) (b : Nat) (r : Rec) : Prop := Br w b #[.int .i64 r.idx, .int .i64 r.proc, .int .i64 r.seq, .int .i64 r.op.code, .int .i64 r.op.a, .int .i64 r.op.b, .int .i64 r.resp]

/-- How many bytes a field to be passed over takes; 0: it is none. -/
def passN (l : List UInt8) : Nat := if (dec62 l).2 = 0 ∨ l.length < (dec62 l).2 + (dec62 l).1 then 0 else (dec62 l).2 + (dec62 l).1

end Go.Proofs.YtonibpnhhdjklabDoor
