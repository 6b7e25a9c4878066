import Derived.Test.YtnahjngbneicaaaGreatDoorPack6
namespace Go.Proofs.YtnahjngbneicaaaGreatDoor
open _root_.Go.Proofs.Tryz
set_option maxRecDepth 100000
open Go.RowKit
def ZoE (r s:Rec):Bool:=r.idx == s.idx && r.proc == s.proc && r.seq == s.seq && (r.op.code == s.op.code && r.op.a == s.op.a && r.op.b == s.op.b) && r.resp == s.resp
theorem Zwt (w:World) (r s:Rec):(binOp .neq 62 (.agg #[.int .i64 r.idx,.int .i64 r.proc,.int .i64 r.seq,.int .i64 r.op.code,.int .i64 r.op.a,.int .i64 r.op.b,.int .i64 r.resp]) (.agg #[.int .i64 s.idx,.int .i64 s.proc,.int .i64 s.seq,.int .i64 s.op.code,.int .i64 s.op.a,.int .i64 s.op.b,.int .i64 s.resp])).run prog w=.ok (.bool (!ZoE r s)) w:=by
 have m:=underlying3;have k:=Tryz.isAgg3;have l:=Tryz.sizeOf3;have i:=underlying52;have j:=Tryz.isAgg52;have g:=Tryz.sizeOf52;have c:prog.underlying 62=some (.struct (prog.fieldsOf 62)):=by kernel_rfl
 have d:prog.stoodInHeld 62=false:=by kernel_rfl
 have f:prog.underlying 52=some (.struct (prog.fieldsOf 52)):=by kernel_rfl
 have e:prog.stoodInHeld 52=false:=by kernel_rfl
 unfold ZoE;rw[run_neq_struct,show(10000:Nat)=9999+1 from rfl,run_equalIn_agg w 9999 62 _ _ c d];simp only [Program.fieldsOf,underlying62]
 go_simp
 repeat' split
 all_goals simp_all
theorem Zwu:prog.eqGuardType prog.depth 62=false:=by kernel_rfl
theorem Zjy (r s:Rec):ZoE r s=true↔r=s:=by
 obtain⟨i,p,q,⟨c,a,b⟩,e⟩:=r;obtain⟨g,f,j,⟨c',a',b'⟩,d⟩:=s;simp[ZoE];constructor
 ·rintro⟨⟨⟨⟨rfl,rfl⟩,rfl⟩,⟨rfl,rfl⟩,rfl⟩,rfl⟩
  simp
 ·rintro⟨rfl,rfl,rfl,⟨rfl,rfl,rfl⟩,rfl⟩
  simp
theorem ZtM (r:Rec):ZoE r r=true:=(Zjy r r).2 rfl
instance:DecidableEq Rec:=fun r s=>decidable_of_iff (ZoE r s=true) (Zjy r s)
end Go.Proofs.YtnahjngbneicaaaGreatDoor
