import Derived.Test.YtfiffndhehkapaaGreatDoorPack5
import Derived.Laws.StructEq
namespace Go.Proofs.YtfiffndhehkapaaGreatDoor
set_option maxRecDepth 100000
open Go.RowKit
def Zqn (r s:Rec):Bool:=r.idx == s.idx && r.proc == s.proc && r.seq == s.seq && (r.op.code == s.op.code && r.op.a == s.op.a && r.op.b == s.op.b) && r.resp == s.resp
theorem ZxF (w:World) (r s:Rec):(binOp .neq 63 (.agg #[.int .i64 r.idx,.int .i64 r.proc,.int .i64 r.seq,.int .i64 r.op.code,.int .i64 r.op.a,.int .i64 r.op.b,.int .i64 r.resp]) (.agg #[.int .i64 s.idx,.int .i64 s.proc,.int .i64 s.seq,.int .i64 s.op.code,.int .i64 s.op.a,.int .i64 s.op.b,.int .i64 s.resp])).run Tryz.prog w=.ok (.bool (!Zqn r s)) w:=by
 have u3:=Tryz.underlying3
 have a3:=Tryz.isAgg3
 have z3:=Tryz.sizeOf3
 have u4:=Tryz.underlying52
 have a4:=Tryz.isAgg52
 have z4:=Tryz.sizeOf52
 have hS:Tryz.prog.underlying 63=some (.struct (Tryz.prog.fieldsOf 63)):=by kernel_rfl
 have hp:Tryz.prog.stoodInHeld 63=false:=by kernel_rfl
 have hS4:Tryz.prog.underlying 52=some (.struct (Tryz.prog.fieldsOf 52)):=by kernel_rfl
 have hp4:Tryz.prog.stoodInHeld 52=false:=by kernel_rfl
 unfold Zqn
 rw[run_neq_struct,show(10000:Nat)=9999+1 from rfl,run_equalIn_agg w 9999 63 _ _ hS hp]
 simp only [Program.fieldsOf,Tryz.underlying63]
 go_simp
 repeat' split
 all_goals simp_all
theorem ZxG:Tryz.prog.eqGuardType Tryz.prog.depth 63=false:=by kernel_rfl
theorem ZlF (r s:Rec):Zqn r s=true↔r=s:=by
 obtain⟨i,p,q,⟨c,a,b⟩,e⟩:=r
 obtain⟨i',p',q',⟨c',a',b'⟩,e'⟩:=s
 simp[Zqn]
 constructor
 ·rintro⟨⟨⟨⟨rfl,rfl⟩,rfl⟩,⟨rfl,rfl⟩,rfl⟩,rfl⟩
  simp
 ·rintro⟨rfl,rfl,rfl,⟨rfl,rfl,rfl⟩,rfl⟩
  simp
theorem Zvf (r:Rec):Zqn r r=true:=(ZlF r r).2 rfl
instance:DecidableEq Rec:=fun r s=>decidable_of_iff (Zqn r s=true) (ZlF r s)
end Go.Proofs.YtfiffndhehkapaaGreatDoor
