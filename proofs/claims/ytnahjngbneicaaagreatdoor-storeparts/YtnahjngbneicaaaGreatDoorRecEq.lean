import Derived.Test.YtnahjngbneicaaaGreatDoorPack4
import Derived.Laws.StructEq
namespace Go.Proofs.YtnahjngbneicaaaGreatDoor
set_option maxRecDepth 100000
open Go.RowKit
def ZoH (r s:Rec):Bool:=r.idx == s.idx && r.proc == s.proc && r.seq == s.seq && (r.op.code == s.op.code && r.op.a == s.op.a && r.op.b == s.op.b) && r.resp == s.resp
theorem Zvs (w:World) (r s:Rec):(binOp .neq 62 (.agg #[.int .i64 r.idx,.int .i64 r.proc,.int .i64 r.seq,.int .i64 r.op.code,.int .i64 r.op.a,.int .i64 r.op.b,.int .i64 r.resp]) (.agg #[.int .i64 s.idx,.int .i64 s.proc,.int .i64 s.seq,.int .i64 s.op.code,.int .i64 s.op.a,.int .i64 s.op.b,.int .i64 s.resp])).run Tryz.prog w=.ok (.bool (!ZoH r s)) w:=by
 have u3:=Tryz.underlying3
 have a3:=Tryz.isAgg3
 have z3:=Tryz.sizeOf3
 have u4:=Tryz.underlying52
 have a4:=Tryz.isAgg52
 have z4:=Tryz.sizeOf52
 have hS:Tryz.prog.underlying 62=some (.struct (Tryz.prog.fieldsOf 62)):=by kernel_rfl
 have hp:Tryz.prog.stoodInHeld 62=false:=by kernel_rfl
 have hS4:Tryz.prog.underlying 52=some (.struct (Tryz.prog.fieldsOf 52)):=by kernel_rfl
 have hp4:Tryz.prog.stoodInHeld 52=false:=by kernel_rfl
 unfold ZoH
 rw[run_neq_struct,show(10000:Nat)=9999+1 from rfl,run_equalIn_agg w 9999 62 _ _ hS hp]
 simp only [Program.fieldsOf,Tryz.underlying62]
 go_simp
 repeat' split
 all_goals simp_all
theorem Zvt:Tryz.prog.eqGuardType Tryz.prog.depth 62=false:=by kernel_rfl
theorem Zkm (r s:Rec):ZoH r s=true↔r=s:=by
 obtain⟨i,p,q,⟨c,a,b⟩,e⟩:=r
 obtain⟨i',p',q',⟨c',a',b'⟩,e'⟩:=s
 simp[ZoH]
 constructor
 ·rintro⟨⟨⟨⟨rfl,rfl⟩,rfl⟩,⟨rfl,rfl⟩,rfl⟩,rfl⟩
  simp
 ·rintro⟨rfl,rfl,rfl,⟨rfl,rfl,rfl⟩,rfl⟩
  simp
theorem Zta (r:Rec):ZoH r r=true:=(Zkm r r).2 rfl
instance:DecidableEq Rec:=fun r s=>decidable_of_iff (ZoH r s=true) (Zkm r s)
end Go.Proofs.YtnahjngbneicaaaGreatDoor
