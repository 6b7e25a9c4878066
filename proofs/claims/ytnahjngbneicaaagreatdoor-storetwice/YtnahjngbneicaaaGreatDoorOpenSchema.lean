import Derived.Test.YtnahjngbneicaaaGreatDoorPack7
import Derived.Test.YtnahjngbneicaaaGreatDoorPack5
namespace Go.Proofs.YtnahjngbneicaaaGreatDoor
open _root_.Go.Proofs.Tryz
set_option maxRecDepth 100000
open Go.RowKit Go.ChangeShapes
theorem ZqL:prog.cellsOf 62=7:=by kernel_rfl
section
variable {H:Type} {enc:TypeId × Value->H} {w:World} {base fuel:Nat} {held:Bool}
theorem ZmG {cs:List Value} {x:DataW H × List MemPlace} (h:DataW.trod enc prog w base (fun _=>true) held fuel 62 cs=some x):
 ∃ (r:Rec),cs=[.int .i64 r.idx,.int .i64 r.proc,.int .i64 r.seq,.int .i64 r.op.code,.int .i64 r.op.a,.int .i64 r.op.b,.int .i64 r.resp]∧Zga r:=by
 obtain⟨xs,n,_,_,t,z,c⟩:=DataW.trod_struct underlying62 h;rw[ZqL] at t
 match xs,z,cs,t with
 | [y0,y1,y2,y3,y4],_,[c0,c1,c2,c3,c4,c5,c6],_=>
  have g:=c 0 _ rfl;have q:=c 1 _ rfl;have l:=c 2 _ rfl;have f:=c 3 _ rfl;have j:=c 4 _ rfl;simp[ZkK,Zon] at g q l f j;obtain⟨i,m,_,C⟩:=DataW.trod_int underlying3 g;obtain⟨p,u,_,B⟩:=DataW.trod_int underlying3 q;obtain⟨s,k,_,A⟩:=DataW.trod_int underlying3 l;obtain⟨o,d,ok⟩:=ZhO f;obtain⟨e,v,_,y⟩:=DataW.trod_int underlying3 j;simp only [List.cons.injEq,and_true] at m u k d v;obtain⟨rfl,rfl,rfl⟩:=d;subst m u k v;exact⟨⟨i,p,s,o,e⟩,rfl,ZbF C,ZbF B,ZbF A,ok,ZbF y⟩
end
end Go.Proofs.YtnahjngbneicaaaGreatDoor
