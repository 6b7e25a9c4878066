import Derived.Test.YtnahjngbneicaaaGreatDoorPack7
namespace Go.Proofs.YtnahjngbneicaaaGreatDoor
open _root_.Go.Proofs.Tryz
set_option maxRecDepth 100000
open Go.RowKit Go.ChangeShapes
theorem ZqL:prog.cellsOf 62=7:=by kernel_rfl
section
variable {H:Type} {enc:TypeId × Value->H} {w:World} {base fuel:Nat} {held:Bool}
theorem ZmG {cs:List Value} {x:DataW H × List MemPlace} (h:DataW.trod enc prog w base (fun _=>true) held fuel 62 cs=some x):
 ∃ (r:Rec),cs=[.int .i64 r.idx,.int .i64 r.proc,.int .i64 r.seq,.int .i64 r.op.code,.int .i64 r.op.a,.int .i64 r.op.b,.int .i64 r.resp]∧Zga r:=by
 obtain⟨xs,n,_,_,t,y,c⟩:=DataW.trod_struct underlying62 h;rw[ZqL] at t
 match xs,y,cs,t with
 | [y0,y1,y2,y3,y4],_,[c0,c1,c2,c3,c4,c5,c6],_=>
  have f:=c 0 _ rfl;have j:=c 1 _ rfl;have k:=c 2 _ rfl;have m:=c 3 _ rfl;have l:=c 4 _ rfl;simp[ZkK,Zon] at f j k m l;obtain⟨i,q,_,z⟩:=DataW.trod_int underlying3 f;obtain⟨p,u,_,A⟩:=DataW.trod_int underlying3 j;obtain⟨s,g,_,B⟩:=DataW.trod_int underlying3 k;obtain⟨o,v,ok⟩:=ZhO m;obtain⟨e,d,_,C⟩:=DataW.trod_int underlying3 l;simp only [List.cons.injEq,and_true] at q u g v d;obtain⟨rfl,rfl,rfl⟩:=v;subst q u g d;exact⟨⟨i,p,s,o,e⟩,rfl,ZbF z,ZbF A,ZbF B,ok,ZbF C⟩
end
end Go.Proofs.YtnahjngbneicaaaGreatDoor
