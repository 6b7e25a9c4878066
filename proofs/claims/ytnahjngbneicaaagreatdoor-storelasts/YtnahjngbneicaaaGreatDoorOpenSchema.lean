import Derived.Test.YtnahjngbneicaaaGreatDoorPack7
namespace Go.Proofs.YtnahjngbneicaaaGreatDoor
open _root_.Go.Proofs.Tryz
set_option maxRecDepth 100000
open Go.RowKit Go.ChangeShapes
theorem Zoi:prog.cellsOf 62=7:=by kernel_rfl
section
variable {H:Type} {enc:TypeId × Value->H} {w:World} {base fuel:Nat} {held:Bool}
theorem ZjY {cs:List Value} {x:DataW H × List MemPlace} (h:DataW.trod enc prog w base (fun _=>true) held fuel 62 cs=some x):
 ∃ (r:Rec),cs=[.int .i64 r.idx,.int .i64 r.proc,.int .i64 r.seq,.int .i64 r.op.code,.int .i64 r.op.a,.int .i64 r.op.b,.int .i64 r.resp]∧Zcx r:=by
 obtain⟨xs,n,_,_,g,y,c⟩:=DataW.trod_struct underlying62 h;rw[Zoi] at g
 match xs,y,cs,g with
 | [y0,y1,y2,y3,y4],_,[c0,c1,c2,c3,c4,c5,c6],_=>
  have l:=c 0 _ rfl;have k:=c 1 _ rfl;have t:=c 2 _ rfl;have q:=c 3 _ rfl;have d:=c 4 _ rfl;simp[ZhT,ZlI] at l k t q d;obtain⟨i,f,_,B⟩:=DataW.trod_int underlying3 l;obtain⟨p,v,_,A⟩:=DataW.trod_int underlying3 k;obtain⟨s,u,_,z⟩:=DataW.trod_int underlying3 t;obtain⟨o,j,ok⟩:=ZeI q;obtain⟨e,m,_,C⟩:=DataW.trod_int underlying3 d;simp only [List.cons.injEq,and_true] at f v u j m;obtain⟨rfl,rfl,rfl⟩:=j;subst f v u m;exact⟨⟨i,p,s,o,e⟩,rfl,Z1 B,Z1 A,Z1 z,ok,Z1 C⟩
end
end Go.Proofs.YtnahjngbneicaaaGreatDoor
