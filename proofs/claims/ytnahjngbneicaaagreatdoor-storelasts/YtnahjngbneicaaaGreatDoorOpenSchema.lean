import Derived.Test.YtnahjngbneicaaaGreatDoorPack7
namespace Go.Proofs.YtnahjngbneicaaaGreatDoor
open _root_.Go.Proofs.Tryz
set_option maxRecDepth 100000
open Go.RowKit Go.ChangeShapes
theorem Zoi:prog.cellsOf 62=7:=by kernel_rfl
section
variable {H:Type} {enc:TypeId × Value->H} {w:World} {base fuel:Nat} {held:Bool}
theorem ZjY {cs:List Value} {x:DataW H × List MemPlace} (h:DataW.trod enc prog w base (fun _=>true) held fuel 62 cs=some x):
 ∃ (r:Rec),cs=[.int .i64 r.idx,.int .i64 r.proc,.int .i64 r.seq,.int .i64 r.op.code,.int .i64 r.op.a,.int .i64 r.op.b,.int .i64 r.resp]∧Zcx r:=by
 obtain⟨xs,n,_,_,f,A,c⟩:=DataW.trod_struct underlying62 h;rw[Zoi] at f
 match xs,A,cs,f with
 | [y0,y1,y2,y3,y4],_,[c0,c1,c2,c3,c4,c5,c6],_=>
  have d:=c 0 _ rfl;have v:=c 1 _ rfl;have m:=c 2 _ rfl;have k:=c 3 _ rfl;have l:=c 4 _ rfl;simp[ZhT,ZlI] at d v m k l;obtain⟨i,g,_,B⟩:=DataW.trod_int underlying3 d;obtain⟨p,q,_,C⟩:=DataW.trod_int underlying3 v;obtain⟨s,j,_,y⟩:=DataW.trod_int underlying3 m;obtain⟨o,t,ok⟩:=ZeI k;obtain⟨e,u,_,z⟩:=DataW.trod_int underlying3 l;simp only [List.cons.injEq,and_true] at g q j t u;obtain⟨rfl,rfl,rfl⟩:=t;subst g q j u;exact⟨⟨i,p,s,o,e⟩,rfl,Z1 B,Z1 C,Z1 y,ok,Z1 z⟩
end
end Go.Proofs.YtnahjngbneicaaaGreatDoor
