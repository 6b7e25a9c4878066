import Derived.Test.YtnahjngbneicaaaGreatDoorPack7
namespace Go.Proofs.YtnahjngbneicaaaGreatDoor
open _root_.Go.Proofs.Tryz
set_option maxRecDepth 100000
open Go.RowKit Go.ChangeShapes
theorem Znv:prog.cellsOf 62=7:=by kernel_rfl
section
variable {H:Type} {enc:TypeId × Value->H} {w:World} {base fuel:Nat} {held:Bool}
theorem Zjq {cs:List Value} {x:DataW H × List MemPlace} (h:DataW.trod enc prog w base (fun _=>true) held fuel 62 cs=some x):
 ∃ (r:Rec),cs=[.int .i64 r.idx,.int .i64 r.proc,.int .i64 r.seq,.int .i64 r.op.code,.int .i64 r.op.a,.int .i64 r.op.b,.int .i64 r.resp]∧ZcK r:=by
 obtain⟨xs,n,_,_,j,y,c⟩:=DataW.trod_struct underlying62 h;rw[Znv] at j
 match xs,y,cs,j with
 | [y0,y1,y2,y3,y4],_,[c0,c1,c2,c3,c4,c5,c6],_=>
  have k:=c 0 _ rfl;have l:=c 1 _ rfl;have m:=c 2 _ rfl;have v:=c 3 _ rfl;have g:=c 4 _ rfl;simp[Zhu,ZkX] at k l m v g;obtain⟨i,f,_,C⟩:=DataW.trod_int underlying3 k;obtain⟨p,d,_,A⟩:=DataW.trod_int underlying3 l;obtain⟨s,q,_,B⟩:=DataW.trod_int underlying3 m;obtain⟨o,u,ok⟩:=Zey v;obtain⟨e,t,_,z⟩:=DataW.trod_int underlying3 g;simp only [List.cons.injEq,and_true] at f d q u t;obtain⟨rfl,rfl,rfl⟩:=u;subst f d q t;exact⟨⟨i,p,s,o,e⟩,rfl,Zb C,Zb A,Zb B,ok,Zb z⟩
end
end Go.Proofs.YtnahjngbneicaaaGreatDoor
