import Derived.Test.YtnahjngbneicaaaGreatDoorPack7
namespace Go.Proofs.YtnahjngbneicaaaGreatDoor
open _root_.Go.Proofs.Tryz
set_option maxRecDepth 100000
open Go.RowKit Go.ChangeShapes
theorem Znv:prog.cellsOf 62=7:=by kernel_rfl
section
variable {H:Type} {enc:TypeId × Value->H} {w:World} {base fuel:Nat} {held:Bool}
theorem Zjq {cs:List Value} {x:DataW H × List MemPlace} (h:DataW.trod enc prog w base (fun _=>true) held fuel 62 cs=some x):
 ∃ (r:Rec),cs=[.int .i64 r.idx,.int .i64 r.proc,.int .i64 r.seq,.int .i64 r.op.code,.int .i64 r.op.a,.int .i64 r.op.b,.int .i64 r.resp]∧ZcK r:=by
 obtain⟨xs,n,_,_,g,C,c⟩:=DataW.trod_struct underlying62 h;rw[Znv] at g
 match xs,C,cs,g with
 | [y0,y1,y2,y3,y4],_,[c0,c1,c2,c3,c4,c5,c6],_=>
  have m:=c 0 _ rfl;have d:=c 1 _ rfl;have j:=c 2 _ rfl;have f:=c 3 _ rfl;have t:=c 4 _ rfl;simp[Zhu,ZkX] at m d j f t;obtain⟨i,l,_,z⟩:=DataW.trod_int underlying3 m;obtain⟨p,u,_,y⟩:=DataW.trod_int underlying3 d;obtain⟨s,k,_,B⟩:=DataW.trod_int underlying3 j;obtain⟨o,q,ok⟩:=Zey f;obtain⟨e,v,_,A⟩:=DataW.trod_int underlying3 t;simp only [List.cons.injEq,and_true] at l u k q v;obtain⟨rfl,rfl,rfl⟩:=q;subst l u k v;exact⟨⟨i,p,s,o,e⟩,rfl,Zb z,Zb y,Zb B,ok,Zb A⟩
end
end Go.Proofs.YtnahjngbneicaaaGreatDoor
