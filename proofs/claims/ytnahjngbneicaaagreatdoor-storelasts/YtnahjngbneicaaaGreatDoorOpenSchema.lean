import Derived.Test.YtnahjngbneicaaaGreatDoorPack7
namespace Go.Proofs.YtnahjngbneicaaaGreatDoor
open _root_.Go.Proofs.Tryz
set_option maxRecDepth 100000
open Go.RowKit Go.ChangeShapes
theorem Zoi:prog.cellsOf 62=7:=by kernel_rfl
section
variable {H:Type} {enc:TypeId × Value->H} {w:World} {base fuel:Nat} {held:Bool}
theorem ZjY {cs:List Value} {x:DataW H × List MemPlace} (h:DataW.trod enc prog w base (fun _=>true) held fuel 62 cs=some x):
 ∃ (r:Rec),cs=[.int .i64 r.idx,.int .i64 r.proc,.int .i64 r.seq,.int .i64 r.op.code,.int .i64 r.op.a,.int .i64 r.op.b,.int .i64 r.resp]∧Zcx r:=by
 obtain⟨xs,n,_,_,l,C,c⟩:=zgf underlying62 h;rw[Zoi] at l
 match xs,C,cs,l with
 | [y0,y1,y2,y3,y4],_,[c0,c1,c2,c3,c4,c5,c6],_=>
  have k:=c 0 _ rfl;have j:=c 1 _ rfl;have q:=c 2 _ rfl;have d:=c 3 _ rfl;have m:=c 4 _ rfl;simp[ZhT,ZlI] at k j q d m;obtain⟨i,g,_,z⟩:=zdd underlying3 k;obtain⟨p,v,_,B⟩:=zdd underlying3 j;obtain⟨s,u,_,y⟩:=zdd underlying3 q;obtain⟨o,t,ok⟩:=ZeI d;obtain⟨e,f,_,A⟩:=zdd underlying3 m;simp only [zep,zew] at g v u t f;obtain⟨rfl,rfl,rfl⟩:=t;subst g v u f;exact⟨⟨i,p,s,o,e⟩,rfl,Z1 z,Z1 B,Z1 y,ok,Z1 A⟩
end
end Go.Proofs.YtnahjngbneicaaaGreatDoor
