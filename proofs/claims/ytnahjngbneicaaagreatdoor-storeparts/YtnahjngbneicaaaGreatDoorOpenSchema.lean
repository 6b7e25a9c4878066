import Derived.Test.YtnahjngbneicaaaGreatDoorPack6
import Derived.Test.YtnahjngbneicaaaGreatDoorPack4
namespace Go.Proofs.YtnahjngbneicaaaGreatDoor
set_option maxRecDepth 100000
open Go.RowKit Go.ChangeShapes
theorem Zow:Tryz.prog.cellsOf 62=7:=by kernel_rfl
section
variable {H:Type} {enc:TypeId × Value->H} {w:World} {base fuel:Nat} {held:Bool}
theorem ZkL {cs:List Value} {x:DataW H × List MemPlace} (h:DataW.trod enc Tryz.prog w base (fun _=>true) held fuel 62 cs=some x):
 ∃ (r:Rec),cs=[.int .i64 r.idx,.int .i64 r.proc,.int .i64 r.seq,.int .i64 r.op.code,.int .i64 r.op.a,.int .i64 r.op.b,.int .i64 r.resp]∧Zfw r:=by
 obtain⟨xs,n,_,_,hl,hxl,hf⟩:=DataW.trod_struct Tryz.underlying62 h
 rw[Zow] at hl
 match xs,hxl,cs,hl with
 | [y0,y1,y2,y3,y4],_,[c0,c1,c2,c3,c4,c5,c6],_=>
  have g0:=hf 0 _ rfl
  have g1:=hf 1 _ rfl
  have g2:=hf 2 _ rfl
  have g3:=hf 3 _ rfl
  have g4:=hf 4 _ rfl
  simp[Zjj,Zmi] at g0 g1 g2 g3 g4
  obtain⟨i,hi,_,wi⟩:=DataW.trod_int Tryz.underlying3 g0
  obtain⟨p,hp,_,wp⟩:=DataW.trod_int Tryz.underlying3 g1
  obtain⟨s,hs,_,ws⟩:=DataW.trod_int Tryz.underlying3 g2
  obtain⟨o,ho,ok⟩:=ZgD g3
  obtain⟨e,he,_,we⟩:=DataW.trod_int Tryz.underlying3 g4
  simp only [List.cons.injEq,and_true] at hi hp hs ho he
  obtain⟨rfl,rfl,rfl⟩:=ho
  subst hi hp hs he
  exact⟨⟨i,p,s,o,e⟩,rfl,ZbO wi,ZbO wp,ZbO ws,ok,ZbO we⟩
end
end Go.Proofs.YtnahjngbneicaaaGreatDoor
