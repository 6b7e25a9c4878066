import Derived.Test.YtfiffndhehkapaaGreatDoorPack6
import Derived.Test.YtfiffndhehkapaaGreatDoorPack5
namespace Go.Proofs.YtfiffndhehkapaaGreatDoor
set_option maxRecDepth 100000
open Go.RowKit Go.ChangeShapes
theorem ZpZ:Tryz.prog.cellsOf 63=7:=by kernel_rfl
section
variable {H:Type} {enc:TypeId × Value->H} {w:World} {base fuel:Nat} {held:Bool}
theorem Zme {cs:List Value} {x:DataW H × List MemPlace} (h:DataW.trod enc Tryz.prog w base (fun _=>true) held fuel 63 cs=some x):
 ∃ (r:Rec),cs=[.int .i64 r.idx,.int .i64 r.proc,.int .i64 r.seq,.int .i64 r.op.code,.int .i64 r.op.a,.int .i64 r.op.b,.int .i64 r.resp]∧ZfA r:=by
 obtain⟨xs,n,_,_,hl,hxl,hf⟩:=DataW.trod_struct Tryz.underlying63 h
 rw[ZpZ] at hl
 match xs,hxl,cs,hl with
 | [y0,y1,y2,y3,y4],_,[c0,c1,c2,c3,c4,c5,c6],_=>
  have g0:=hf 0 _ rfl
  have g1:=hf 1 _ rfl
  have g2:=hf 2 _ rfl
  have g3:=hf 3 _ rfl
  have g4:=hf 4 _ rfl
  simp[Zkk,ZnM] at g0 g1 g2 g3 g4
  obtain⟨i,hi,_,wi⟩:=DataW.trod_int Tryz.underlying3 g0
  obtain⟨p,hp,_,wp⟩:=DataW.trod_int Tryz.underlying3 g1
  obtain⟨s,hs,_,ws⟩:=DataW.trod_int Tryz.underlying3 g2
  obtain⟨o,ho,ok⟩:=Zhx g3
  obtain⟨e,he,_,we⟩:=DataW.trod_int Tryz.underlying3 g4
  simp only [List.cons.injEq,and_true] at hi hp hs ho he
  obtain⟨rfl,rfl,rfl⟩:=ho
  subst hi hp hs he
  exact⟨⟨i,p,s,o,e⟩,rfl,Zce wi,Zce wp,Zce ws,ok,Zce we⟩
end
end Go.Proofs.YtfiffndhehkapaaGreatDoor
