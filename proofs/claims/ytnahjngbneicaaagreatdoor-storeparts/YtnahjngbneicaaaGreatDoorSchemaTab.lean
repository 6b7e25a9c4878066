import Derived.Test.YtnahjngbneicaaaGreatDoorPack6
import Derived.Test.YtnahjngbneicaaaGreatDoorPack1
import Derived.Test.YtnahjngbneicaaaGreatDoorCards
import Derived.Test.YtnahjngbneicaaaGreatDoorTie
import Derived.LaidMore
import Derived.OpenShut
import Derived.Stop.Joined
namespace Go.Proofs.YtnahjngbneicaaaGreatDoor
set_option maxRecDepth 100000
open Go.ChangeShapes Go.WideShapes Go.ChangeAt Go.RowKit
structure TabF (w:World):Prop where
 lt:0<w.heap.size
 one:∃ x,w.cell? ⟨0,1,none⟩=some x∧RdI w x [1,2,4]
 two:∃ x,w.cell? ⟨0,2,none⟩=some x∧RdI w x [1,2,3,4]
 three:∃ x,w.cell? ⟨0,3,none⟩=some x∧RdI w x [1,2,3,4,5]
theorem gTab : Tryz.prog.globalNamed "ferryman/schema.fieldsOf" = some 0 := by kernel_rfl
theorem ZwU:(Tryz.prog.globals[0]?).map (·.type)=some 282:=by kernel_rfl
theorem Zra {k:IntKind} {H:Type}:∀ {a b:List Int},(lits k a:List (DataW H))=lits k b->a=b
 | [],[],_=>rfl
 | [],y::b,h=>by simp[lits] at h
 | x::a,[],h=>by simp[lits] at h
 | x::a,y::b,h=>by
  simp only [lits,List.map_cons,List.cons.injEq,DataW.lit.injEq,Lit.int.injEq,true_and] at h
  rw[h.1,Zra h.2]
theorem Zgf {H:Type} {enc:TypeId × Value->H} {w:World} {base fuel:Nat} {held:Bool} {cs:List Value} {L:List Int} {p:List MemPlace} (h:DataW.trod enc Tryz.prog w base (fun _=>true) held fuel 23 cs=some (.slice (lits .i64 L) [],p)):∃ x,cs=[x]∧RdI w x L:=by
 rcases open_ints Tryz.underlying23 Tryz.underlying3 (by kernel_rfl) h with ⟨_,hx⟩ | ⟨y,l,c,zs,hcs,_,hl,hm,hz,hx,hcell,hwz⟩
 ·simp at hx
 ·simp only [Prod.mk.injEq,DataW.slice.injEq] at hx
  rw[Zra hx.1.1]
  exact⟨_,hcs,RdI.ofRow hl hm (by simpa using hz) hcell hwz⟩
theorem tabs {W : World} (h : laidMetH Tryz.prog [("ferryman/schema.fieldsOf", Rows.laid_ferryman_schema_fieldsOf)] W) : TabF W := by
 rw[MakeChecks.laidMetH_plain _ _ _ (by kernel_rfl)] at h
 obtain⟨ps,⟨g0,t0,cs0,f0,p0,q0,hg0,ht0,hv0,hd0,_,_⟩,_,_⟩:=h
 obtain rfl:=Option.some.inj (gTab.symm.trans hg0)
 obtain rfl:=Option.some.inj (ZwU.symm.trans ht0)
 obtain⟨xs,m,rfl,hx,hlen,hn,hel⟩:=DataW.trod_array Tryz.underlying282 hd0
 have c1:Tryz.prog.cellsOf 23=1:=by kernel_rfl
 have c4:Tryz.prog.cellsOf 282=4:=by kernel_rfl
 rw[c4] at hlen
 have e1:=hel 1 (by decide)
 have e2:=hel 2 (by decide)
 have e3:=hel 3 (by decide)
 rw[c1] at e1 e2 e3
 simp only [Prod.mk.injEq,Rows.laid_ferryman_schema_fieldsOf,DataW.agg.injEq] at hx
 have hc:=fun i=>World.var?_cell hg0 hv0 i
 match xs,hn,hx,e1,e2,e3,hcs:cs0.toList,hlen with
 | [(x0,y0),(x1,y1),(x2,y2),(x3,y3)],_,hx,e1,e2,e3,[a0,a1,a2,a3],_=>
  have hcc:cs0=#[a0,a1,a2,a3]:=by rw[<-Array.toArray_toList (xs:=cs0),hcs]
  rw[hcs] at e1 e2 e3
  subst hcc
  simp only [List.map_cons,List.map_nil,List.cons.injEq,and_true] at hx
  obtain⟨⟨-,h1,h2,h3⟩,-⟩:=hx
  subst h1 h2 h3
  obtain⟨v1,w1,r1⟩:=Zgf (L:=[1,2,4]) (p:=y1) e1
  obtain⟨v2,w2,r2⟩:=Zgf (L:=[1,2,3,4]) (p:=y2) e2
  obtain⟨v3,w3,r3⟩:=Zgf (L:=[1,2,3,4,5]) (p:=y3) e3
  simp at w1 w2 w3
  subst w1 w2 w3
  refine⟨?_,⟨_,hc 1,r1⟩,⟨_,hc 2,r2⟩,⟨_,hc 3,r3⟩⟩
  have h:=hc 1
  unfold World.cell? at h
  cases hh:W.heap[0]? with
  | none=>rw[hh] at h;simp at h
  | some o=>exact(Array.getElem?_eq_some_iff.1 hh).1
theorem ZwV (os : Os) (args : Array Value) : laidMetH Tryz.prog [("ferryman/schema.fieldsOf", Rows.laid_ferryman_schema_fieldsOf)] ((World.doorLaid Tryz.prog 400 os).forCall (fun _ _ => 0) ⟨#[], args, []⟩).memory :=
 laidMetH_of_parts3 (fuel:=8) (laidMet_of_run' 8 (by kernel_rfl) (by kernel_rfl)) (by kernel_rfl) (by kernel_rfl)
end Go.Proofs.YtnahjngbneicaaaGreatDoor
