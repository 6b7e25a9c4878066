import Derived.Test.YtnahjngbneicaaaGreatDoorPack7
import Derived.Test.YtnahjngbneicaaaGreatDoorCards
import Derived.Test.YtnahjngbneicaaaGreatDoorTie
import Derived.LaidMore
import Derived.OpenShut
namespace Go.Proofs.YtnahjngbneicaaaGreatDoor
open _root_.Go.Proofs.Tryz
open List (map_cons)
set_option maxRecDepth 100000
open Go.ChangeShapes Go.WideShapes Go.ChangeAt Go.RowKit
structure TabF (w:World):Prop where
 lt:0<w.heap.size
 one:∃ x,w.cell? ⟨0,1,none⟩=some x∧RdI w x [1,2,4]
 two:∃ x,w.cell? ⟨0,2,none⟩=some x∧RdI w x [1,2,3,4]
 three:∃ x,w.cell? ⟨0,3,none⟩=some x∧RdI w x [1,2,3,4,5]
theorem gTab : prog.globalNamed "ferryman/schema.fieldsOf" = some 0 := by kernel_rfl
theorem Zyc:(prog.globals[0]?).map (·.type)=some 282:=by kernel_rfl
theorem Zrs {k:IntKind} {H:Type}:∀ {a b:List Int},(lits k a:List (DataW H))=lits k b->a=b
 | [],[],_=>rfl
 | [],y::b,h=>by simp[lits] at h
 | x::a,[],h=>by simp[lits] at h
 | x::a,y::b,h=>by
  simp only [lits,map_cons,zep,DataW.lit.injEq,Lit.int.injEq,zf3] at h;rw[h.1,Zrs h.2]
theorem Zee {H:Type} {enc:TypeId × Value->H} {w:World} {base fuel:Nat} {i:Bool} {cs:List Value} {L:List Int} {p:List MemPlace} (h:DataW.trod enc prog w base (fun _=>true) i fuel 23 cs=some (.slice (lits .i64 L) [],p)):∃ x,cs=[x]∧RdI w x L:=by
 rcases open_ints underlying23 underlying3 (by kernel_rfl) h with ⟨_,a⟩ | ⟨y,l,c,k,e,_,g,j,b,a,d,f⟩
 ·simp at a
 ·simp only [zca,DataW.slice.injEq] at a
  rw[Zrs a.1.1];exact⟨_,e,RdI.ofRow g j (by simpa using b) d f⟩
theorem tabs {W : World} (h : laidMetH prog [("ferryman/schema.fieldsOf", Rows.laid_ferryman_schema_fieldsOf)] W) : TabF W := by
 rw[MakeChecks.laidMetH_plain _ _ _ (by kernel_rfl)] at h
 obtain⟨ps,⟨I,J,g,N,O,G,j,z,x,v,_,_⟩,_,_⟩:=h;obtain rfl:=zak (gTab.symm.trans j);obtain rfl:=zak (Zyc.symm.trans z);obtain⟨xs,m,rfl,c,k,y,f⟩:=DataW.trod_array underlying282 v;have u:prog.cellsOf 23=1:=by kernel_rfl
 have B:prog.cellsOf 282=4:=by kernel_rfl
 rw[B] at k;have a:=f 1 (by decide)
 have b:=f 2 (by decide)
 have d:=f 3 (by decide)
 rw[u] at a b d;simp only [zca,Rows.laid_ferryman_schema_fieldsOf,DataW.agg.injEq] at c;have e:=fun i=>World.var?_cell j x i
 match xs,y,c,a,b,d,hcs:g.toList,k with
 | [(x0,y0),(x1,y1),(x2,y2),(x3,y3)],_,c,a,b,d,[a0,a1,a2,a3],_=>
  have A:g=#[a0,a1,a2,a3]:=by rw[<-Array.toArray_toList (xs:=g),hcs]
  rw[hcs] at a b d;subst A;simp only [map_cons,zgo,zep,zew] at c;obtain⟨⟨-,F,C,t⟩,-⟩:=c;subst F C t;obtain⟨K,q,w⟩:=Zee (L:=[1,2,4]) (p:=y1) a;obtain⟨H,l,E⟩:=Zee (L:=[1,2,3,4]) (p:=y2) b;obtain⟨M,n,D⟩:=Zee (L:=[1,2,3,4,5]) (p:=y3) d;simp at q l n;subst q l n;refine⟨?_,⟨_,e 1,w⟩,⟨_,e 2,E⟩,⟨_,e 3,D⟩⟩;have h:=e 1;unfold World.cell? at h
  cases hh:W.heap[0]? with
  | none=>rw[hh] at h;simp at h
  | some o=>exact(zan.1 hh).1
theorem Zyd (os : Os) (args : Array Value) : laidMetH prog [("ferryman/schema.fieldsOf", Rows.laid_ferryman_schema_fieldsOf)] ((World.doorLaid prog 400 os).forCall (fun _ _ => 0) ⟨#[], args, []⟩).memory :=
 laidMetH_of_parts3 (fuel:=8) (laidMet_of_run' 8 (by kernel_rfl) (by kernel_rfl)) (by kernel_rfl) (by kernel_rfl)
end Go.Proofs.YtnahjngbneicaaaGreatDoor
