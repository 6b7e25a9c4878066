import Derived.Test.YtnahjngbneicaaaGreatDoorPack7
import Derived.Test.YtnahjngbneicaaaGreatDoorCards
import Derived.Test.YtnahjngbneicaaaGreatDoorTie
import Derived.LaidMore
import Derived.OpenShut
namespace Go.Proofs.YtnahjngbneicaaaGreatDoor
open _root_.Go.Proofs.Tryz
open List (map_cons)
set_option maxRecDepth 100000
open Go.ChangeShapes Go.WideShapes Go.ChangeAt Go.RowKit
structure TabF (w:World):Prop where
 lt:0<w.heap.size
 one:∃ x,w.cell? ⟨0,1,none⟩=some x∧RdI w x [1,2,4]
 two:∃ x,w.cell? ⟨0,2,none⟩=some x∧RdI w x [1,2,3,4]
 three:∃ x,w.cell? ⟨0,3,none⟩=some x∧RdI w x [1,2,3,4,5]
theorem gTab : prog.globalNamed "ferryman/schema.fieldsOf" = some 0 := by kernel_rfl
theorem Zyc:(prog.globals[0]?).map (·.type)=some 282:=by kernel_rfl
theorem Zrs {k:IntKind} {H:Type}:∀ {a b:List Int},(lits k a:List (DataW H))=lits k b->a=b
 | [],[],_=>rfl
 | [],y::b,h=>by simp[lits] at h
 | x::a,[],h=>by simp[lits] at h
 | x::a,y::b,h=>by
  simp only [lits,map_cons,List.cons.injEq,DataW.lit.injEq,Lit.int.injEq,true_and] at h;rw[h.1,Zrs h.2]
theorem Zee {H:Type} {enc:TypeId × Value->H} {w:World} {base fuel:Nat} {j:Bool} {cs:List Value} {L:List Int} {p:List MemPlace} (h:DataW.trod enc prog w base (fun _=>true) j fuel 23 cs=some (.slice (lits .i64 L) [],p)):∃ x,cs=[x]∧RdI w x L:=by
 rcases open_ints underlying23 underlying3 (by kernel_rfl) h with ⟨_,a⟩ | ⟨y,l,c,k,b,_,d,f,g,a,i,e⟩
 ·simp at a
 ·simp only [Prod.mk.injEq,DataW.slice.injEq] at a
  rw[Zrs a.1.1];exact⟨_,b,RdI.ofRow d f (by simpa using g) i e⟩
theorem tabs {W : World} (h : laidMetH prog [("ferryman/schema.fieldsOf", Rows.laid_ferryman_schema_fieldsOf)] W) : TabF W := by
 rw[MakeChecks.laidMetH_plain _ _ _ (by kernel_rfl)] at h
 obtain⟨ps,⟨M,J,g,N,K,I,k,A,x,B,_,_⟩,_,_⟩:=h;obtain rfl:=Option.some.inj (gTab.symm.trans k);obtain rfl:=Option.some.inj (Zyc.symm.trans A);obtain⟨xs,m,rfl,d,n,F,f⟩:=DataW.trod_array underlying282 B;have D:prog.cellsOf 23=1:=by kernel_rfl
 have t:prog.cellsOf 282=4:=by kernel_rfl
 rw[t] at n;have b:=f 1 (by decide)
 have a:=f 2 (by decide)
 have c:=f 3 (by decide)
 rw[D] at b a c;simp only [Prod.mk.injEq,Rows.laid_ferryman_schema_fieldsOf,DataW.agg.injEq] at d;have e:=fun i=>World.var?_cell k x i
 match xs,F,d,b,a,c,hcs:g.toList,n with
 | [(x0,y0),(x1,y1),(x2,y2),(x3,y3)],_,d,b,a,c,[a0,a1,a2,a3],_=>
  have z:g=#[a0,a1,a2,a3]:=by rw[<-Array.toArray_toList (xs:=g),hcs]
  rw[hcs] at b a c;subst z;simp only [map_cons,List.map_nil,List.cons.injEq,and_true] at d;obtain⟨⟨-,E,u,v⟩,-⟩:=d;subst E u v;obtain⟨O,j,C⟩:=Zee (L:=[1,2,4]) (p:=y1) b;obtain⟨H,l,y⟩:=Zee (L:=[1,2,3,4]) (p:=y2) a;obtain⟨G,q,w⟩:=Zee (L:=[1,2,3,4,5]) (p:=y3) c;simp at j l q;subst j l q;refine⟨?_,⟨_,e 1,C⟩,⟨_,e 2,y⟩,⟨_,e 3,w⟩⟩;have h:=e 1;unfold World.cell? at h
  cases hh:W.heap[0]? with
  | none=>rw[hh] at h;simp at h
  | some o=>exact(Array.getElem?_eq_some_iff.1 hh).1
theorem Zyd (os : Os) (args : Array Value) : laidMetH prog [("ferryman/schema.fieldsOf", Rows.laid_ferryman_schema_fieldsOf)] ((World.doorLaid prog 400 os).forCall (fun _ _ => 0) ⟨#[], args, []⟩).memory :=
 laidMetH_of_parts3 (fuel:=8) (laidMet_of_run' 8 (by kernel_rfl) (by kernel_rfl)) (by kernel_rfl) (by kernel_rfl)
end Go.Proofs.YtnahjngbneicaaaGreatDoor
