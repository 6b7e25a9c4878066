import Derived.Test.YtnahjngbneicaaaGreatDoorPack7
import Derived.Test.YtnahjngbneicaaaGreatDoorPack2
import Derived.Test.YtnahjngbneicaaaGreatDoorCards
import Derived.Test.YtnahjngbneicaaaGreatDoorTie
import Derived.LaidMore
import Derived.OpenShut
import Derived.Stop.Joined
namespace Go.Proofs.YtnahjngbneicaaaGreatDoor
open _root_.Go.Proofs.Tryz
open List (map_cons)
set_option maxRecDepth 100000
open Go.ChangeShapes Go.WideShapes Go.ChangeAt Go.RowKit
structure TabF (w:World):Prop where
 lt:0<w.heap.size
 one:∃ x,w.cell? ⟨0,1,none⟩=some x∧RdI w x [1,2,4]
 two:∃ x,w.cell? ⟨0,2,none⟩=some x∧RdI w x [1,2,3,4]
 three:∃ x,w.cell? ⟨0,3,none⟩=some x∧RdI w x [1,2,3,4,5]
theorem gTab : prog.globalNamed "ferryman/schema.fieldsOf" = some 0 := by kernel_rfl
theorem ZAg:(prog.globals[0]?).map (·.type)=some 282:=by kernel_rfl
theorem ZtP {k:IntKind} {H:Type}:∀ {a b:List Int},(c k a:List (DataW H))=c k b->a=b
 | [],[],_=>rfl
 | [],y::b,h=>by simp[c] at h
 | x::a,[],h=>by simp[c] at h
 | x::a,y::b,h=>by
  simp only [c,map_cons,List.cons.injEq,DataW.lit.injEq,Lit.int.injEq,true_and] at h;rw[h.1,ZtP h.2]
theorem Zhm {H:Type} {enc:TypeId × Value->H} {w:World} {base fuel:Nat} {d:Bool} {cs:List Value} {L:List Int} {p:List MemPlace} (h:DataW.trod enc prog w base (fun _=>true) d fuel 23 cs=some (.slice (lits .i64 L) [],p)):∃ x,cs=[x]∧RdI w x L:=by
 rcases open_ints underlying23 underlying3 (by kernel_rfl) h with ⟨_,a⟩ | ⟨y,l,c,k,i,_,g,e,j,a,b,f⟩
 ·simp at a
 ·simp only [Prod.mk.injEq,DataW.slice.injEq] at a
  rw[ZtP a.1.1];exact⟨_,i,RdI.ofRow g e (by simpa using j) b f⟩
theorem tabs {W : World} (h : laidMetH prog [("ferryman/schema.fieldsOf", Rows.laid_ferryman_schema_fieldsOf)] W) : TabF W := by
 rw[MakeChecks.laidMetH_plain _ _ _ (by kernel_rfl)] at h
 obtain⟨ps,⟨J,G,f,I,H,K,l,z,E,B,_,_⟩,_,_⟩:=h;obtain rfl:=Option.some.inj (gTab.symm.trans l);obtain rfl:=Option.some.inj (ZAg.symm.trans z);obtain⟨xs,m,rfl,a,j,C,g⟩:=DataW.trod_array underlying282 B;have y:prog.cellsOf 23=1:=by kernel_rfl
 have A:prog.cellsOf 282=4:=by kernel_rfl
 rw[A] at j;have d:=g 1 (by decide)
 have b:=g 2 (by decide)
 have c:=g 3 (by decide)
 rw[y] at d b c;simp only [Prod.mk.injEq,Rows.laid_ferryman_schema_fieldsOf,DataW.agg.injEq] at a;have e:=fun i=>World.var?_cell l E i
 match xs,C,a,d,b,c,hcs:f.toList,j with
 | [(x0,y0),(x1,y1),(x2,y2),(x3,y3)],_,a,d,b,c,[a0,a1,a2,a3],_=>
  have v:f=#[a0,a1,a2,a3]:=by rw[<-Array.toArray_toList (xs:=f),hcs]
  rw[hcs] at d b c;subst v;simp only [map_cons,List.map_nil,List.cons.injEq,and_true] at a;obtain⟨⟨-,t,F,w⟩,-⟩:=a;subst t F w;obtain⟨M,q,u⟩:=Zhm (L:=[1,2,4]) (p:=y1) d;obtain⟨O,n,D⟩:=Zhm (L:=[1,2,3,4]) (p:=y2) b;obtain⟨N,k,x⟩:=Zhm (L:=[1,2,3,4,5]) (p:=y3) c;simp at q n k;subst q n k;refine⟨?_,⟨_,e 1,u⟩,⟨_,e 2,D⟩,⟨_,e 3,x⟩⟩;have h:=e 1;unfold World.cell? at h
  cases hh:W.heap[0]? with
  | none=>rw[hh] at h;simp at h
  | some o=>exact(Array.getElem?_eq_some_iff.1 hh).1
theorem ZAh (os : Os) (args : Array Value) : laidMetH prog [("ferryman/schema.fieldsOf", Rows.laid_ferryman_schema_fieldsOf)] ((World.doorLaid prog 400 os).forCall (fun _ _ => 0) ⟨#[], args, []⟩).memory :=
 laidMetH_of_parts3 (fuel:=8) (laidMet_of_run' 8 (by kernel_rfl) (by kernel_rfl)) (by kernel_rfl) (by kernel_rfl)
end Go.Proofs.YtnahjngbneicaaaGreatDoor
