import Derived.Test.YtnahjngbneicaaaGreatDoorPack7
import Derived.Test.YtnahjngbneicaaaGreatDoorCards
import Derived.Test.YtnahjngbneicaaaGreatDoorTie
import Derived.LaidMore
import Derived.OpenShut
namespace Go.Proofs.YtnahjngbneicaaaGreatDoor
set_option linter.unusedSimpArgs false
open _root_.Go.Proofs.Tryz
open List (map_cons)
set_option maxRecDepth 100000
open Go.ChangeShapes Go.WideShapes Go.ChangeAt Go.RowKit
structure TabF (w:World):Prop where
 lt:0<w.heap.size
 one:∃ x,w.cell? ⟨0,1,none⟩=some x∧RdI w x [1,2,4]
 two:∃ x,w.cell? ⟨0,2,none⟩=some x∧RdI w x [1,2,3,4]
 three:∃ x,w.cell? ⟨0,3,none⟩=some x∧RdI w x [1,2,3,4,5]
theorem gTab : prog.globalNamed "ferryman/schema.fieldsOf" = some 0 := by kernel_rfl
theorem ZyI:(prog.globals[0]?).map (·.type)=some 282:=by kernel_rfl
theorem ZrN {k:IntKind} {H:Type}:∀ {a b:List Int},(lits k a:List (DataW H))=lits k b->a=b
 | [],[],_=>rfl
 | [],y::b,h=>by simp[lits] at h
 | x::a,[],h=>by simp[lits] at h
 | x::a,y::b,h=>by
  simp only [lits,map_cons,ze0,DataW.lit.injEq,Lit.int.injEq,zgg] at h;rw[h.1,ZrN h.2]
theorem Zep {H:Type} {enc:TypeId × Value->H} {w:World} {base fuel:Nat} {e:Bool} {cs:List Value} {L:List Int} {p:List MemPlace} (h:DataW.trod enc prog w base (fun _=>true) e fuel 23 cs=some (.slice (lits .i64 L) [],p)):∃ x,cs=[x]∧RdI w x L:=by
 rcases open_ints underlying23 underlying3 (by kernel_rfl) h with ⟨_,a⟩ | ⟨y,l,c,k,f,_,j,i,g,a,d,b⟩
 ·simp at a
 ·simp only [zcj,DataW.slice.injEq] at a
  rw[ZrN a.1.1];exact⟨_,f,RdI.ofRow j i (by simpa using g) d b⟩
theorem tabs {W : World} (h : laidMetH prog [("ferryman/schema.fieldsOf", Rows.laid_ferryman_schema_fieldsOf)] W) : TabF W := by
 rw[MakeChecks.laidMetH_plain _ _ _ (by kernel_rfl)] at h
 obtain⟨ps,⟨J,K,g,M,G,H,l,y,u,E,_,_⟩,_,_⟩:=h;obtain rfl:=zaq (gTab.symm.trans l);obtain rfl:=zaq (ZyI.symm.trans y);obtain⟨xs,m,rfl,d,q,w,f⟩:=DataW.trod_array underlying282 E;have x:prog.cellsOf 23=1:=by kernel_rfl
 have v:prog.cellsOf 282=4:=by kernel_rfl
 rw[v] at q;have c:=f 1 (by decide)
 have a:=f 2 (by decide)
 have b:=f 3 (by decide)
 rw[x] at c a b;simp only [zcj,Rows.laid_ferryman_schema_fieldsOf,DataW.agg.injEq] at d;have e:=fun i=>World.var?_cell l u i
 match xs,w,d,c,a,b,hcs:g.toList,q with
 | [(x0,y0),(x1,y1),(x2,y2),(x3,y3)],_,d,c,a,b,[a0,a1,a2,a3],_=>
  have F:g=#[a0,a1,a2,a3]:=by rw[<-Array.toArray_toList (xs:=g),hcs]
  rw[hcs] at c a b;subst F;simp only [map_cons,zf7,ze0,ze7] at d;obtain⟨⟨-,z,D,A⟩,-⟩:=d;subst z D A;obtain⟨I,n,B⟩:=Zep (L:=[1,2,4]) (p:=y1) c;obtain⟨O,k,C⟩:=Zep (L:=[1,2,3,4]) (p:=y2) a;obtain⟨N,j,t⟩:=Zep (L:=[1,2,3,4,5]) (p:=y3) b;simp at n k j;subst n k j;refine⟨?_,⟨_,e 1,B⟩,⟨_,e 2,C⟩,⟨_,e 3,t⟩⟩;have h:=e 1;unfold World.cell? at h
  cases hh:W.heap[0]? with
  | none=>rw[hh] at h;simp at h
  | some o=>exact(zar.1 hh).1
theorem ZyJ (os : Os) (args : Array Value) : laidMetH prog [("ferryman/schema.fieldsOf", Rows.laid_ferryman_schema_fieldsOf)] ((World.doorLaid prog 400 os).forCall (fun _ _ => 0) ⟨#[], args, []⟩).memory :=
 laidMetH_of_parts3 (fuel:=8) (laidMet_of_run' 8 (by kernel_rfl) (by kernel_rfl)) (by kernel_rfl) (by kernel_rfl)
end Go.Proofs.YtnahjngbneicaaaGreatDoor
