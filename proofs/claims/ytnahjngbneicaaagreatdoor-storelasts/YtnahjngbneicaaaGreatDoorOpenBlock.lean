import Derived.Test.YtnahjngbneicaaaGreatDoorOpenSchema
namespace Go.Proofs.YtnahjngbneicaaaGreatDoor
open _root_.Go.Proofs.Tryz
set_option maxRecDepth 100000
open Go.RowKit Go.ChangeShapes
theorem Zqk {m:Nat} {p:Nat->Rec->Prop} (h:∀ i,i<m->∃ o,p i o):∃ L:List Rec,L.length=m∧∀ i,i<m->p i (L.getD i Qi):=by
 induction m with
 | zero=>exact⟨[],rfl,fun i c=>by omega⟩
 | succ m f=>
  obtain⟨L,b,g⟩:=f (fun i c=>h i (by omega))
  obtain⟨o,j⟩:=h m (by omega)
  refine⟨L++[o],by simp[b],fun i c=>?_⟩
  by_cases e:i<m
  ·have a:(L++[o]).getD i Qi=L.getD i Qi:=by simp[List.getD,List.getElem?_append_left (show i<L.length by omega)]
   rw[a];exact g i e
  ·have d:i=L.length:=by omega
   subst d;have a:(L++[o]).getD L.length Qi=o:=by simp[List.getD]
   rw[a,b];exact j
theorem ZvV {H:Type} {enc:TypeId × Value->H} {w:World} {base fuel:Nat} {E:Bool} {cs:List Value} {x:DataW H × List MemPlace} (h:DataW.trod enc prog w base (fun _=>true) E fuel 29 cs=some x):∃ v l,cs=[v]∧RdR w v l:=by
 rcases Go.Deep.open_slice underlying29 h with ⟨g,_⟩ | ⟨a,K,cap,m,n,D,W,rfl,V,Q,F,O,_,C⟩
 ·exact⟨_,[],g,none,0,rfl,Nat.le_refl _,Nat.zero_le _,fun _=>rfl,(fun o h=>by simp at h),.inl rfl⟩
 ·have I:m=cap:=by simpa using O
  subst I
  have G:∀ i,i<K->∃ o,Zcx o∧(∀ k,k<7->w.cell? (a.add (i*7+k))=(Ja o)[k]?):=by
   intro i R;obtain⟨T,y,f⟩:=C i (by omega)
   rw[Zoi] at y;obtain⟨_,U,M⟩:=World.cells?_some y;obtain⟨o,g,N⟩:=ZjY f;subst g;refine⟨o,N,fun k d=>?_⟩
   have t:=M k (by omega)
   rw[Go.Deep.add_add] at t;rw[t]
   match k,d with
   | 0,_=>rfl
   | 1,_=>rfl
   | 2,_=>rfl
   | 3,_=>rfl
   | 4,_=>rfl
   | 5,_=>rfl
   | 6,_=>rfl
  obtain⟨L,B,q⟩:=Zqk G;refine⟨_,L,rfl,some a,m,by rw[B],by omega,F,(fun e=>by cases e),fun o P=>?_,?_⟩
  ·obtain⟨j,u,rfl⟩:=List.getElem_of_mem P
   have:=(q j (by omega)).1
   simpa[List.getD,u] using this
  ·by_cases z:L=[]
   ·exact .inl z
   ·right
    have S:0<L.length:=List.length_pos_iff.2 z;obtain⟨b,p,spot⟩:=a
    have J:spot=none:=by
     have:=(q 0 (by omega)).2 0 (by decide)
     have f:w.cell? ((⟨b,p,spot⟩:Addr).add (0*7+0))=some (.int .i64 (L.getD 0 Qi).idx):=this;simpa[Addr.add] using World.cell?_spot f
    subst J;refine⟨b,p,rfl,fun j u=>?_⟩
    obtain⟨_,A⟩:=q j (by omega)
    simp only [Addr.add_lit] at A
    have c:∀ k,k<7->w.cell? ⟨b,p+j*7+k,none⟩=(Ja (L.getD j Qi))[k]?:=fun k d=>by
     rw[Nat.add_assoc];exact A k d
    exact⟨c 0 (by decide),c 1 (by decide),c 2 (by decide),c 3 (by decide),c 4 (by decide),c 5 (by decide),c 6 (by decide)⟩
end Go.Proofs.YtnahjngbneicaaaGreatDoor
