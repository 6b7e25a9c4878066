import Derived.Test.YtnahjngbneicaaaGreatDoorOpenSchema
namespace Go.Proofs.YtnahjngbneicaaaGreatDoor
open _root_.Go.Proofs.Tryz
set_option maxRecDepth 100000
open Go.RowKit Go.ChangeShapes
theorem Zqk {m:Nat} {p:Nat->Rec->Prop} (h:∀ i,i<m->∃ o,p i o):∃ L:List Rec,L.length=m∧∀ i,i<m->p i (L.getD i Qi):=by
 induction m with
 | zero=>exact⟨[],rfl,fun i c=>by omega⟩
 | succ m f=>
  obtain⟨L,b,j⟩:=f (fun i c=>h i (by omega))
  obtain⟨o,g⟩:=h m (by omega)
  refine⟨L++[o],by simp[b],fun i c=>?_⟩
  by_cases e:i<m
  ·have a:(L++[o]).getD i Qi=L.getD i Qi:=by simp[List.getD,List.getElem?_append_left (show i<L.length by omega)]
   rw[a];exact j i e
  ·have d:i=L.length:=by omega
   subst d;have a:(L++[o]).getD L.length Qi=o:=by simp[List.getD]
   rw[a,b];exact g
theorem ZvV {H:Type} {enc:TypeId × Value->H} {w:World} {base fuel:Nat} {P:Bool} {cs:List Value} {x:DataW H × List MemPlace} (h:DataW.trod enc prog w base (fun _=>true) P fuel 29 cs=some x):∃ v l,cs=[v]∧RdR w v l:=by
 rcases Go.Deep.open_slice underlying29 h with ⟨g,_⟩ | ⟨a,I,cap,m,n,D,T,rfl,S,U,G,E,_,N⟩
 ·exact⟨_,[],g,none,0,rfl,Nat.le_refl _,Nat.zero_le _,fun _=>rfl,(fun o h=>by simp at h),.inl rfl⟩
 ·have C:m=cap:=by simpa using E
  subst C
  have J:∀ i,i<I->∃ o,Zcx o∧(∀ k,k<7->w.cell? (a.add (i*7+k))=(Ja o)[k]?):=by
   intro i R;obtain⟨V,z,f⟩:=N i (by omega)
   rw[Zoi] at z;obtain⟨_,W,O⟩:=World.cells?_some z;obtain⟨o,g,B⟩:=ZjY f;subst g;refine⟨o,B,fun k p=>?_⟩
   have A:=O k (by omega)
   rw[Go.Deep.add_add] at A;rw[A]
   match k,p with
   | 0,_=>rfl
   | 1,_=>rfl
   | 2,_=>rfl
   | 3,_=>rfl
   | 4,_=>rfl
   | 5,_=>rfl
   | 6,_=>rfl
  obtain⟨L,M,q⟩:=Zqk J;refine⟨_,L,rfl,some a,m,by rw[M],by omega,G,(fun e=>by cases e),fun o F=>?_,?_⟩
  ·obtain⟨j,t,rfl⟩:=List.getElem_of_mem F
   have:=(q j (by omega)).1
   simpa[List.getD,t] using this
  ·by_cases u:L=[]
   ·exact .inl u
   ·right
    have Q:0<L.length:=List.length_pos_iff.2 u;obtain⟨b,d,spot⟩:=a
    have K:spot=none:=by
     have:=(q 0 (by omega)).2 0 (by decide)
     have f:w.cell? ((⟨b,d,spot⟩:Addr).add (0*7+0))=some (.int .i64 (L.getD 0 Qi).idx):=this;simpa[Addr.add] using World.cell?_spot f
    subst K;refine⟨b,d,rfl,fun j t=>?_⟩
    obtain⟨_,y⟩:=q j (by omega)
    simp only [Addr.add_lit] at y
    have c:∀ k,k<7->w.cell? ⟨b,d+j*7+k,none⟩=(Ja (L.getD j Qi))[k]?:=fun k p=>by
     rw[Nat.add_assoc];exact y k p
    exact⟨c 0 (by decide),c 1 (by decide),c 2 (by decide),c 3 (by decide),c 4 (by decide),c 5 (by decide),c 6 (by decide)⟩
end Go.Proofs.YtnahjngbneicaaaGreatDoor
