import Derived.Test.YtnahjngbneicaaaGreatDoorOpenSchema
namespace Go.Proofs.YtnahjngbneicaaaGreatDoor
open _root_.Go.Proofs.Tryz
set_option maxRecDepth 100000
open Go.RowKit Go.ChangeShapes
theorem Zpq {m:Nat} {p:Nat->Rec->Prop} (h:∀ i,i<m->∃ o,p i o):∃ L:List Rec,L.length=m∧∀ i,i<m->p i (L.getD i Qi):=by
 induction m with
 | zero=>exact⟨[],rfl,fun i b=>by omega⟩
 | succ m g=>
  obtain⟨L,c,d⟩:=g (fun i b=>h i (by omega))
  obtain⟨o,f⟩:=h m (by omega)
  refine⟨L++[o],by simp[c],fun i b=>?_⟩
  by_cases e:i<m
  ·have a:(L++[o]).getD i Qi=L.getD i Qi:=by simp[List.getD,List.getElem?_append_left (show i<L.length by omega)]
   rw[a];exact d i e
  ·have j:i=L.length:=by omega
   subst j;have a:(L++[o]).getD L.length Qi=o:=by simp[List.getD]
   rw[a,c];exact f
theorem ZuS {H:Type} {enc:TypeId × Value->H} {w:World} {base fuel:Nat} {E:Bool} {cs:List Value} {x:DataW H × List MemPlace} (h:DataW.trod enc prog w base (fun _=>true) E fuel 29 cs=some x):∃ v l,cs=[v]∧RdR w v l:=by
 rcases Go.Deep.open_slice underlying29 h with ⟨p,_⟩ | ⟨a,I,cap,m,n,D,W,rfl,Q,T,B,P,_,C⟩
 ·exact⟨_,[],p,none,0,rfl,Nat.le_refl _,Nat.zero_le _,fun _=>rfl,(fun o h=>by simp at h),.inl rfl⟩
 ·have G:m=cap:=by simpa using P
  subst G
  have M:∀ i,i<I->∃ o,ZcK o∧(∀ k,k<7->w.cell? (a.add (i*7+k))=(Zi o)[k]?):=by
   intro i R;obtain⟨U,z,g⟩:=C i (by omega)
   rw[Znv] at z;obtain⟨_,V,J⟩:=World.cells?_some z;obtain⟨o,p,O⟩:=Zjq g;subst p;refine⟨o,O,fun k q=>?_⟩
   have A:=J k (by omega)
   rw[Go.Deep.add_add] at A;rw[A]
   match k,q with
   | 0,_=>rfl
   | 1,_=>rfl
   | 2,_=>rfl
   | 3,_=>rfl
   | 4,_=>rfl
   | 5,_=>rfl
   | 6,_=>rfl
  obtain⟨L,K,d⟩:=Zpq M;refine⟨_,L,rfl,some a,m,by rw[K],by omega,B,(fun e=>by cases e),fun o N=>?_,?_⟩
  ·obtain⟨j,u,rfl⟩:=List.getElem_of_mem N
   have:=(d j (by omega)).1
   simpa[List.getD,u] using this
  ·by_cases y:L=[]
   ·exact .inl y
   ·right
    have S:0<L.length:=List.length_pos_iff.2 y;obtain⟨b,f,spot⟩:=a
    have F:spot=none:=by
     have:=(d 0 (by omega)).2 0 (by decide)
     have g:w.cell? ((⟨b,f,spot⟩:Addr).add (0*7+0))=some (.int .i64 (L.getD 0 Qi).idx):=this;simpa[Addr.add] using World.cell?_spot g
    subst F;refine⟨b,f,rfl,fun j u=>?_⟩
    obtain⟨_,t⟩:=d j (by omega)
    simp only [Addr.add_lit] at t
    have c:∀ k,k<7->w.cell? ⟨b,f+j*7+k,none⟩=(Zi (L.getD j Qi))[k]?:=fun k q=>by
     rw[Nat.add_assoc];exact t k q
    exact⟨c 0 (by decide),c 1 (by decide),c 2 (by decide),c 3 (by decide),c 4 (by decide),c 5 (by decide),c 6 (by decide)⟩
end Go.Proofs.YtnahjngbneicaaaGreatDoor
