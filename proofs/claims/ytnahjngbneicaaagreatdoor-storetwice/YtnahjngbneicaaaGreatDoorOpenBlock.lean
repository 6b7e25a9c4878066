import Derived.Test.YtnahjngbneicaaaGreatDoorOpenSchema
namespace Go.Proofs.YtnahjngbneicaaaGreatDoor
open _root_.Go.Proofs.Tryz
set_option maxRecDepth 100000
open Go.RowKit Go.ChangeShapes
theorem ZsG {m:Nat} {p:Nat->Rec->Prop} (h:∀ i,i<m->∃ o,p i o):∃ L:List Rec,L.length=m∧∀ i,i<m->p i (L.getD i Zaj):=by
 induction m with
 | zero=>exact⟨[],rfl,fun i c=>by omega⟩
 | succ m j=>
  obtain⟨L,b,f⟩:=j (fun i c=>h i (by omega))
  obtain⟨o,g⟩:=h m (by omega)
  refine⟨L++[o],by simp[b],fun i c=>?_⟩
  by_cases e:i<m
  ·have a:(L++[o]).getD i Zaj=L.getD i Zaj:=by simp[List.getD,List.getElem?_append_left (show i<L.length by omega)]
   rw[a];exact f i e
  ·have d:i=L.length:=by omega
   subst d;have a:(L++[o]).getD L.length Zaj=o:=by simp[List.getD]
   rw[a,b];exact g
theorem Zyi {H:Type} {enc:TypeId × Value->H} {w:World} {base fuel:Nat} {E:Bool} {cs:List Value} {x:DataW H × List MemPlace} (h:DataW.trod enc prog w base (fun _=>true) E fuel 29 cs=some x):∃ v l,cs=[v]∧RdR w v l:=by
 rcases Go.Deep.open_slice underlying29 h with ⟨d,_⟩ | ⟨a,N,cap,m,n,D,R,rfl,S,W,K,C,_,F⟩
 ·exact⟨_,[],d,none,0,rfl,Nat.le_refl _,Nat.zero_le _,fun _=>rfl,(fun o h=>by simp at h),.inl rfl⟩
 ·have O:m=cap:=by simpa using C
  subst O
  have M:∀ i,i<N->∃ o,Zga o∧(∀ k,k<7->w.cell? (a.add (i*7+k))=(Zeo o)[k]?):=by
   intro i V;obtain⟨U,A,p⟩:=F i (by omega)
   rw[ZqL] at A;obtain⟨_,T,G⟩:=World.cells?_some A;obtain⟨o,d,J⟩:=ZmG p;subst d;refine⟨o,J,fun k f=>?_⟩
   have u:=G k (by omega)
   rw[Go.Deep.add_add] at u;rw[u]
   match k,f with
   | 0,_=>rfl
   | 1,_=>rfl
   | 2,_=>rfl
   | 3,_=>rfl
   | 4,_=>rfl
   | 5,_=>rfl
   | 6,_=>rfl
  obtain⟨L,B,q⟩:=ZsG M;refine⟨_,L,rfl,some a,m,by rw[B],by omega,K,(fun e=>by cases e),fun o P=>?_,?_⟩
  ·obtain⟨j,t,rfl⟩:=List.getElem_of_mem P
   have:=(q j (by omega)).1
   simpa[List.getD,t] using this
  ·by_cases y:L=[]
   ·exact .inl y
   ·right
    have Q:0<L.length:=List.length_pos_iff.2 y;obtain⟨b,g,spot⟩:=a
    have I:spot=none:=by
     have:=(q 0 (by omega)).2 0 (by decide)
     have p:w.cell? ((⟨b,g,spot⟩:Addr).add (0*7+0))=some (.int .i64 (L.getD 0 Zaj).idx):=this;simpa[Addr.add] using World.cell?_spot p
    subst I;refine⟨b,g,rfl,fun j t=>?_⟩
    obtain⟨_,z⟩:=q j (by omega)
    simp only [Addr.add_lit] at z
    have c:∀ k,k<7->w.cell? ⟨b,g+j*7+k,none⟩=(Zeo (L.getD j Zaj))[k]?:=fun k f=>by
     rw[Nat.add_assoc];exact z k f
    exact⟨c 0 (by decide),c 1 (by decide),c 2 (by decide),c 3 (by decide),c 4 (by decide),c 5 (by decide),c 6 (by decide)⟩
end Go.Proofs.YtnahjngbneicaaaGreatDoor
