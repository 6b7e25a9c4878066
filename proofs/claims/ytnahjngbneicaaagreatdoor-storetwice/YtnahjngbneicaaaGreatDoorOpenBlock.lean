import Derived.Test.YtnahjngbneicaaaGreatDoorOpenSchema
namespace Go.Proofs.YtnahjngbneicaaaGreatDoor
open _root_.Go.Proofs.Tryz
set_option maxRecDepth 100000
open Go.RowKit Go.ChangeShapes
theorem Zpq {m:Nat} {p:Nat->Rec->Prop} (h:∀ i,i<m->∃ o,p i o):∃ L:List Rec,L.length=m∧∀ i,i<m->p i (L.getD i Qi):=by
 induction m with
 | zero=>exact⟨[],rfl,fun i c=>by omega⟩
 | succ m d=>
  obtain⟨L,b,j⟩:=d (fun i c=>h i (by omega))
  obtain⟨o,f⟩:=h m (by omega)
  refine⟨L++[o],by simp[b],fun i c=>?_⟩
  by_cases e:i<m
  ·have a:(L++[o]).getD i Qi=L.getD i Qi:=by simp[List.getD,List.getElem?_append_left (show i<L.length by omega)]
   rw[a];exact j i e
  ·have g:i=L.length:=by omega
   subst g;have a:(L++[o]).getD L.length Qi=o:=by simp[List.getD]
   rw[a,b];exact f
theorem ZuS {H:Type} {enc:TypeId × Value->H} {w:World} {base fuel:Nat} {P:Bool} {cs:List Value} {x:DataW H × List MemPlace} (h:DataW.trod enc prog w base (fun _=>true) P fuel 29 cs=some x):∃ v l,cs=[v]∧RdR w v l:=by
 rcases Go.Deep.open_slice underlying29 h with ⟨g,_⟩ | ⟨a,B,cap,m,n,D,S,rfl,Q,T,E,F,_,N⟩
 ·exact⟨_,[],g,none,0,rfl,Nat.le_refl _,Nat.zero_le _,fun _=>rfl,(fun o h=>by simp at h),.inl rfl⟩
 ·have M:m=cap:=by simpa using F
  subst M
  have G:∀ i,i<B->∃ o,ZcK o∧(∀ k,k<7->w.cell? (a.add (i*7+k))=(Zi o)[k]?):=by
   intro i U;obtain⟨R,y,d⟩:=N i (by omega)
   rw[Znv] at y;obtain⟨_,W,K⟩:=World.cells?_some y;obtain⟨o,g,C⟩:=Zjq d;subst g;refine⟨o,C,fun k f=>?_⟩
   have z:=K k (by omega)
   rw[Go.Deep.add_add] at z;rw[z]
   match k,f with
   | 0,_=>rfl
   | 1,_=>rfl
   | 2,_=>rfl
   | 3,_=>rfl
   | 4,_=>rfl
   | 5,_=>rfl
   | 6,_=>rfl
  obtain⟨L,I,q⟩:=Zpq G;refine⟨_,L,rfl,some a,m,by rw[I],by omega,E,(fun e=>by cases e),fun o O=>?_,?_⟩
  ·obtain⟨j,t,rfl⟩:=List.getElem_of_mem O
   have:=(q j (by omega)).1
   simpa[List.getD,t] using this
  ·by_cases A:L=[]
   ·exact .inl A
   ·right
    have V:0<L.length:=List.length_pos_iff.2 A;obtain⟨b,p,spot⟩:=a
    have J:spot=none:=by
     have:=(q 0 (by omega)).2 0 (by decide)
     have d:w.cell? ((⟨b,p,spot⟩:Addr).add (0*7+0))=some (.int .i64 (L.getD 0 Qi).idx):=this;simpa[Addr.add] using World.cell?_spot d
    subst J;refine⟨b,p,rfl,fun j t=>?_⟩
    obtain⟨_,u⟩:=q j (by omega)
    simp only [Addr.add_lit] at u
    have c:∀ k,k<7->w.cell? ⟨b,p+j*7+k,none⟩=(Zi (L.getD j Qi))[k]?:=fun k f=>by
     rw[Nat.add_assoc];exact u k f
    exact⟨c 0 (by decide),c 1 (by decide),c 2 (by decide),c 3 (by decide),c 4 (by decide),c 5 (by decide),c 6 (by decide)⟩
end Go.Proofs.YtnahjngbneicaaaGreatDoor
