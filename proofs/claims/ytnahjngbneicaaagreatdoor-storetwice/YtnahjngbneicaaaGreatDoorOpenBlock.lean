import Derived.Test.YtnahjngbneicaaaGreatDoorOpenSchema
import Derived.Test.YtnahjngbneicaaaGreatDoorPack6
import Derived.Deep.Slices
namespace Go.Proofs.YtnahjngbneicaaaGreatDoor
open _root_.Go.Proofs.Tryz
set_option maxRecDepth 100000
open Go.RowKit Go.ChangeShapes
theorem ZsG {m:Nat} {p:Nat->Rec->Prop} (h:∀ i,i<m->∃ o,p i o):∃ L:List Rec,L.length=m∧∀ i,i<m->p i (L.getD i Zaj):=by
 induction m with
 | zero=>exact⟨[],rfl,fun i c=>by omega⟩
 | succ m d=>
  obtain⟨L,b,f⟩:=d (fun i c=>h i (by omega))
  obtain⟨o,j⟩:=h m (by omega)
  refine⟨L++[o],by simp[b],fun i c=>?_⟩
  by_cases e:i<m
  ·have a:(L++[o]).getD i Zaj=L.getD i Zaj:=by simp[List.getD,List.getElem?_append_left (show i<L.length by omega)]
   rw[a];exact f i e
  ·have g:i=L.length:=by omega
   subst g;have a:(L++[o]).getD L.length Zaj=o:=by simp[List.getD]
   rw[a,b];exact j
theorem Zyi {H:Type} {enc:TypeId × Value->H} {w:World} {base fuel:Nat} {G:Bool} {cs:List Value} {x:DataW H × List MemPlace} (h:DataW.trod enc prog w base (fun _=>true) G fuel 29 cs=some x):∃ v l,cs=[v]∧RdR w v l:=by
 rcases Go.Deep.open_slice underlying29 h with ⟨f,_⟩ | ⟨a,E,cap,m,n,D,R,rfl,U,V,J,I,_,F⟩
 ·exact⟨_,[],f,none,0,rfl,Nat.le_refl _,Nat.zero_le _,fun _=>rfl,(fun o h=>by simp at h),.inl rfl⟩
 ·have K:m=cap:=by simpa using I
  subst K
  have M:∀ i,i<E->∃ o,Zga o∧(∀ k,k<7->w.cell? (a.add (i*7+k))=(Zeo o)[k]?):=by
   intro i T;obtain⟨S,t,g⟩:=F i (by omega)
   rw[ZqL] at t;obtain⟨_,Q,B⟩:=World.cells?_some t;obtain⟨o,f,N⟩:=ZmG g;subst f;refine⟨o,N,fun k q=>?_⟩
   have A:=B k (by omega)
   rw[Go.Deep.add_add] at A;rw[A]
   match k,q with
   | 0,_=>rfl
   | 1,_=>rfl
   | 2,_=>rfl
   | 3,_=>rfl
   | 4,_=>rfl
   | 5,_=>rfl
   | 6,_=>rfl
  obtain⟨L,O,p⟩:=ZsG M;refine⟨_,L,rfl,some a,m,by rw[O],by omega,J,(fun e=>by cases e),fun o C=>?_,?_⟩
  ·obtain⟨j,y,rfl⟩:=List.getElem_of_mem C
   have:=(p j (by omega)).1
   simpa[List.getD,y] using this
  ·by_cases u:L=[]
   ·exact .inl u
   ·right
    have W:0<L.length:=List.length_pos_iff.2 u;obtain⟨b,d,spot⟩:=a
    have P:spot=none:=by
     have:=(p 0 (by omega)).2 0 (by decide)
     have g:w.cell? ((⟨b,d,spot⟩:Addr).add (0*7+0))=some (.int .i64 (L.getD 0 Zaj).idx):=this;simpa[Addr.add] using World.cell?_spot g
    subst P;refine⟨b,d,rfl,fun j y=>?_⟩
    obtain⟨_,z⟩:=p j (by omega)
    simp only [Addr.add_lit] at z
    have c:∀ k,k<7->w.cell? ⟨b,d+j*7+k,none⟩=(Zeo (L.getD j Zaj))[k]?:=fun k q=>by
     rw[Nat.add_assoc];exact z k q
    exact⟨c 0 (by decide),c 1 (by decide),c 2 (by decide),c 3 (by decide),c 4 (by decide),c 5 (by decide),c 6 (by decide)⟩
end Go.Proofs.YtnahjngbneicaaaGreatDoor
