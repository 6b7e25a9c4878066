import Derived.Test.YtnahjngbneicaaaGreatDoorOpenSchema
namespace Go.Proofs.YtnahjngbneicaaaGreatDoor
open _root_.Go.Proofs.Tryz
set_option maxRecDepth 100000
open Go.RowKit Go.ChangeShapes
abbrev zgh:=@Go.World.cells?_some
abbrev zgt:=@Go.Deep.add_add
theorem Zqk {m:Nat} {p:Nat->Rec->Prop} (h:∀ i,i<m->∃ o,p i o):∃ L:List Rec,L.length=m∧∀ i,i<m->p i (L.getD i Qi):=by
 induction m with
 | zero=>exact⟨[],rfl,fun i c=>by omega⟩
 | succ m d=>
  obtain⟨L,b,f⟩:=d (fun i c=>h i (by omega))
  obtain⟨o,j⟩:=h m (by omega)
  refine⟨L++[o],by simp[b],fun i c=>?_⟩
  by_cases e:i<m
  ·have a:(L++[o]).getD i Qi=L.getD i Qi:=by simp[List.getD,zbb (show i<L.length by omega)]
   rw[a];exact f i e
  ·have g:i=L.length:=by omega
   subst g;have a:(L++[o]).getD L.length Qi=o:=by simp[List.getD]
   rw[a,b];exact j
theorem ZvV {H:Type} {enc:TypeId × Value->H} {w:World} {base fuel:Nat} {M:Bool} {cs:List Value} {x:DataW H × List MemPlace} (h:DataW.trod enc prog w base (fun _=>true) M fuel 29 cs=some x):∃ v l,cs=[v]∧RdR w v l:=by
 rcases Go.Deep.open_slice underlying29 h with ⟨d,_⟩ | ⟨a,E,cap,m,n,D,Q,rfl,T,S,N,J,_,O⟩
 ·exact⟨_,[],d,none,0,rfl,zat _,zai _,fun _=>rfl,(fun o h=>by simp at h),.inl rfl⟩
 ·have F:m=cap:=by simpa using J
  subst F
  have K:∀ i,i<E->∃ o,Zcx o∧(∀ k,k<7->w.cell? (a.add (i*7+k))=(Ja o)[k]?):=by
   intro i R;obtain⟨V,A,g⟩:=O i (by omega)
   rw[Zoi] at A;obtain⟨_,U,B⟩:=zgh A;obtain⟨o,d,P⟩:=ZjY g;subst d;refine⟨o,P,fun k f=>?_⟩
   have z:=B k (by omega)
   rw[zgt] at z;rw[z]
   match k,f with
   | 0,_=>rfl
   | 1,_=>rfl
   | 2,_=>rfl
   | 3,_=>rfl
   | 4,_=>rfl
   | 5,_=>rfl
   | 6,_=>rfl
  obtain⟨L,C,p⟩:=Zqk K;refine⟨_,L,rfl,some a,m,by rw[C],by omega,N,(fun e=>by cases e),fun o I=>?_,?_⟩
  ·obtain⟨j,u,rfl⟩:=zdh I
   have:=(p j (by omega)).1
   simpa[List.getD,u] using this
  ·by_cases t:L=[]
   ·exact .inl t
   ·right
    have W:0<L.length:=zeh.2 t;obtain⟨b,q,spot⟩:=a
    have G:spot=none:=by
     have:=(p 0 (by omega)).2 0 (by decide)
     have g:w.cell? ((⟨b,q,spot⟩:Addr).add (0*7+0))=some (.int .i64 (L.getD 0 Qi).idx):=this;simpa[Addr.add] using zfm g
    subst G;refine⟨b,q,rfl,fun j u=>?_⟩
    obtain⟨_,y⟩:=p j (by omega)
    simp only [zbg] at y
    have c:∀ k,k<7->w.cell? ⟨b,q+j*7+k,none⟩=(Ja (L.getD j Qi))[k]?:=fun k f=>by
     rw[zbs];exact y k f
    exact⟨c 0 (by decide),c 1 (by decide),c 2 (by decide),c 3 (by decide),c 4 (by decide),c 5 (by decide),c 6 (by decide)⟩
end Go.Proofs.YtnahjngbneicaaaGreatDoor
