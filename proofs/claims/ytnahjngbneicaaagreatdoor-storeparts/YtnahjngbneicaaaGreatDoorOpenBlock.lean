import Derived.Test.YtnahjngbneicaaaGreatDoorOpenSchema
import Derived.Test.YtnahjngbneicaaaGreatDoorPack5
import Derived.Deep.Slices
namespace Go.Proofs.YtnahjngbneicaaaGreatDoor
set_option maxRecDepth 100000
open Go.RowKit Go.ChangeShapes
theorem Zqj {m:Nat} {p:Nat->Rec->Prop} (h:∀ i,i<m->∃ o,p i o):∃ L:List Rec,L.length=m∧∀ i,i<m->p i (L.getD i Zai):=by
 induction m with
 | zero=>exact⟨[],rfl,fun i hi=>by omega⟩
 | succ m ih=>
  obtain⟨L,hL,hp⟩:=ih (fun i hi=>h i (by omega))
  obtain⟨o,ho⟩:=h m (by omega)
  refine⟨L++[o],by simp[hL],fun i hi=>?_⟩
  by_cases e:i<m
  ·have e2:(L++[o]).getD i Zai=L.getD i Zai:=by simp[List.getD,List.getElem?_append_left (show i<L.length by omega)]
   rw[e2]
   exact hp i e
  ·have e3:i=L.length:=by omega
   subst e3
   have e2:(L++[o]).getD L.length Zai=o:=by simp[List.getD]
   rw[e2,hL]
   exact ho
theorem Zvd {H:Type} {enc:TypeId × Value->H} {w:World} {base fuel:Nat} {held:Bool} {cs:List Value} {x:DataW H × List MemPlace} (h:DataW.trod enc Tryz.prog w base (fun _=>true) held fuel 29 cs=some x):∃ v l,cs=[v]∧RdR w v l:=by
 rcases Go.Deep.open_slice Tryz.underlying29 h with ⟨hcs,_⟩ | ⟨a,len,cap,m,n,D,Pl,rfl,hb,hl,hm,hmm,_,hx⟩
 ·exact⟨_,[],hcs,none,0,rfl,Nat.le_refl _,Nat.zero_le _,fun _=>rfl,(fun o h=>by simp at h),.inl rfl⟩
 ·have hmc:m=cap:=by simpa using hmm
  subst hmc
  have each:∀ i,i<len->∃ o,Zfw o∧(∀ k,k<7->w.cell? (a.add (i*7+k))=(ZdG o)[k]?):=by
   intro i hi
   obtain⟨cs',h1,h2⟩:=hx i (by omega)
   rw[Zow] at h1
   obtain⟨_,hlen,hcell⟩:=World.cells?_some h1
   obtain⟨o,hcs,hok⟩:=ZkL h2
   subst hcs
   refine⟨o,hok,fun k hk=>?_⟩
   have e0:=hcell k (by omega)
   rw[Go.Deep.add_add] at e0
   rw[e0]
   match k,hk with
   | 0,_=>rfl
   | 1,_=>rfl
   | 2,_=>rfl
   | 3,_=>rfl
   | 4,_=>rfl
   | 5,_=>rfl
   | 6,_=>rfl
  obtain⟨L,hL,hp⟩:=Zqj each
  refine⟨_,L,rfl,some a,m,by rw[hL],by omega,hm,(fun e=>by cases e),fun o ho=>?_,?_⟩
  ·obtain⟨j,hj,rfl⟩:=List.getElem_of_mem ho
   have:=(hp j (by omega)).1
   simpa[List.getD,hj] using this
  ·by_cases h0:L=[]
   ·exact .inl h0
   ·right
    have h0':0<L.length:=List.length_pos_iff.2 h0
    obtain⟨b,off,spot⟩:=a
    have hspot:spot=none:=by
     have:=(hp 0 (by omega)).2 0 (by decide)
     have h2:w.cell? ((⟨b,off,spot⟩:Addr).add (0*7+0))=some (.int .i64 (L.getD 0 Zai).idx):=this
     simpa[Addr.add] using World.cell?_spot h2
    subst hspot
    refine⟨b,off,rfl,fun j hj=>?_⟩
    obtain⟨_,hc⟩:=hp j (by omega)
    simp only [Addr.add_lit] at hc
    have hc':∀ k,k<7->w.cell? ⟨b,off+j*7+k,none⟩=(ZdG (L.getD j Zai))[k]?:=fun k hk=>by
     rw[Nat.add_assoc]
     exact hc k hk
    exact⟨hc' 0 (by decide),hc' 1 (by decide),hc' 2 (by decide),hc' 3 (by decide),hc' 4 (by decide),hc' 5 (by decide),hc' 6 (by decide)⟩
end Go.Proofs.YtnahjngbneicaaaGreatDoor
