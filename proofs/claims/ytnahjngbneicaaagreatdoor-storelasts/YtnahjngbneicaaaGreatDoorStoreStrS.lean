import Derived.Test.YtnahjngbneicaaaGreatDoorStoreStrR
namespace Go.Proofs.YtnahjngbneicaaaGreatDoor
open _root_.Go.Proofs.Tryz
set_option maxRecDepth 100000
variable {kind:Int} {s:Sto} {d:Dk} {all:List Rec} {lo n:Nat}
theorem OnI.append (h:OnI kind (s,d) all lo n) (f:X4 (s,d) all n) (D:0<=kind) (G:kind<6) (l:List Rec):OnI kind (X5 l (s,d)).1 (if(X5 l (s,d)).2=0 then all++l else all) lo (n+1):=by
 have y:s.now.st.kind=kind:=by
  have:s.now=X7 kind all all.length:=h.str.now;rw[this];exact ZkY h.str.al D G _
 have c:=h.str.append f y l;have v:OkD d:=f.okd;unfold X5 at c ⊢;by_cases t:Yc l
 case neg=>
  rw[zab t,zaa (show ¬ (1:Int)=0 by decide)]
  exact h.more
 rw[zaa (fun g=>g t)] at c ⊢
 by_cases u:(l.headD Qi).idx=s.next
 case neg=>
  rw[zab u,zaa (show ¬ (15:Int)=0 by decide)]
  exact h.more
 rw[zaa (fun g=>g u)] at c ⊢
 dsimp only at c ⊢
 by_cases b:(Qy d (Jr s d) (Jv s l)).2=0
 case neg=>
  rw[zaa b,zaa b,ZbQ b];exact h.more
 rw[zab b,zab rfl] at c ⊢
 have i:Jr s d≠0∧Jr s d≠1∧(Jr s d<=2*(n:Int)+3):=by
  have J:=Zan (d:=d) 2;have I:Xs d 2<=2*(n:Int)+1+2:=Zjx (first:=2) (B:=2*(n:Int)+1) h.nam (by omega)
  unfold Jr;split
  ·exact⟨by omega,by omega,by omega⟩
  ·rename_i q
   obtain⟨a,p,H,x⟩:=f.curL q;have A:s.log.pcs=a++[p]:=H;have E:p.name=s.cur:=x;have k:p ∈ s.log.pcs:=by rw[A];simp
   have F:=f.on (Zff b) p k;have C:=h.nam _ F;have w:=f.two p k;rw[E] at C w;exact⟨q,by omega,by omega⟩
 refine⟨c,fun j=>?_,fun m j=>?_,fun z=>absurd z i.1⟩
 ·rcases(Zbz v b 1).1 j with e | e
  ·exact i.2.1 e.symm
  ·exact h.one e
 ·rcases(Zbz v b m).1 j with e | e
  ·rw[e];have:=i.2.2;omega
  ·have:=h.nam m e
   omega
theorem OnI.sync (h:OnI kind (s,d) all lo n) (i:X4 (s,d) all n):∃ lo',OnI kind (Q5 (s,d)).1 all lo' n:=by
 have c:=Zjw (s,d);have f:=(Zhc (s,d)).2.1;have b:1 ∉ Qk (Q5 (s,d)).1.2:=by rw[ZaD c];exact h.one
 have e:∀ m ∈ Qk (Q5 (s,d)).1.2,m<=2*(n:Int)+1:=by rw[ZaD c];exact h.nam
 rcases h.str.sync i with ⟨-,a,-,-⟩ | ⟨-,a,-⟩
 ·exact⟨_,a,b,e,fun _=>rfl⟩
 ·exact⟨_,a,b,e,fun g=>h.cz (by rw[<-f];exact g)⟩
theorem OnI.rotate (h:OnI kind (s,d) all lo n) (k:X4 (s,d) all n):∃ lo',OnI kind (Yf (s,d)).1 all lo' n:=by
 have c:=Zjw (s,d);have l:=(Zhc (s,d)).2.1
 have i:1 ∉ Qk (Yf (s,d)).1.2:=by
  have:(Yf (s,d)).1.2=(Q5 (s,d)).1.2:=by unfold Yf;split <;> rfl
  rw[this,ZaD c];exact h.one
 have g:∀ m ∈ Qk (Yf (s,d)).1.2,m<=2*(n:Int)+1:=by
  have:(Yf (s,d)).1.2=(Q5 (s,d)).1.2:=by unfold Yf;split <;> rfl
  rw[this,ZaD c];exact h.nam
 rcases h.str.rotate k with b | ⟨a,b,-⟩
 ·exact⟨_,b,i,g,fun _=>rfl⟩
 ·refine⟨_,b,i,g,fun f=>h.cz ?_⟩
  have e:Yf (s,d)=Q5 (s,d):=by
   unfold Yf at a ⊢;split
   ·rename_i j
    rw[zab j] at a;exact absurd rfl a
   ·rfl
  rw[e,l] at f;exact f
theorem ZoC (a:d.power=0) (l:List Rec):∃ c,c≠0∧X5 l (s,d)=((s,d),c):=by
 unfold X5;split
 ·exact⟨1,by decide,rfl⟩
 ·split
  ·exact⟨15,by decide,rfl⟩
  ·dsimp only
   rw[Zcp a,zaa (show ¬ (11:Int)=0 by decide)]
   exact⟨11,by decide,rfl⟩
theorem Zla (e:d.power=0):(s.cur=0∧Q5 (s,d)=((Ye s,d),0))∨(s.cur≠0∧∃ c,c≠0∧Q5 (s,d)=((s,d),c)):=by
 by_cases a:s.cur=0
 ·left
  refine⟨a,?_⟩;unfold Q5;rw[zab a]
 ·right
  refine⟨a,11,by decide,?_⟩
  have f:Q1 (s,d)=((s,d),11):=by
   show((s,(X3 d s.cur).1),(X3 d s.cur).2)=_;rw[Zok e]
  have b:Qv [Q1,Qx] (s,d)=((s,d),11):=by
   rw[Qv,f,zaa (show ¬ (11:Int)=0 by decide)]
  unfold Q5;rw[zaa a,b,zaa (show ¬ (11:Int)=0 by decide)]
theorem Zws (f:d.power=0):∃ c,c≠0∧Xp (s,d)=((Q5 (s,d)).1,c):=by
 have l:∃ c,c≠0∧J5 (s,d)=((Q5 (s,d)).1,c):=by
  have b:J5 (s,d)=if(Q5 (s,d)).2=0 then Qv [ZcG,Yy,ZbN,Xm (fun d=>X3 d 1),Gs,Qq] (Q5 (s,d)).1 else Q5 (s,d):=rfl
  rcases Zla (s:=s) f with ⟨-,e⟩ | ⟨-,c,a,e⟩
  ·rw[e,zab rfl] at b
   rw[b,e]
   dsimp only
   rw[Qv];have m:ZcG (Ye s,d)=((Ye s,d),if Z6 (Ye s).now then 0 else 1):=rfl
   rw[m];by_cases j:Z6 (Ye s).now
   case neg=>
    rw[zaa j,zaa (show ¬ (1:Int)=0 by decide)]
    exact⟨1,by decide,rfl⟩
   rw[zab j,zab rfl,Qv];by_cases i:1 ∈ Qk d
   ·have g:Yy (Ye s,d)=((Ye s,d),11):=by
     unfold Yy;rw[zab i];show((Ye s,(Qj d 1).1),(Qj d 1).2)=_;rw[Zji f]
    rw[g,zaa (show ¬ (11:Int)=0 by decide)]
    exact⟨11,by decide,rfl⟩
   ·have g:Yy (Ye s,d)=((Ye s,d),0):=by
     unfold Yy;rw[zaa i]
    rw[g,zab rfl,Qv]
    have k:ZbN (Ye s,d)=((Ye s,d),11):=by
     show((Ye s,(Qy d 1 _).1),(Qy d 1 _).2)=_;rw[Zcp f]
    rw[k,zaa (show ¬ (11:Int)=0 by decide)]
    exact⟨11,by decide,rfl⟩
  ·rw[e,zaa a] at b
   rw[b,e];exact⟨c,a,rfl⟩
 obtain⟨c,a,e⟩:=l;refine⟨c,a,?_⟩;unfold Xp;rw[e,zaa a]
theorem ZtL (a:d.power=0):∀ (P:List Pce),∃ c,c≠0∧Qv ((P.map fun p=>Xm (fun d=>Qj d p.name))++[Qq]) (s,d)=((s,d),c)
 | []=>by
  refine⟨11,by decide,?_⟩
  have e:Qq (s,d)=((s,d),11):=by
   show((if(Qn d).2=0 then { s with nw:=false } else s,(Qn d).1),(Qn d).2)=_
   rw[ZcV a];rfl
  show Qv [Qq] (s,d)=_;rw[Qv,e,zaa (show ¬ (11:Int)=0 by decide)]
 | p::P=>by
  refine⟨11,by decide,?_⟩
  have e:Xm (fun d=>Qj d p.name) (s,d)=((s,d),11):=by
   show((s,(Qj d p.name).1),(Qj d p.name).2)=_;rw[Zji a]
  rw[zd9,zck,Qv,e,zaa (show ¬ (11:Int)=0 by decide)]
theorem ZoD (b:d.power=0):(Z7 (s,d)).1=(s,d):=by
 obtain⟨c,f,e⟩:=ZtL (s:=s) b (s.log.pcs.filter (Zex s));have a:Qv (ZfC s++[Qq]) (s,d)=((s,d),c):=e;unfold Z7;rw[a,zaa f]
theorem ZcZ.synced (h:ZcZ kind (s,d) all lo) (k:X4 (s,d) all n):ZcZ kind (Q5 (s,d)).1 all lo∧((Q5 (s,d)).2=0->ZcZ kind ({ (Q5 (s,d)).1.1 with cur:=0 },(Q5 (s,d)).1.2) all lo):=by
 have i:s.next=all.length:=k.len;rcases Zla (s:=s) h.pw with ⟨b,e⟩ | ⟨b,c,g,e⟩
 ·have a:=h.cz b
  have f:s.next=(lo:Int):=by rw[i,a]
  rw[e];exact⟨⟨h.al,h.pw,h.good,f,fun _=>a⟩,fun _=>⟨h.al,h.pw,h.good,f,fun _=>a⟩⟩
 ·rw[e]
  exact⟨h,fun j=>absurd j g⟩
theorem ZcZ.step {x:Run} (h:ZcZ kind x.1 x.2 lo) (i:X4 x.1 x.2 n) (o:SOp):ZcZ kind (Jc x o).1 (Jc x o).2 lo:=by
 obtain⟨⟨s,d⟩,all⟩:=x;have a:=h.synced i;unfold Jc;split
 ·obtain⟨c,f,e⟩:=ZoC (s:=s) h.pw (Zi s.next o)
  show ZcZ kind (X5 (Zi s.next o) (s,d)).1 (if(X5 (Zi s.next o) (s,d)).2=0 then all++Zi s.next o else all) lo
  rw[e,zaa f];exact h
 split
 ·exact a.1
 split
 ·show ZcZ kind (Yf (s,d)).1 all lo
  unfold Yf;split
  ·rename_i g
   exact a.2 g
  ·exact a.1
 split
 ·obtain⟨c,f,e⟩:=Zws (s:=s) h.pw
  show ZcZ kind (Xp (s,d)).1 all lo;rw[e];exact a.1
 split
 ·show ZcZ kind (Z7 (s,d)).1 all lo
  rw[ZoD h.pw];exact h
 split
 ·have b:d.power=0:=h.pw
  have e:Zqz d o.n=d:=by
   unfold Zqz;rw[zab b,<-b]
  show ZcZ kind (s,Zqz d o.n) all lo;rw[e];exact h
 ·exact h
def JI (kind:Int) (x:SDk) (all:List Rec) (n:Nat):Prop:=∃ lo,OnI kind x all lo n∨ZcZ kind x all lo
theorem JI.step (c:0<=kind) (b:kind<6) {x:Run} {n:Nat} (h:JI kind x.1 x.2 n) (a:X4 x.1 x.2 n) (e:n<=1000) (o:SOp):JI kind (Jc x o).1 (Jc x o).2 (n+1):=by
 obtain⟨lo,h | h⟩:=h
 case inr=>exact⟨lo,.inr (h.step a o)⟩
 obtain⟨⟨s,d⟩,all⟩:=x;unfold Jc;split
 ·exact⟨lo,.inl (h.append a c b _)⟩
 split
 ·obtain⟨lo',h'⟩:=h.sync a
  exact⟨lo',.inl h'.more⟩
 split
 ·obtain⟨lo',h'⟩:=h.rotate a
  exact⟨lo',.inl h'.more⟩
 split
 ·cases h.checkpoint a c b e with
  | done h0 h1 h2 h3=>exact⟨_,.inl h1⟩
  | full h0 h1 h2=>exact⟨_,.inl h1⟩
  | down h0 h1 h2=>exact⟨_,.inl h1⟩
  | dark h0 h1=>exact⟨_,.inr h1⟩
 split
 ·rcases h.retain a with h' | h'
  ·exact⟨lo,.inl h'.more⟩
  ·exact⟨lo,.inr h'⟩
 split
 ·refine⟨lo,.inl ?_⟩
  have h':OnI kind (s,Zqz d o.n) all lo n:=⟨h.str.power _,h.one,h.nam,h.cz⟩;exact h'.more
 ·exact⟨lo,.inl h.more⟩
theorem JI.run (b:0<=kind) (a:kind<6):∀ (l:List SOp) {x:Run} {n:Nat},JI kind x.1 x.2 n->X4 x.1 x.2 n->n+l.length<=1000->JI kind (l.foldl Jc x).1 (l.foldl Jc x).2 (n+l.length)
 | [],_,_,h,_,_=>h
 | o::l,x,n,h,hr,hn=>by
  rw[zb9] at hn;have:=JI.run b a l (h.step b a hr (by omega) o) (hr.step o) (by omega)
  rw[zb9,zd5];rw[show n+(l.length+1)=n+1+l.length by omega]
  exact this
theorem ZAb (room kind:Int):JI kind (Zor kind,ZgP room) [] 0:=⟨0,.inl ⟨ZxZ room kind,(fun a=>by cases a),(fun m a=>by cases a),fun _=>rfl⟩⟩
theorem JI.found (d:0<=kind) (c:kind<6) {x:SDk} {all:List Rec} {n:Nat} (h:JI kind x all n) (b:X4 x all n) (names:Int) (keep:List Int):∃ lo e,x.1.synced=((lo:Nat):Int)∧ZbG all∧Zwp kind all lo (Zew (G7 x.2 names keep) kind) e:=by
 obtain⟨lo,h | h⟩:=h
 ·obtain⟨e,a⟩:=Zjt d c h.str.al b.okd (h.str.good b lo h.str.lol (.inl zL) zL) names keep
  exact⟨lo,e,h.str.syn,h.str.al,a⟩
 ·obtain⟨e,a⟩:=Zjt d c h.al b.okd h.good names keep
  exact⟨lo,e,h.syn,h.al,a⟩
end Go.Proofs.YtnahjngbneicaaaGreatDoor
