import Derived.Test.YtnahjngbneicaaaGreatDoorStoreStrR
namespace Go.Proofs.YtnahjngbneicaaaGreatDoor
set_option linter.unusedSimpArgs false
open _root_.Go.Proofs.Tryz
set_option maxRecDepth 100000
variable {kind:Int} {s:Sto} {d:Dk} {all:List Rec} {lo n:Nat}
theorem OnI.append (h:OnI kind (s,d) all lo n) (f:X0 (s,d) all n) (F:0<=kind) (w:kind<6) (l:List Rec):OnI kind (Xc l (s,d)).1 (if(Xc l (s,d)).2=0 then all++l else all) lo (n+1):=by
 have z:s.now.st.kind=kind:=by
  have:s.now=Xv kind all all.length:=h.str.now;rw[this];exact Zlo h.str.al F w _
 have c:=h.str.append f z l;have v:OkD d:=f.okd;unfold Xc at c ⊢;by_cases t:Yg l
 case neg=>
  rw[zab t,zaa (show ¬ (1:Int)=0 by decide)]
  exact h.more
 rw[zaa (fun g=>g t)] at c ⊢
 by_cases u:(l.headD Qj).idx=s.next
 case neg=>
  rw[zab u,zaa (show ¬ (15:Int)=0 by decide)]
  exact h.more
 rw[zaa (fun g=>g u)] at c ⊢
 dsimp only at c ⊢
 by_cases b:(Qy d (Ju s d) (Jz s l)).2=0
 case neg=>
  rw[zaa b,zaa b,Zbb b];exact h.more
 rw[zab b,zab rfl] at c ⊢
 have i:Ju s d≠0∧Ju s d≠1∧(Ju s d<=2*(n:Int)+3):=by
  have J:=Zan (d:=d) 2;have I:Xs d 2<=2*(n:Int)+1+2:=ZjF (first:=2) (B:=2*(n:Int)+1) h.nam (by omega)
  unfold Ju;split
  ·exact⟨by omega,by omega,by omega⟩
  ·rename_i k
   obtain⟨a,p,E,x⟩:=f.curL k;have H:s.log.pcs=a++[p]:=E;have A:p.name=s.cur:=x;have q:p ∈ s.log.pcs:=by rw[H];simp
   have C:=f.on (Zfm b) p q;have G:=h.nam _ C;have D:=f.two p q;rw[A] at G D;exact⟨k,by omega,by omega⟩
 refine⟨c,fun j=>?_,fun m j=>?_,fun y=>absurd y i.1⟩
 ·rcases(Zbw v b 1).1 j with e | e
  ·exact i.2.1 e.symm
  ·exact h.one e
 ·rcases(Zbw v b m).1 j with e | e
  ·rw[e];have:=i.2.2;omega
  ·have:=h.nam m e
   omega
theorem OnI.sync (h:OnI kind (s,d) all lo n) (i:X0 (s,d) all n):∃ lo',OnI kind (Q5 (s,d)).1 all lo' n:=by
 have b:=ZjE (s,d);have g:=(Zhs (s,d)).2.1;have e:1 ∉ Qk (Q5 (s,d)).1.2:=by rw[ZaE b];exact h.one
 have c:∀ m ∈ Qk (Q5 (s,d)).1.2,m<=2*(n:Int)+1:=by rw[ZaE b];exact h.nam
 rcases h.str.sync i with ⟨-,a,-,-⟩ | ⟨-,a,-⟩
 ·exact⟨_,a,e,c,fun _=>rfl⟩
 ·exact⟨_,a,e,c,fun f=>h.cz (by rw[<-g];exact f)⟩
theorem OnI.rotate (h:OnI kind (s,d) all lo n) (k:X0 (s,d) all n):∃ lo',OnI kind (Yb (s,d)).1 all lo' n:=by
 have c:=ZjE (s,d);have j:=(Zhs (s,d)).2.1
 have f:1 ∉ Qk (Yb (s,d)).1.2:=by
  have:(Yb (s,d)).1.2=(Q5 (s,d)).1.2:=by unfold Yb;split <;> rfl
  rw[this,ZaE c];exact h.one
 have i:∀ m ∈ Qk (Yb (s,d)).1.2,m<=2*(n:Int)+1:=by
  have:(Yb (s,d)).1.2=(Q5 (s,d)).1.2:=by unfold Yb;split <;> rfl
  rw[this,ZaE c];exact h.nam
 rcases h.str.rotate k with a | ⟨b,a,-⟩
 ·exact⟨_,a,f,i,fun _=>rfl⟩
 ·refine⟨_,a,f,i,fun g=>h.cz ?_⟩
  have e:Yb (s,d)=Q5 (s,d):=by
   unfold Yb at b ⊢;split
   ·rename_i l
    rw[zab l] at b;exact absurd rfl b
   ·rfl
  rw[e,j] at g;exact g
theorem ZoR (a:d.power=0) (l:List Rec):∃ c,c≠0∧Xc l (s,d)=((s,d),c):=by
 unfold Xc;split
 ·exact⟨1,by decide,rfl⟩
 ·split
  ·exact⟨15,by decide,rfl⟩
  ·dsimp only
   rw[Zco a,zaa (show ¬ (11:Int)=0 by decide)]
   exact⟨11,by decide,rfl⟩
theorem Zlq (f:d.power=0):(s.cur=0∧Q5 (s,d)=((Yi s,d),0))∨(s.cur≠0∧∃ c,c≠0∧Q5 (s,d)=((s,d),c)):=by
 by_cases a:s.cur=0
 ·left
  refine⟨a,?_⟩;unfold Q5;rw[zab a]
 ·right
  refine⟨a,11,by decide,?_⟩
  have e:Q2 (s,d)=((s,d),11):=by
   show((s,(Xz d s.cur).1),(Xz d s.cur).2)=_;rw[ZoD f]
  have b:Qv [Q2,Qw] (s,d)=((s,d),11):=by
   rw[Qv,e,zaa (show ¬ (11:Int)=0 by decide)]
  unfold Q5;rw[zaa a,b,zaa (show ¬ (11:Int)=0 by decide)]
theorem ZwF (g:d.power=0):∃ c,c≠0∧Qs (s,d)=((Q5 (s,d)).1,c):=by
 have k:∃ c,c≠0∧J1 (s,d)=((Q5 (s,d)).1,c):=by
  have b:J1 (s,d)=if(Q5 (s,d)).2=0 then Qv [ZcE,Yy,ZbO,Xo (fun d=>Xz d 1),Gx,Qp] (Q5 (s,d)).1 else Q5 (s,d):=rfl
  rcases Zlq (s:=s) g with ⟨-,e⟩ | ⟨-,c,a,e⟩
  ·rw[e,zab rfl] at b
   rw[b,e]
   dsimp only
   rw[Qv];have m:ZcE (Yi s,d)=((Yi s,d),if Zs (Yi s).now then 0 else 1):=rfl
   rw[m];by_cases j:Zs (Yi s).now
   case neg=>
    rw[zaa j,zaa (show ¬ (1:Int)=0 by decide)]
    exact⟨1,by decide,rfl⟩
   rw[zab j,zab rfl,Qv];by_cases i:1 ∈ Qk d
   ·have f:Yy (Yi s,d)=((Yi s,d),11):=by
     unfold Yy;rw[zab i];show((Yi s,(Qi d 1).1),(Qi d 1).2)=_;rw[Zjt g]
    rw[f,zaa (show ¬ (11:Int)=0 by decide)]
    exact⟨11,by decide,rfl⟩
   ·have f:Yy (Yi s,d)=((Yi s,d),0):=by
     unfold Yy;rw[zaa i]
    rw[f,zab rfl,Qv]
    have l:ZbO (Yi s,d)=((Yi s,d),11):=by
     show((Yi s,(Qy d 1 _).1),(Qy d 1 _).2)=_;rw[Zco g]
    rw[l,zaa (show ¬ (11:Int)=0 by decide)]
    exact⟨11,by decide,rfl⟩
  ·rw[e,zaa a] at b
   rw[b,e];exact⟨c,a,rfl⟩
 obtain⟨c,a,e⟩:=k;refine⟨c,a,?_⟩;unfold Qs;rw[e,zaa a]
theorem Zub (a:d.power=0):∀ (P:List Pce),∃ c,c≠0∧Qv ((P.map fun p=>Xo (fun d=>Qi d p.name))++[Qp]) (s,d)=((s,d),c)
 | []=>by
  refine⟨11,by decide,?_⟩
  have e:Qp (s,d)=((s,d),11):=by
   show((if(Qn d).2=0 then { s with nw:=false } else s,(Qn d).1),(Qn d).2)=_
   rw[ZcV a];rfl
  show Qv [Qp] (s,d)=_;rw[Qv,e,zaa (show ¬ (11:Int)=0 by decide)]
 | p::P=>by
  refine⟨11,by decide,?_⟩
  have e:Xo (fun d=>Qi d p.name) (s,d)=((s,d),11):=by
   show((s,(Qi d p.name).1),(Qi d p.name).2)=_;rw[Zjt a]
  rw[zei,zcq,Qv,e,zaa (show ¬ (11:Int)=0 by decide)]
theorem ZoS (f:d.power=0):(Zn (s,d)).1=(s,d):=by
 obtain⟨c,a,e⟩:=Zub (s:=s) f (s.log.pcs.filter (ZeG s));have b:Qv (ZeH s++[Qp]) (s,d)=((s,d),c):=e;unfold Zn;rw[b,zaa a]
theorem ZcZ.synced (h:ZcZ kind (s,d) all lo) (j:X0 (s,d) all n):ZcZ kind (Q5 (s,d)).1 all lo∧((Q5 (s,d)).2=0->ZcZ kind ({ (Q5 (s,d)).1.1 with cur:=0 },(Q5 (s,d)).1.2) all lo):=by
 have k:s.next=all.length:=j.len;rcases Zlq (s:=s) h.pw with ⟨b,e⟩ | ⟨b,c,i,e⟩
 ·have a:=h.cz b
  have f:s.next=(lo:Int):=by rw[k,a]
  rw[e];exact⟨⟨h.al,h.pw,h.good,f,fun _=>a⟩,fun _=>⟨h.al,h.pw,h.good,f,fun _=>a⟩⟩
 ·rw[e]
  exact⟨h,fun g=>absurd g i⟩
theorem ZcZ.step {x:Run} (h:ZcZ kind x.1 x.2 lo) (g:X0 x.1 x.2 n) (o:SOp):ZcZ kind (Zx x o).1 (Zx x o).2 lo:=by
 obtain⟨⟨s,d⟩,all⟩:=x;have a:=h.synced g;unfold Zx;split
 ·obtain⟨c,b,e⟩:=ZoR (s:=s) h.pw (Yz s.next o)
  show ZcZ kind (Xc (Yz s.next o) (s,d)).1 (if(Xc (Yz s.next o) (s,d)).2=0 then all++Yz s.next o else all) lo
  rw[e,zaa b];exact h
 split
 ·exact a.1
 split
 ·show ZcZ kind (Yb (s,d)).1 all lo
  unfold Yb;split
  ·rename_i i
   exact a.2 i
  ·exact a.1
 split
 ·obtain⟨c,b,e⟩:=ZwF (s:=s) h.pw
  show ZcZ kind (Qs (s,d)).1 all lo;rw[e];exact a.1
 split
 ·show ZcZ kind (Zn (s,d)).1 all lo
  rw[ZoS h.pw];exact h
 split
 ·have f:d.power=0:=h.pw
  have e:ZqS d o.n=d:=by
   unfold ZqS;rw[zab f,<-f]
  show ZcZ kind (s,ZqS d o.n) all lo;rw[e];exact h
 ·exact h
def JI (kind:Int) (x:SDk) (all:List Rec) (n:Nat):Prop:=∃ lo,OnI kind x all lo n∨ZcZ kind x all lo
theorem JI.step (c:0<=kind) (b:kind<6) {x:Run} {n:Nat} (h:JI kind x.1 x.2 n) (a:X0 x.1 x.2 n) (e:n<=1000) (o:SOp):JI kind (Zx x o).1 (Zx x o).2 (n+1):=by
 obtain⟨lo,h | h⟩:=h
 case inr=>exact⟨lo,.inr (h.step a o)⟩
 obtain⟨⟨s,d⟩,all⟩:=x;unfold Zx;split
 ·exact⟨lo,.inl (h.append a c b _)⟩
 split
 ·obtain⟨lo',h'⟩:=h.sync a
  exact⟨lo',.inl h'.more⟩
 split
 ·obtain⟨lo',h'⟩:=h.rotate a
  exact⟨lo',.inl h'.more⟩
 split
 ·cases h.checkpoint a c b e with
  | done h0 h1 h2 h3=>exact⟨_,.inl h1⟩
  | full h0 h1 h2=>exact⟨_,.inl h1⟩
  | down h0 h1 h2=>exact⟨_,.inl h1⟩
  | dark h0 h1=>exact⟨_,.inr h1⟩
 split
 ·rcases h.retain a with h' | h'
  ·exact⟨lo,.inl h'.more⟩
  ·exact⟨lo,.inr h'⟩
 split
 ·refine⟨lo,.inl ?_⟩
  have h':OnI kind (s,ZqS d o.n) all lo n:=⟨h.str.power _,h.one,h.nam,h.cz⟩;exact h'.more
 ·exact⟨lo,.inl h.more⟩
theorem JI.run (b:0<=kind) (a:kind<6):∀ (l:List SOp) {x:Run} {n:Nat},JI kind x.1 x.2 n->X0 x.1 x.2 n->n+l.length<=1000->JI kind (l.foldl Zx x).1 (l.foldl Zx x).2 (n+l.length)
 | [],_,_,h,_,_=>h
 | o::l,x,n,h,hr,hn=>by
  rw[zcb] at hn;have:=JI.run b a l (h.step b a hr (by omega) o) (hr.step o) (by omega)
  rw[zcb,zd6];rw[show n+(l.length+1)=n+1+l.length by omega]
  exact this
theorem ZAH (room kind:Int):JI kind (ZoJ kind,Zhe room) [] 0:=⟨0,.inl ⟨Zyt room kind,(fun a=>by cases a),(fun m a=>by cases a),fun _=>rfl⟩⟩
end Go.Proofs.YtnahjngbneicaaaGreatDoor
