import Derived.Test.YtnahjngbneicaaaGreatDoorStoreStrR
namespace Go.Proofs.YtnahjngbneicaaaGreatDoor
open _root_.Go.Proofs.Tryz
set_option maxRecDepth 100000
variable {kind:Int} {s:Sto} {d:Dk} {all:List Rec} {lo n:Nat}
theorem OnI.append (h:OnI kind (s,d) all lo n) (f:X4 (s,d) all n) (z:0<=kind) (w:kind<6) (l:List Rec):OnI kind (X5 l (s,d)).1 (if(X5 l (s,d)).2=0 then all++l else all) lo (n+1):=by
 have H:s.now.st.kind=kind:=by
  have:s.now=X7 kind all all.length:=h.str.now;rw[this];exact ZkY h.str.al z w _
 have c:=h.str.append f H l;have t:OkD d:=f.okd;unfold X5 at c ⊢;by_cases q:Yc l
 case neg=>
  rw[if_pos q,if_neg (show ¬ (1:Int)=0 by decide)]
  exact h.more
 rw[if_neg (fun i=>i q)] at c ⊢
 by_cases v:(l.headD Qi).idx=s.next
 case neg=>
  rw[if_pos v,if_neg (show ¬ (15:Int)=0 by decide)]
  exact h.more
 rw[if_neg (fun i=>i v)] at c ⊢
 dsimp only at c ⊢
 by_cases b:(Qy d (Jr s d) (Jv s l)).2=0
 case neg=>
  rw[if_neg b,if_neg b,ZbQ b];exact h.more
 rw[if_pos b,if_pos rfl] at c ⊢
 have j:Jr s d≠0∧Jr s d≠1∧(Jr s d<=2*(n:Int)+3):=by
  have I:=Zan (d:=d) 2;have J:Xs d 2<=2*(n:Int)+1+2:=Zjx (first:=2) (B:=2*(n:Int)+1) h.nam (by omega)
  unfold Jr;split
  ·exact⟨by omega,by omega,by omega⟩
  ·rename_i k
   obtain⟨a,p,E,F⟩:=f.curL k;have C:s.log.pcs=a++[p]:=E;have D:p.name=s.cur:=F;have u:p ∈ s.log.pcs:=by rw[C];simp
   have G:=f.on (Zff b) p u;have x:=h.nam _ G;have y:=f.two p u;rw[D] at x y;exact⟨k,by omega,by omega⟩
 refine⟨c,fun g=>?_,fun m g=>?_,fun A=>absurd A j.1⟩
 ·rcases(Zbz t b 1).1 g with e | e
  ·exact j.2.1 e.symm
  ·exact h.one e
 ·rcases(Zbz t b m).1 g with e | e
  ·rw[e];have:=j.2.2;omega
  ·have:=h.nam m e
   omega
theorem OnI.sync (h:OnI kind (s,d) all lo n) (f:X4 (s,d) all n):∃ lo',OnI kind (Q5 (s,d)).1 all lo' n:=by
 have e:=Zjw (s,d);have i:=(Zhc (s,d)).2.1;have b:1 ∉ Qk (Q5 (s,d)).1.2:=by rw[ZaD e];exact h.one
 have c:∀ m ∈ Qk (Q5 (s,d)).1.2,m<=2*(n:Int)+1:=by rw[ZaD e];exact h.nam
 rcases h.str.sync f with ⟨-,a,-,-⟩ | ⟨-,a,-⟩
 ·exact⟨_,a,b,c,fun _=>rfl⟩
 ·exact⟨_,a,b,c,fun g=>h.cz (by rw[<-i];exact g)⟩
theorem OnI.rotate (h:OnI kind (s,d) all lo n) (j:X4 (s,d) all n):∃ lo',OnI kind (Yf (s,d)).1 all lo' n:=by
 have f:=Zjw (s,d);have l:=(Zhc (s,d)).2.1
 have g:1 ∉ Qk (Yf (s,d)).1.2:=by
  have:(Yf (s,d)).1.2=(Q5 (s,d)).1.2:=by unfold Yf;split <;> rfl
  rw[this,ZaD f];exact h.one
 have c:∀ m ∈ Qk (Yf (s,d)).1.2,m<=2*(n:Int)+1:=by
  have:(Yf (s,d)).1.2=(Q5 (s,d)).1.2:=by unfold Yf;split <;> rfl
  rw[this,ZaD f];exact h.nam
 rcases h.str.rotate j with b | ⟨a,b,-⟩
 ·exact⟨_,b,g,c,fun _=>rfl⟩
 ·refine⟨_,b,g,c,fun i=>h.cz ?_⟩
  have e:Yf (s,d)=Q5 (s,d):=by
   unfold Yf at a ⊢;split
   ·rename_i k
    rw[if_pos k] at a;exact absurd rfl a
   ·rfl
  rw[e,l] at i;exact i
theorem ZoC (a:d.power=0) (l:List Rec):∃ c,c≠0∧X5 l (s,d)=((s,d),c):=by
 unfold X5;split
 ·exact⟨1,by decide,rfl⟩
 ·split
  ·exact⟨15,by decide,rfl⟩
  ·dsimp only
   rw[Zcp a,if_neg (show ¬ (11:Int)=0 by decide)]
   exact⟨11,by decide,rfl⟩
theorem Zla (f:d.power=0):(s.cur=0∧Q5 (s,d)=((Ye s,d),0))∨(s.cur≠0∧∃ c,c≠0∧Q5 (s,d)=((s,d),c)):=by
 by_cases a:s.cur=0
 ·left
  refine⟨a,?_⟩;unfold Q5;rw[if_pos a]
 ·right
  refine⟨a,11,by decide,?_⟩
  have e:Q1 (s,d)=((s,d),11):=by
   show((s,(X3 d s.cur).1),(X3 d s.cur).2)=_;rw[Zok f]
  have b:Qv [Q1,Qx] (s,d)=((s,d),11):=by
   rw[Qv,e,if_neg (show ¬ (11:Int)=0 by decide)]
  unfold Q5;rw[if_neg a,b,if_neg (show ¬ (11:Int)=0 by decide)]
theorem Zws (f:d.power=0):∃ c,c≠0∧Xp (s,d)=((Q5 (s,d)).1,c):=by
 have m:∃ c,c≠0∧J5 (s,d)=((Q5 (s,d)).1,c):=by
  have b:J5 (s,d)=if(Q5 (s,d)).2=0 then Qv [ZcG,Yy,ZbN,Xm (fun d=>X3 d 1),Gs,Qq] (Q5 (s,d)).1 else Q5 (s,d):=rfl
  rcases Zla (s:=s) f with ⟨-,e⟩ | ⟨-,c,a,e⟩
  ·rw[e,if_pos rfl] at b
   rw[b,e]
   dsimp only
   rw[Qv];have k:ZcG (Ye s,d)=((Ye s,d),if Z6 (Ye s).now then 0 else 1):=rfl
   rw[k];by_cases i:Z6 (Ye s).now
   case neg=>
    rw[if_neg i,if_neg (show ¬ (1:Int)=0 by decide)]
    exact⟨1,by decide,rfl⟩
   rw[if_pos i,if_pos rfl,Qv];by_cases j:1 ∈ Qk d
   ·have g:Yy (Ye s,d)=((Ye s,d),11):=by
     unfold Yy;rw[if_pos j];show((Ye s,(Qj d 1).1),(Qj d 1).2)=_;rw[Zji f]
    rw[g,if_neg (show ¬ (11:Int)=0 by decide)]
    exact⟨11,by decide,rfl⟩
   ·have g:Yy (Ye s,d)=((Ye s,d),0):=by
     unfold Yy;rw[if_neg j]
    rw[g,if_pos rfl,Qv]
    have l:ZbN (Ye s,d)=((Ye s,d),11):=by
     show((Ye s,(Qy d 1 _).1),(Qy d 1 _).2)=_;rw[Zcp f]
    rw[l,if_neg (show ¬ (11:Int)=0 by decide)]
    exact⟨11,by decide,rfl⟩
  ·rw[e,if_neg a] at b
   rw[b,e];exact⟨c,a,rfl⟩
 obtain⟨c,a,e⟩:=m;refine⟨c,a,?_⟩;unfold Xp;rw[e,if_neg a]
theorem ZtL (a:d.power=0):∀ (P:List Pce),∃ c,c≠0∧Qv ((P.map fun p=>Xm (fun d=>Qj d p.name))++[Qq]) (s,d)=((s,d),c)
 | []=>by
  refine⟨11,by decide,?_⟩
  have e:Qq (s,d)=((s,d),11):=by
   show((if(Qn d).2=0 then { s with nw:=false } else s,(Qn d).1),(Qn d).2)=_
   rw[ZcV a];rfl
  show Qv [Qq] (s,d)=_;rw[Qv,e,if_neg (show ¬ (11:Int)=0 by decide)]
 | p::P=>by
  refine⟨11,by decide,?_⟩
  have e:Xm (fun d=>Qj d p.name) (s,d)=((s,d),11):=by
   show((s,(Qj d p.name).1),(Qj d p.name).2)=_;rw[Zji a]
  rw[List.map_cons,List.cons_append,Qv,e,if_neg (show ¬ (11:Int)=0 by decide)]
theorem ZoD (b:d.power=0):(Z7 (s,d)).1=(s,d):=by
 obtain⟨c,a,e⟩:=ZtL (s:=s) b (s.log.pcs.filter (Zex s));have f:Qv (ZfC s++[Qq]) (s,d)=((s,d),c):=e;unfold Z7;rw[f,if_neg a]
theorem ZcZ.synced (h:ZcZ kind (s,d) all lo) (g:X4 (s,d) all n):ZcZ kind (Q5 (s,d)).1 all lo∧((Q5 (s,d)).2=0->ZcZ kind ({ (Q5 (s,d)).1.1 with cur:=0 },(Q5 (s,d)).1.2) all lo):=by
 have j:s.next=all.length:=g.len;rcases Zla (s:=s) h.pw with ⟨f,e⟩ | ⟨f,c,k,e⟩
 ·have a:=h.cz f
  have b:s.next=(lo:Int):=by rw[j,a]
  rw[e];exact⟨⟨h.al,h.pw,h.good,b,fun _=>a⟩,fun _=>⟨h.al,h.pw,h.good,b,fun _=>a⟩⟩
 ·rw[e]
  exact⟨h,fun i=>absurd i k⟩
theorem ZcZ.step {x:Run} (h:ZcZ kind x.1 x.2 lo) (g:X4 x.1 x.2 n) (o:SOp):ZcZ kind (Jc x o).1 (Jc x o).2 lo:=by
 obtain⟨⟨s,d⟩,all⟩:=x;have a:=h.synced g;unfold Jc;split
 ·obtain⟨c,f,e⟩:=ZoC (s:=s) h.pw (Zi s.next o)
  show ZcZ kind (X5 (Zi s.next o) (s,d)).1 (if(X5 (Zi s.next o) (s,d)).2=0 then all++Zi s.next o else all) lo
  rw[e,if_neg f];exact h
 split
 ·exact a.1
 split
 ·show ZcZ kind (Yf (s,d)).1 all lo
  unfold Yf;split
  ·rename_i i
   exact a.2 i
  ·exact a.1
 split
 ·obtain⟨c,f,e⟩:=Zws (s:=s) h.pw
  show ZcZ kind (Xp (s,d)).1 all lo;rw[e];exact a.1
 split
 ·show ZcZ kind (Z7 (s,d)).1 all lo
  rw[ZoD h.pw];exact h
 split
 ·have b:d.power=0:=h.pw
  have e:Zqz d o.n=d:=by
   unfold Zqz;rw[if_pos b,<-b]
  show ZcZ kind (s,Zqz d o.n) all lo;rw[e];exact h
 ·exact h
def JI (kind:Int) (x:SDk) (all:List Rec) (n:Nat):Prop:=∃ lo,OnI kind x all lo n∨ZcZ kind x all lo
theorem JI.step (c:0<=kind) (b:kind<6) {x:Run} {n:Nat} (h:JI kind x.1 x.2 n) (a:X4 x.1 x.2 n) (e:n<=1000) (o:SOp):JI kind (Jc x o).1 (Jc x o).2 (n+1):=by
 obtain⟨lo,h | h⟩:=h
 case inr=>exact⟨lo,.inr (h.step a o)⟩
 obtain⟨⟨s,d⟩,all⟩:=x;unfold Jc;split
 ·exact⟨lo,.inl (h.append a c b _)⟩
 split
 ·obtain⟨lo',h'⟩:=h.sync a
  exact⟨lo',.inl h'.more⟩
 split
 ·obtain⟨lo',h'⟩:=h.rotate a
  exact⟨lo',.inl h'.more⟩
 split
 ·cases h.checkpoint a c b e with
  | done h0 h1 h2 h3=>exact⟨_,.inl h1⟩
  | full h0 h1 h2=>exact⟨_,.inl h1⟩
  | down h0 h1 h2=>exact⟨_,.inl h1⟩
  | dark h0 h1=>exact⟨_,.inr h1⟩
 split
 ·rcases h.retain a with h' | h'
  ·exact⟨lo,.inl h'.more⟩
  ·exact⟨lo,.inr h'⟩
 split
 ·refine⟨lo,.inl ?_⟩
  have h':OnI kind (s,Zqz d o.n) all lo n:=⟨h.str.power _,h.one,h.nam,h.cz⟩;exact h'.more
 ·exact⟨lo,.inl h.more⟩
theorem JI.run (b:0<=kind) (a:kind<6):∀ (l:List SOp) {x:Run} {n:Nat},JI kind x.1 x.2 n->X4 x.1 x.2 n->n+l.length<=1000->JI kind (l.foldl Jc x).1 (l.foldl Jc x).2 (n+l.length)
 | [],_,_,h,_,_=>h
 | o::l,x,n,h,hr,hn=>by
  rw[List.length_cons] at hn;have:=JI.run b a l (h.step b a hr (by omega) o) (hr.step o) (by omega)
  rw[List.length_cons,List.foldl_cons];rw[show n+(l.length+1)=n+1+l.length by omega]
  exact this
theorem ZAb (room kind:Int):JI kind (Zor kind,ZgP room) [] 0:=⟨0,.inl ⟨ZxZ room kind,(fun a=>by cases a),(fun m a=>by cases a),fun _=>rfl⟩⟩
theorem JI.found (d:0<=kind) (c:kind<6) {x:SDk} {all:List Rec} {n:Nat} (h:JI kind x all n) (a:X4 x all n) (names:Int) (keep:List Int):∃ lo e,x.1.synced=((lo:Nat):Int)∧ZbG all∧Zwp kind all lo (Zew (G7 x.2 names keep) kind) e:=by
 obtain⟨lo,h | h⟩:=h
 ·obtain⟨e,b⟩:=Zjt d c h.str.al a.okd (h.str.good a lo h.str.lol (.inl zL) zL) names keep
  exact⟨lo,e,h.str.syn,h.str.al,b⟩
 ·obtain⟨e,b⟩:=Zjt d c h.al a.okd h.good names keep
  exact⟨lo,e,h.syn,h.al,b⟩
end Go.Proofs.YtnahjngbneicaaaGreatDoor
