import Derived.Test.YtnahjngbneicaaaGreatDoorStoreFind
namespace Go.Proofs.YtnahjngbneicaaaGreatDoor
set_option linter.unusedSimpArgs false
open _root_.Go.Proofs.Tryz
open List (append_assoc length_take map_cons mem_cons_self)
set_option maxRecDepth 100000
variable {kind:Int} {all:List Rec} {fs:List Fl} {i:Nat}
def ZjA (kind:Int) (all:List Rec) (fs:List Fl) (lo:Nat):Dir->Nat->Nat->Prop
 | [],i,j=>i=j
 | [p],i,j=>Zfv kind all (fl fs p.2) i j lo
 | p::q::t,i,j=>∃ m,i<m∧Zfv kind all (fl fs p.2) i m m∧ZjA kind all fs lo (q::t) m j
theorem ZjA.le {lo:Nat}:∀ {E:Dir} {i j:Nat},ZjA kind all fs lo E i j->i<=j
 | [],_,_,h=>zep h
 | [_],_,_,h=>h.ie
 | _::_::_,_,_,⟨_,h1,_,h3⟩=>by
  have:=ZjA.le h3;omega
def Zlm (d':Dk) (fs:List Fl) (E:Dir):Prop:=∀ p ∈ E,∃ c,(fl fs p.2).k<=c∧c<=(fl fs p.2).b.length∧(Zu d' p.1).1=(fl fs p.2).b.take c
theorem ZoO {a:Lgb} {n:Int} {l:List Rec} (b:a.pcs.length=0->a.recs=[]) (c:a.pcs.length=0∨(i:Int)=a.next):((a.start n i).add l).next=(i:Int)+l.length∧((a.start n i).add l).pcs.length≠0∧((a.start n i).add l).first=(if a.pcs.length=0 then(i:Int) else a.first)∧((a.start n i).add l).recs=a.recs++l:=by
 refine⟨?_,?_,rfl,rfl⟩
 ·rw[Lgb.add_next,a.start_next n i b c]
 ·show(Ze (a.pcs++[_]) l.length).length≠0
  rw[Gf];simp
theorem ZzT {m e:Nat} (c:i<=m) (b:m<=e):(all.take m).drop i++(all.take e).drop m=(all.take e).drop i:=by
 have a:(all.take e).drop i=((all.take e).drop i).take (m-i)++((all.take e).drop i).drop (m-i):=(zb9 _ _).symm;rw[a,zdz]
 congr 1
 ·rw[zfo,zfo,zfl]
  congr 1
  omega
 ·congr 1
  omega
theorem ZoP {kind:Int} (B:0<=kind) (D:kind<6) {all:List Rec} (G:ZbG all) {fs:List Fl} {lo:Nat} {d':Dk}:∀ (E:Dir) (i j:Nat) (a:Lgb),ZjA kind all fs lo E i j->Zlm d' fs E->(a.pcs.length=0->a.recs=[])->(a.pcs.length=0∨(i:Int)=a.next)->
 ((E.map Prod.fst).foldl (logOne d' kind) a=a∧(E≠[]->lo<=i))∨
 ∃ b,i<=b∧b<=j∧lo<=b∧((E.map Prod.fst).foldl (logOne d' kind) a).pcs.length≠0∧((E.map Prod.fst).foldl (logOne d' kind) a).first=(if a.pcs.length=0 then(i:Int) else a.first)∧((E.map Prod.fst).foldl (logOne d' kind) a).recs=a.recs++(all.take b).drop i
 | [],i,j,a,_,_,_,_=>.inl ⟨rfl,fun h=>absurd rfl h⟩
 | [p],i,j,a,hs,hr,hacc,hi=>by
  obtain⟨c,C,A,g⟩:=hr p mem_cons_self;have S:Zfv kind all (fl fs p.2) i j lo:=hs;show(logOne d' kind a p.1=a∧_)∨∃ b,i<=b∧b<=j∧lo<=b∧(logOne d' kind a p.1).pcs.length≠0∧(logOne d' kind a p.1).first=_∧(logOne d' kind a p.1).recs=_;rcases S.cut G B D C A with ⟨H,z⟩ | ⟨b,v,k,w,d⟩
  ·left
   refine⟨?_,fun _=>z⟩
   unfold logOne;rw[g,H]
  ·right
   have e:logOne d' kind a p.1=(a.start p.1 i).add ((all.take b).drop i):=by
    unfold logOne;rw[g,d]
    dsimp only
    rw[zab hi]
   rw[e];obtain⟨F,f,u,y⟩:=ZoO (n:=p.1) (l:=(all.take b).drop i) hacc hi;exact⟨b,v,k,w,f,u,y⟩
 | p::q::t,i,j,a,hs,hr,hacc,hi=>by
  obtain⟨m,U,J,I⟩:=hs;obtain⟨c,C,A,g⟩:=hr p mem_cons_self;have M:=I.le
  have d:ZoZ (Zu d' p.1).1 kind=some (i,(all.take m).drop i):=by
   rw[g];rcases J.cut G B D C A with ⟨H,z⟩ | ⟨b,v,k,w,d⟩
   ·omega
   ·have:b=m:=by omega
    rw[d,this]
  have e:logOne d' kind a p.1=(a.start p.1 i).add ((all.take m).drop i):=by
   unfold logOne;rw[d]
   dsimp only
   rw[zab hi]
  obtain⟨F,f,u,y⟩:=ZoO (n:=p.1) (l:=(all.take m).drop i) hacc hi
  have R:((all.take m).drop i).length=m-i:=by
   have:=J.ea;rw[zci,length_take];omega
  rw[map_cons,zd6,e];rw[R] at F;have K:=ZoP B D G (q::t) m j ((a.start p.1 i).add ((all.take m).drop i)) I (fun x T=>hr x (za6 _ T)) (fun P=>absurd P f) (.inr (by rw[F];omega))
  right;rcases K with ⟨Q,z⟩ | ⟨b,v,k,w,N,L,O⟩
  ·rw[Q]
   exact⟨m,by omega,M,z (by simp),f,u,y⟩
  ·refine⟨b,by omega,k,w,N,?_,?_⟩
   ·rw[L,zaa f,u]
   ·rw[O,y,append_assoc,ZzT (by omega) v]
def ZjB (kind:Int) (all:List Rec) (fs:List Fl):Dir->List Nat->Prop
 | [],[]=>True
 | p::t,j::js=>(fl fs p.2).k=(fl fs p.2).b.length∧(fl fs p.2).b=ZjN (Xv kind all j)∧(Zs (Xv kind all j)∧j<=all.length)∧(Xv kind all j).st.kind=kind∧ZjB kind all fs t js
 | _,_=>False
theorem Zgi {kind:Int} {all:List Rec} {fs:List Fl} {d':Dk}:∀ (O:Dir) (b:List Nat) (a:List Q0),ZjB kind all fs O b->Zlm d' fs O->(O.map Prod.fst).foldl (Jv d' kind) a=a++b.map (Xv kind all)
 | [],[],a,_,_=>by simp
 | p::t,j::b,a,⟨h1,h2,h3,h4,h5⟩,hr=>by
  obtain⟨c,k,i,d⟩:=hr p mem_cons_self
  have e:(Zu d' p.1).1=ZjN (Xv kind all j):=by
   rw[d,<-h2,zbl (by omega)]
  have g:Jv d' kind a p.1=a++[Xv kind all j]:=by
   unfold Jv;rw[e,Zxi h3.1,zab ⟨rfl,h4⟩]
  rw[map_cons,zd6,g,Zgi t b _ h5 (fun x f=>hr x (za6 _ f)),map_cons,append_assoc]
  rfl
 | [],_::_,_,h,_=>h.elim
 | _::_,[],_,h,_=>h.elim
theorem Zln (kind:Int) (all:List Rec) (b:List Nat):Gc ([Jd kind]++b.map (Xv kind all))=Xv kind all (b.getLastD 0):=by
 rcases List.eq_nil_or_concat b with rfl | ⟨a,j,rfl⟩
 ·rfl
 ·rw[List.concat_eq_append,zc1,<-append_assoc]
  unfold Gc;rw[List.map_singleton,Zjx];simp
def Xg (l:Dir):Dir:=l.filter fun p=>!(decide (p.1<2) || decide ((p.1-2) % 2≠0))
def Dj (l:Dir):Dir:=l.filter fun p=>!(decide (p.1<3) || decide ((p.1-3) % 2≠0))
theorem ZwC (l:Dir):Xm (l.map Prod.fst) 2=(Xg l).map Prod.fst:=by
 unfold Xm Xg;rw[List.filter_map];rfl
theorem ZrD (l:Dir):Xm (l.map Prod.fst) 3=(Dj l).map Prod.fst:=by
 unfold Xm Dj;rw[List.filter_map];rfl
def Jo (kind:Int) (all:List Rec) (lo:Nat) (fs:List Fl) (l:Dir):Prop:=
 ∃ i j js,ZjA kind all fs lo (Xg l) i j∧j<=all.length∧ZjB kind all fs (Dj l) js∧js.getLastD 0<=lo∧lo<=all.length∧(Xg l=[]->lo<=js.getLastD 0)∧(Xg l≠[]->i<=js.getLastD 0∧lo<=j)
structure ZyV (kind:Int) (all:List Rec) (lo:Nat) (s:Sto) (e:Nat):Prop where
 lo:lo<=e
 hi:e<=all.length
 next:s.next=e
 now:s.now=Xv kind all e
 f0:0<=s.log.first
 fe:s.log.first<=e
 recs:s.log.recs=(all.take e).drop s.log.first.toNat
 syn:s.synced=e
theorem Zyr (h0:0<=kind) (R:kind<6) {all:List Rec} (q:ZbG all) {lo:Nat} {fs:List Fl} {l:Dir} {d':Dk} (T:Jo kind all lo fs l) (v:Qm d'=l) (x:Zlm d' fs l):∃ e,ZyV kind all lo (ZbA d' kind) e:=by
 obtain⟨i,j,g,G,hj,hb,Y,ad,w,t⟩:=T;have aa:Zlm d' fs (Xg l):=fun p u=>x p (za3.1 u).1
 have J:Zlm d' fs (Dj l):=fun p u=>x p (za3.1 u).1
 have F:Ya d' kind=[Jd kind]++g.map (Xv kind all):=by
  unfold Ya Qk;rw[v,ZrD];exact Zgi _ g _ hb J
 obtain⟨a,z⟩:=zg7 (g.getLastD 0);rw[<-z] at Y w t;have X:Gc (Ya d' kind)=Xv kind all a:=by rw[F,Zln,z]
 have f:=Zfo q kind (j:=a) (by omega)
 have B:Jq d' kind=((Xg l).map Prod.fst).foldl (logOne d' kind) ZaF:=by
  unfold Jq Qk;rw[v,ZwC]
 have D:=ZoP (kind:=kind) h0 R q (lo:=lo) (d':=d') (Xg l) i j ZaF G aa (fun _=>rfl) (.inl rfl)
 rw[<-B] at D
 have key:(∃ e,lo<=e∧e<=all.length∧((Jq d' kind).behind (Xv kind all a)).1.next=e∧((Jq d' kind).behind (Xv kind all a)).2=Xv kind all e∧0<=((Jq d' kind).behind (Xv kind all a)).1.first∧((Jq d' kind).behind (Xv kind all a)).1.first<=e∧((Jq d' kind).behind (Xv kind all a)).1.recs=(all.take e).drop ((Jq d' kind).behind (Xv kind all a)).1.first.toNat):=by
  rcases D with ⟨W,hl⟩ | ⟨b,g1,g2,V,k,N,P⟩
  ·have K:¬ (Jq d' kind).leads (Xv kind all a):=fun U=>U.1 (by rw[W];rfl)
   have n:(Jq d' kind).behind (Xv kind all a)=(⟨(Xv kind all a).idx,[],[]⟩,Xv kind all a):=by
    unfold Lgb.behind;rw[zaa K]
   rw[n,f];refine⟨a,?_,by omega,?_,rfl,by show(0:Int)<=(a:Int);omega,zen _,?_⟩
   ·by_cases d:Xg l=[]
    ·exact w d
    ·have:=hl d
     have:=t d;omega
   ·show(a:Int)+(([]:List Rec).length:Int)=a
    simp
   ·show([]:List Rec)=(all.take a).drop (a:Int).toNat
    rw[zbj,zea (by rw[length_take];omega)]
  ·have I:Xg l≠[]:=fun d=>by
    rw[B,d] at k;exact k rfl
   have ac:=t I;have c:(Jq d' kind).first=i:=by rw[N];rfl
   have m:(Jq d' kind).recs=(all.take b).drop i:=by rw[P];rfl
   have L:b<=all.length:=by omega
   have ab:((all.take b).drop i).length=b-i:=by rw[zci,length_take];omega
   have A:(Jq d' kind).next=b:=by
    unfold Lgb.next;rw[c,m,ab];omega
   have E:(Jq d' kind).recs.drop ((Xv kind all a).idx-(Jq d' kind).first).toNat=(all.take b).drop a:=by
    rw[m,c,f,zdz]
    congr 1
    omega
   have C:=Zll q kind (j:=a) (e:=b) (by omega)
   have Q:(Jq d' kind).leads (Xv kind all a):=by
    refine⟨k,?_,?_,?_⟩
    ·rw[c,f];omega
    ·rw[A,f];omega
    ·rw[E,C]
   have n:(Jq d' kind).behind (Xv kind all a)=(Jq d' kind,Xv kind all b):=by
    unfold Lgb.behind;rw[zab Q,E,C]
   rw[n];refine⟨b,V,L,A,rfl,by rw[c];omega,by rw[c];omega,?_⟩
   rw[m,c,zbj]
 obtain⟨e,M,q2,y,O,Z,S,H⟩:=key;refine⟨e,?_⟩;unfold ZbA;rw[X];exact⟨M,q2,y,O,Z,S,H,y⟩
theorem ZqH (n:0<=kind) (g:kind<6) {all:List Rec} (j:ZbG all) {lo:Nat} {d:Dk} (c:OkD d) (i:∀ k,Jo kind all lo d.files (Yo d k)) (names:Int) (keep:List Int):∃ e,ZyV kind all lo (ZbA (Jc d names keep) kind) e:=by
 refine Zyr n g j (i (Zf names d.waits.length)) rfl fun p m=>?_
 have l:=c.dirs (Zf names d.waits.length);obtain⟨a,f⟩:=Zlk c names keep ((Y2 l.rise p.1 p.2).2 m);have t:=Zfx c.keep p.2;have q:=ZbH a ((fl d.files p.2).b.length-(fl d.files p.2).k);refine⟨(fl d.files p.2).k+Zf a ((fl d.files p.2).b.length-(fl d.files p.2).k),by omega,by omega,?_⟩
 rw[f];rfl
end Go.Proofs.YtnahjngbneicaaaGreatDoor
