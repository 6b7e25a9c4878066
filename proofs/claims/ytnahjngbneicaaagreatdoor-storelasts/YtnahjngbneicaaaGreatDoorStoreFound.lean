import Derived.Test.YtnahjngbneicaaaGreatDoorStoreFind
namespace Go.Proofs.YtnahjngbneicaaaGreatDoor
open _root_.Go.Proofs.Tryz
open List (append_assoc length_take map_cons mem_cons_self)
set_option maxRecDepth 100000
variable {kind:Int} {all:List Rec} {fs:List Fl} {i:Nat}
def Zjr (kind:Int) (all:List Rec) (fs:List Fl) (lo:Nat):Dir->Nat->Nat->Prop
 | [],i,j=>i=j
 | [p],i,j=>Zfn kind all (fl fs p.2) i j lo
 | p::q::t,i,j=>∃ m,i<m∧Zfn kind all (fl fs p.2) i m m∧Zjr kind all fs lo (q::t) m j
theorem Zjr.le {lo:Nat}:∀ {E:Dir} {i j:Nat},Zjr kind all fs lo E i j->i<=j
 | [],_,_,h=>Nat.le_of_eq h
 | [_],_,_,h=>h.ie
 | _::_::_,_,_,⟨_,h1,_,h3⟩=>by
  have:=Zjr.le h3;omega
def Zoy (d':Dk) (fs:List Fl) (E:Dir):Prop:=∀ p ∈ E,∃ c,(fl fs p.2).k<=c∧c<=(fl fs p.2).b.length∧(Zp d' p.1).1=(fl fs p.2).b.take c
theorem Zoz {a:Lgb} {n:Int} {l:List Rec} (b:a.pcs.length=0->a.recs=[]) (c:a.pcs.length=0∨(i:Int)=a.next):((a.start n i).add l).next=(i:Int)+l.length∧((a.start n i).add l).pcs.length≠0∧((a.start n i).add l).first=(if a.pcs.length=0 then(i:Int) else a.first)∧((a.start n i).add l).recs=a.recs++l:=by
 refine⟨?_,?_,rfl,rfl⟩
 ·rw[Lgb.add_next,a.start_next n i b c]
 ·show(Zc (a.pcs++[_]) l.length).length≠0
  rw[Gc];simp
theorem Zzq {m e:Nat} (b:i<=m) (c:m<=e):(all.take m).drop i++(all.take e).drop m=(all.take e).drop i:=by
 have a:(all.take e).drop i=((all.take e).drop i).take (m-i)++((all.take e).drop i).drop (m-i):=(zbz _ _).symm;rw[a,zdp]
 congr 1
 ·rw[zfe,zfe,zfc]
  congr 1
  omega
 ·congr 1
  omega
theorem ZoA (B:0<=kind) (G:kind<6) {all:List Rec} (F:ZbG all) {fs:List Fl} {lo:Nat} {d':Dk}:∀ (E:Dir) (i j:Nat) (a:Lgb),Zjr kind all fs lo E i j->Zoy d' fs E->(a.pcs.length=0->a.recs=[])->(a.pcs.length=0∨(i:Int)=a.next)->
 ((E.map Prod.fst).foldl (logOne d' kind) a=a∧(E≠[]->lo<=i))∨
 ∃ b,i<=b∧b<=j∧lo<=b∧((E.map Prod.fst).foldl (logOne d' kind) a).pcs.length≠0∧((E.map Prod.fst).foldl (logOne d' kind) a).first=(if a.pcs.length=0 then(i:Int) else a.first)∧((E.map Prod.fst).foldl (logOne d' kind) a).recs=a.recs++(all.take b).drop i
 | [],i,j,a,_,_,_,_=>.inl ⟨rfl,fun h=>absurd rfl h⟩
 | [p],i,j,a,hs,hr,hacc,hi=>by
  obtain⟨c,A,C,k⟩:=hr p mem_cons_self;have M:Zfn kind all (fl fs p.2) i j lo:=hs;show(logOne d' kind a p.1=a∧_)∨∃ b,i<=b∧b<=j∧lo<=b∧(logOne d' kind a p.1).pcs.length≠0∧(logOne d' kind a p.1).first=_∧(logOne d' kind a p.1).recs=_;rcases M.cut F B G A C with ⟨H,w⟩ | ⟨b,u,y,g,d⟩
  ·left
   refine⟨?_,fun _=>w⟩
   unfold logOne;rw[k,H]
  ·right
   have e:logOne d' kind a p.1=(a.start p.1 i).add ((all.take b).drop i):=by
    unfold logOne;rw[k,d]
    dsimp only
    rw[zab hi]
   rw[e];obtain⟨D,f,z,v⟩:=Zoz (n:=p.1) (l:=(all.take b).drop i) hacc hi;exact⟨b,u,y,g,f,z,v⟩
 | p::q::t,i,j,a,hs,hr,hacc,hi=>by
  obtain⟨m,U,I,J⟩:=hs;obtain⟨c,A,C,k⟩:=hr p mem_cons_self;have L:=J.le
  have d:ZoH (Zp d' p.1).1 kind=some (i,(all.take m).drop i):=by
   rw[k];rcases I.cut F B G A C with ⟨H,w⟩ | ⟨b,u,y,g,d⟩
   ·omega
   ·have:b=m:=by omega
    rw[d,this]
  have e:logOne d' kind a p.1=(a.start p.1 i).add ((all.take m).drop i):=by
   unfold logOne;rw[d]
   dsimp only
   rw[zab hi]
  obtain⟨D,f,z,v⟩:=Zoz (n:=p.1) (l:=(all.take m).drop i) hacc hi
  have T:((all.take m).drop i).length=m-i:=by
   have:=I.ea;rw[zce,length_take];omega
  rw[map_cons,zd5,e];rw[T] at D;have P:=ZoA B G F (q::t) m j ((a.start p.1 i).add ((all.take m).drop i)) J (fun x S=>hr x (za4 _ S)) (fun N=>absurd N f) (.inr (by rw[D];omega))
  right;rcases P with ⟨K,w⟩ | ⟨b,u,y,g,O,Q,R⟩
  ·rw[K]
   exact⟨m,by omega,L,w (by simp),f,z,v⟩
  ·refine⟨b,by omega,y,g,O,?_,?_⟩
   ·rw[Q,zaa f,z]
   ·rw[R,v,append_assoc,Zzq (by omega) u]
def Zjs (kind:Int) (all:List Rec) (fs:List Fl):Dir->List Nat->Prop
 | [],[]=>True
 | p::t,j::js=>(fl fs p.2).k=(fl fs p.2).b.length∧(fl fs p.2).b=ZjA (X7 kind all j)∧(Z6 (X7 kind all j)∧j<=all.length)∧(X7 kind all j).st.kind=kind∧Zjs kind all fs t js
 | _,_=>False
theorem ZkX {d':Dk}:∀ (O:Dir) (b:List Nat) (a:List Q0),Zjs kind all fs O b->Zoy d' fs O->(O.map Prod.fst).foldl (Js d' kind) a=a++b.map (X7 kind all)
 | [],[],a,_,_=>by simp
 | p::t,j::b,a,⟨h1,h2,h3,h4,h5⟩,hr=>by
  obtain⟨c,i,k,g⟩:=hr p mem_cons_self
  have e:(Zp d' p.1).1=ZjA (X7 kind all j):=by
   rw[g,<-h2,zbc (by omega)]
  have d:Js d' kind a p.1=a++[X7 kind all j]:=by
   unfold Js;rw[e,ZwN h3.1,zab ⟨rfl,h4⟩]
  rw[map_cons,zd5,d,ZkX t b _ h5 (fun x f=>hr x (za4 _ f)),map_cons,append_assoc]
  rfl
 | [],_::_,_,h,_=>h.elim
 | _::_,[],_,h,_=>h.elim
theorem ZtF (kind:Int) (all:List Rec) (b:List Nat):Gp ([Zn kind]++b.map (X7 kind all))=X7 kind all (b.getLastD 0):=by
 rcases List.eq_nil_or_concat b with rfl | ⟨a,j,rfl⟩
 ·rfl
 ·rw[List.concat_eq_append,zc0,<-append_assoc]
  unfold Gp;rw[List.map_singleton,Zjn];simp
def Xe (l:Dir):Dir:=l.filter fun p=>!(decide (p.1<2) || decide ((p.1-2) % 2≠0))
def Zdn (l:Dir):Dir:=l.filter fun p=>!(decide (p.1<3) || decide ((p.1-3) % 2≠0))
theorem Zwo (l:Dir):Xk (l.map Prod.fst) 2=(Xe l).map Prod.fst:=by
 unfold Xk Xe;rw[List.filter_map];rfl
theorem ZxW (l:Dir):Xk (l.map Prod.fst) 3=(Zdn l).map Prod.fst:=by
 unfold Xk Zdn;rw[List.filter_map];rfl
def Jl (kind:Int) (all:List Rec) (lo:Nat) (fs:List Fl) (l:Dir):Prop:=
 ∃ i j js,Zjr kind all fs lo (Xe l) i j∧j<=all.length∧Zjs kind all fs (Zdn l) js∧js.getLastD 0<=lo∧lo<=all.length∧(Xe l=[]->lo<=js.getLastD 0)∧(Xe l≠[]->i<=js.getLastD 0∧lo<=j)
structure Zwp (kind:Int) (all:List Rec) (lo:Nat) (s:Sto) (e:Nat):Prop where
 lo:lo<=e
 hi:e<=all.length
 next:s.next=e
 now:s.now=X7 kind all e
 f0:0<=s.log.first
 fe:s.log.first<=e
 recs:s.log.recs=(all.take e).drop s.log.first.toNat
 syn:s.synced=e
theorem ZxX (N:0<=kind) (h1:kind<6) {all:List Rec} (t:ZbG all) {lo:Nat} {fs:List Fl} {l:Dir} {d':Dk} (M:Jl kind all lo fs l) (x:Qm d'=l) (A:Zoy d' fs l):∃ e,Zwp kind all lo (Zew d' kind) e:=by
 obtain⟨i,j,g,hs,hj,U,K,ad,y,k⟩:=M;have I:Zoy d' fs (Xe l):=fun p u=>A p (zax.1 u).1
 have ab:Zoy d' fs (Zdn l):=fun p u=>A p (zax.1 u).1
 have O:Yi d' kind=[Zn kind]++g.map (X7 kind all):=by
  unfold Yi Qk;rw[x,ZxW];exact ZkX _ g _ U ab
 obtain⟨a,B⟩:=zgy (g.getLastD 0);rw[<-B] at K y k;have Y:Gp (Yi d' kind)=X7 kind all a:=by rw[O,ZtF,B]
 have f:=Zox t kind (j:=a) (by omega)
 have v:Jm d' kind=((Xe l).map Prod.fst).foldl (logOne d' kind) ZaE:=by
  unfold Jm Qk;rw[x,Zwo]
 have z:=ZoA (kind:=kind) N h1 t (lo:=lo) (d':=d') (Xe l) i j ZaE hs I (fun _=>rfl) (.inl rfl)
 rw[<-v] at z
 have key:(∃ e,lo<=e∧e<=all.length∧((Jm d' kind).behind (X7 kind all a)).1.next=e∧((Jm d' kind).behind (X7 kind all a)).2=X7 kind all e∧0<=((Jm d' kind).behind (X7 kind all a)).1.first∧((Jm d' kind).behind (X7 kind all a)).1.first<=e∧((Jm d' kind).behind (X7 kind all a)).1.recs=(all.take e).drop ((Jm d' kind).behind (X7 kind all a)).1.first.toNat):=by
  rcases z with ⟨G,T⟩ | ⟨b,g1,g2,F,n,W,X⟩
  ·have H:¬ (Jm d' kind).leads (X7 kind all a):=fun S=>S.1 (by rw[G];rfl)
   have m:(Jm d' kind).behind (X7 kind all a)=(⟨(X7 kind all a).idx,[],[]⟩,X7 kind all a):=by
    unfold Lgb.behind;rw[zaa H]
   rw[m,f];refine⟨a,?_,by omega,?_,rfl,by show(0:Int)<=(a:Int);omega,zed _,?_⟩
   ·by_cases d:Xe l=[]
    ·exact y d
    ·have:=T d
     have:=k d;omega
   ·show(a:Int)+(([]:List Rec).length:Int)=a
    simp
   ·show([]:List Rec)=(all.take a).drop (a:Int).toNat
    rw[za9,zd0 (by rw[length_take];omega)]
  ·have J:Xe l≠[]:=fun d=>by
    rw[v,d] at n;exact n rfl
   have ac:=k J;have c:(Jm d' kind).first=i:=by rw[W];rfl
   have q:(Jm d' kind).recs=(all.take b).drop i:=by rw[X];rfl
   have aa:b<=all.length:=by omega
   have V:((all.take b).drop i).length=b-i:=by rw[zce,length_take];omega
   have C:(Jm d' kind).next=b:=by
    unfold Lgb.next;rw[c,q,V];omega
   have D:(Jm d' kind).recs.drop ((X7 kind all a).idx-(Jm d' kind).first).toNat=(all.take b).drop a:=by
    rw[q,c,f,zdp]
    congr 1
    omega
   have E:=ZkW t kind (j:=a) (e:=b) (by omega)
   have P:(Jm d' kind).leads (X7 kind all a):=by
    refine⟨n,?_,?_,?_⟩
    ·rw[c,f];omega
    ·rw[C,f];omega
    ·rw[D,E]
   have m:(Jm d' kind).behind (X7 kind all a)=(Jm d' kind,X7 kind all b):=by
    unfold Lgb.behind;rw[zab P,D,E]
   rw[m];refine⟨b,F,aa,C,rfl,by rw[c];omega,by rw[c];omega,?_⟩
   rw[q,c,za9]
 obtain⟨e,q1,L,w,Z,q5,Q,R⟩:=key;refine⟨e,?_⟩;unfold Zew;rw[Y];exact⟨q1,L,w,Z,q5,Q,R,w⟩
theorem Zjt (g:0<=kind) (n:kind<6) {all:List Rec} (j:ZbG all) {lo:Nat} {d:Dk} (c:OkD d) (f:∀ k,Jl kind all lo d.files (Ym d k)) (names:Int) (keep:List Int):∃ e,Zwp kind all lo (Zew (G7 d names keep) kind) e:=by
 refine ZxX g n j (f (Z4 names d.waits.length)) rfl fun p m=>?_
 have i:=c.dirs (Z4 names d.waits.length);obtain⟨a,l⟩:=ZtC c names keep ((Zb i.rise p.1 p.2).2 m);have t:=Zhi c.keep p.2;have q:=Zcy a ((fl d.files p.2).b.length-(fl d.files p.2).k);refine⟨(fl d.files p.2).k+Z4 a ((fl d.files p.2).b.length-(fl d.files p.2).k),by omega,by omega,?_⟩
 rw[l];rfl
end Go.Proofs.YtnahjngbneicaaaGreatDoor
