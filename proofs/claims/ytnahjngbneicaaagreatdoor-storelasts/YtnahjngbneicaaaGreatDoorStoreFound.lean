import Derived.Test.YtnahjngbneicaaaGreatDoorStoreFind
namespace Go.Proofs.YtnahjngbneicaaaGreatDoor
open _root_.Go.Proofs.Tryz
open List (append_assoc length_take map_cons mem_cons_self)
set_option maxRecDepth 100000
variable {kind:Int} {all:List Rec} {fs:List Fl} {i:Nat}
def Zjr (kind:Int) (all:List Rec) (fs:List Fl) (lo:Nat):Dir->Nat->Nat->Prop
 | [],i,j=>i=j
 | [p],i,j=>Zfn kind all (fl fs p.2) i j lo
 | p::q::t,i,j=>∃ m,i<m∧Zfn kind all (fl fs p.2) i m m∧Zjr kind all fs lo (q::t) m j
theorem Zjr.le {lo:Nat}:∀ {E:Dir} {i j:Nat},Zjr kind all fs lo E i j->i<=j
 | [],_,_,h=>Nat.le_of_eq h
 | [_],_,_,h=>h.ie
 | _::_::_,_,_,⟨_,h1,_,h3⟩=>by
  have:=Zjr.le h3;omega
def Zoy (d':Dk) (fs:List Fl) (E:Dir):Prop:=∀ p ∈ E,∃ c,(fl fs p.2).k<=c∧c<=(fl fs p.2).b.length∧(Zp d' p.1).1=(fl fs p.2).b.take c
theorem Zoz {a:Lgb} {n:Int} {l:List Rec} (b:a.pcs.length=0->a.recs=[]) (c:a.pcs.length=0∨(i:Int)=a.next):((a.start n i).add l).next=(i:Int)+l.length∧((a.start n i).add l).pcs.length≠0∧((a.start n i).add l).first=(if a.pcs.length=0 then(i:Int) else a.first)∧((a.start n i).add l).recs=a.recs++l:=by
 refine⟨?_,?_,rfl,rfl⟩
 ·rw[Lgb.add_next,a.start_next n i b c]
 ·show(Zc (a.pcs++[_]) l.length).length≠0
  rw[Gc];simp
theorem Zzq {m e:Nat} (b:i<=m) (c:m<=e):(all.take m).drop i++(all.take e).drop m=(all.take e).drop i:=by
 have a:(all.take e).drop i=((all.take e).drop i).take (m-i)++((all.take e).drop i).drop (m-i):=(List.take_append_drop _ _).symm;rw[a,List.drop_drop]
 congr 1
 ·rw[List.drop_take,List.drop_take,List.take_take]
  congr 1
  omega
 ·congr 1
  omega
theorem ZoA {kind:Int} (A:0<=kind) (G:kind<6) {all:List Rec} (B:ZbG all) {fs:List Fl} {lo:Nat} {d':Dk}:∀ (E:Dir) (i j:Nat) (a:Lgb),Zjr kind all fs lo E i j->Zoy d' fs E->(a.pcs.length=0->a.recs=[])->(a.pcs.length=0∨(i:Int)=a.next)->
 ((E.map Prod.fst).foldl (logOne d' kind) a=a∧(E≠[]->lo<=i))∨
 ∃ b,i<=b∧b<=j∧lo<=b∧((E.map Prod.fst).foldl (logOne d' kind) a).pcs.length≠0∧((E.map Prod.fst).foldl (logOne d' kind) a).first=(if a.pcs.length=0 then(i:Int) else a.first)∧((E.map Prod.fst).foldl (logOne d' kind) a).recs=a.recs++(all.take b).drop i
 | [],i,j,a,_,_,_,_=>.inl ⟨rfl,fun h=>absurd rfl h⟩
 | [p],i,j,a,hs,hr,hacc,hi=>by
  obtain⟨c,F,C,w⟩:=hr p mem_cons_self;have P:Zfn kind all (fl fs p.2) i j lo:=hs;show(logOne d' kind a p.1=a∧_)∨∃ b,i<=b∧b<=j∧lo<=b∧(logOne d' kind a p.1).pcs.length≠0∧(logOne d' kind a p.1).first=_∧(logOne d' kind a p.1).recs=_;rcases P.cut B A G F C with ⟨J,k⟩ | ⟨b,u,z,v,f⟩
  ·left
   refine⟨?_,fun _=>k⟩
   unfold logOne;rw[w,J]
  ·right
   have e:logOne d' kind a p.1=(a.start p.1 i).add ((all.take b).drop i):=by
    unfold logOne;rw[w,f]
    dsimp only
    rw[if_pos hi]
   rw[e];obtain⟨D,d,g,y⟩:=Zoz (n:=p.1) (l:=(all.take b).drop i) hacc hi;exact⟨b,u,z,v,d,g,y⟩
 | p::q::t,i,j,a,hs,hr,hacc,hi=>by
  obtain⟨m,U,I,H⟩:=hs;obtain⟨c,F,C,w⟩:=hr p mem_cons_self;have R:=H.le
  have f:ZoH (Zp d' p.1).1 kind=some (i,(all.take m).drop i):=by
   rw[w];rcases I.cut B A G F C with ⟨J,k⟩ | ⟨b,u,z,v,f⟩
   ·omega
   ·have:b=m:=by omega
    rw[f,this]
  have e:logOne d' kind a p.1=(a.start p.1 i).add ((all.take m).drop i):=by
   unfold logOne;rw[f]
   dsimp only
   rw[if_pos hi]
  obtain⟨D,d,g,y⟩:=Zoz (n:=p.1) (l:=(all.take m).drop i) hacc hi
  have O:((all.take m).drop i).length=m-i:=by
   have:=I.ea;rw[List.length_drop,length_take];omega
  rw[map_cons,List.foldl_cons,e];rw[O] at D;have L:=ZoA A G B (q::t) m j ((a.start p.1 i).add ((all.take m).drop i)) H (fun x T=>hr x (List.mem_cons_of_mem _ T)) (fun S=>absurd S d) (.inr (by rw[D];omega))
  right;rcases L with ⟨M,k⟩ | ⟨b,u,z,v,K,Q,N⟩
  ·rw[M]
   exact⟨m,by omega,R,k (by simp),d,g,y⟩
  ·refine⟨b,by omega,z,v,K,?_,?_⟩
   ·rw[Q,if_neg d,g]
   ·rw[N,y,append_assoc,Zzq (by omega) u]
def Zjs (kind:Int) (all:List Rec) (fs:List Fl):Dir->List Nat->Prop
 | [],[]=>True
 | p::t,j::js=>(fl fs p.2).k=(fl fs p.2).b.length∧(fl fs p.2).b=ZjA (X7 kind all j)∧(Z6 (X7 kind all j)∧j<=all.length)∧(X7 kind all j).st.kind=kind∧Zjs kind all fs t js
 | _,_=>False
theorem ZkX {kind:Int} {all:List Rec} {fs:List Fl} {d':Dk}:∀ (O:Dir) (b:List Nat) (a:List Q0),Zjs kind all fs O b->Zoy d' fs O->(O.map Prod.fst).foldl (Js d' kind) a=a++b.map (X7 kind all)
 | [],[],a,_,_=>by simp
 | p::t,j::b,a,⟨h1,h2,h3,h4,h5⟩,hr=>by
  obtain⟨c,i,k,d⟩:=hr p mem_cons_self
  have e:(Zp d' p.1).1=ZjA (X7 kind all j):=by
   rw[d,<-h2,List.take_of_length_le (by omega)]
  have g:Js d' kind a p.1=a++[X7 kind all j]:=by
   unfold Js;rw[e,ZwN h3.1,if_pos ⟨rfl,h4⟩]
  rw[map_cons,List.foldl_cons,g,ZkX t b _ h5 (fun x f=>hr x (List.mem_cons_of_mem _ f)),map_cons,append_assoc]
  rfl
 | [],_::_,_,h,_=>h.elim
 | _::_,[],_,h,_=>h.elim
theorem ZtF (kind:Int) (all:List Rec) (b:List Nat):Gp ([Zn kind]++b.map (X7 kind all))=X7 kind all (b.getLastD 0):=by
 rcases List.eq_nil_or_concat b with rfl | ⟨a,j,rfl⟩
 ·rfl
 ·rw[List.concat_eq_append,List.map_append,<-append_assoc]
  unfold Gp;rw[List.map_singleton,Zjn];simp
def Xe (l:Dir):Dir:=l.filter fun p=>!(decide (p.1<2) || decide ((p.1-2) % 2≠0))
def Zdn (l:Dir):Dir:=l.filter fun p=>!(decide (p.1<3) || decide ((p.1-3) % 2≠0))
theorem Zwo (l:Dir):Xk (l.map Prod.fst) 2=(Xe l).map Prod.fst:=by
 unfold Xk Xe;rw[List.filter_map];rfl
theorem ZxW (l:Dir):Xk (l.map Prod.fst) 3=(Zdn l).map Prod.fst:=by
 unfold Xk Zdn;rw[List.filter_map];rfl
def Jl (kind:Int) (all:List Rec) (lo:Nat) (fs:List Fl) (l:Dir):Prop:=
 ∃ i j js,Zjr kind all fs lo (Xe l) i j∧j<=all.length∧Zjs kind all fs (Zdn l) js∧js.getLastD 0<=lo∧lo<=all.length∧(Xe l=[]->lo<=js.getLastD 0)∧(Xe l≠[]->i<=js.getLastD 0∧lo<=j)
structure Zwp (kind:Int) (all:List Rec) (lo:Nat) (s:Sto) (e:Nat):Prop where
 lo:lo<=e
 hi:e<=all.length
 next:s.next=e
 now:s.now=X7 kind all e
 f0:0<=s.log.first
 fe:s.log.first<=e
 recs:s.log.recs=(all.take e).drop s.log.first.toNat
 syn:s.synced=e
theorem ZxX (J:0<=kind) (h1:kind<6) {all:List Rec} (m:ZbG all) {lo:Nat} {fs:List Fl} {l:Dir} {d':Dk} (R:Jl kind all lo fs l) (E:Qm d'=l) (v:Zoy d' fs l):∃ e,Zwp kind all lo (Zew d' kind) e:=by
 obtain⟨i,j,k,hs,hj,L,M,ad,B,n⟩:=R;have P:Zoy d' fs (Xe l):=fun p u=>v p (List.mem_filter.1 u).1
 have Z:Zoy d' fs (Zdn l):=fun p u=>v p (List.mem_filter.1 u).1
 have aa:Yi d' kind=[Zn kind]++k.map (X7 kind all):=by
  unfold Yi Qk;rw[E,ZxW];exact ZkX _ k _ L Z
 obtain⟨a,A⟩:∃ a,a=k.getLastD 0:=⟨_,rfl⟩;rw[<-A] at M B n;have K:Gp (Yi d' kind)=X7 kind all a:=by rw[aa,ZtF,A]
 have f:=Zox m kind (j:=a) (by omega)
 have z:Jm d' kind=((Xe l).map Prod.fst).foldl (logOne d' kind) ZaE:=by
  unfold Jm Qk;rw[E,Zwo]
 have x:=ZoA (kind:=kind) J h1 m (lo:=lo) (d':=d') (Xe l) i j ZaE hs P (fun _=>rfl) (.inl rfl)
 rw[<-z] at x
 have key:(∃ e,lo<=e∧e<=all.length∧((Jm d' kind).behind (X7 kind all a)).1.next=e∧((Jm d' kind).behind (X7 kind all a)).2=X7 kind all e∧0<=((Jm d' kind).behind (X7 kind all a)).1.first∧((Jm d' kind).behind (X7 kind all a)).1.first<=e∧((Jm d' kind).behind (X7 kind all a)).1.recs=(all.take e).drop ((Jm d' kind).behind (X7 kind all a)).1.first.toNat):=by
  rcases x with ⟨Y,N⟩ | ⟨b,g1,g2,S,g,g5,X⟩
  ·have Q:¬ (Jm d' kind).leads (X7 kind all a):=fun hh=>hh.1 (by rw[Y];rfl)
   have t:(Jm d' kind).behind (X7 kind all a)=(⟨(X7 kind all a).idx,[],[]⟩,X7 kind all a):=by
    unfold Lgb.behind;rw[if_neg Q]
   rw[t,f];refine⟨a,?_,by omega,?_,rfl,by show(0:Int)<=(a:Int);omega,Int.le_refl _,?_⟩
   ·by_cases d:Xe l=[]
    ·exact B d
    ·have:=N d
     have:=n d;omega
   ·show(a:Int)+(([]:List Rec).length:Int)=a
    simp
   ·show([]:List Rec)=(all.take a).drop (a:Int).toNat
    rw[Int.toNat_natCast,List.drop_eq_nil_of_le (by rw[length_take];omega)]
  ·have I:Xe l≠[]:=fun d=>by
    rw[z,d] at g;exact g rfl
   have ac:=n I;have c:(Jm d' kind).first=i:=by rw[g5];rfl
   have q:(Jm d' kind).recs=(all.take b).drop i:=by rw[X];rfl
   have H:b<=all.length:=by omega
   have ab:((all.take b).drop i).length=b-i:=by rw[List.length_drop,length_take];omega
   have D:(Jm d' kind).next=b:=by
    unfold Lgb.next;rw[c,q,ab];omega
   have w:(Jm d' kind).recs.drop ((X7 kind all a).idx-(Jm d' kind).first).toNat=(all.take b).drop a:=by
    rw[q,c,f,List.drop_drop]
    congr 1
    omega
   have C:=ZkW m kind (j:=a) (e:=b) (by omega)
   have U:(Jm d' kind).leads (X7 kind all a):=by
    refine⟨g,?_,?_,?_⟩
    ·rw[c,f];omega
    ·rw[D,f];omega
    ·rw[w,C]
   have t:(Jm d' kind).behind (X7 kind all a)=(Jm d' kind,X7 kind all b):=by
    unfold Lgb.behind;rw[if_pos U,w,C]
   rw[t];refine⟨b,S,H,D,rfl,by rw[c];omega,by rw[c];omega,?_⟩
   rw[q,c,Int.toNat_natCast]
 obtain⟨e,T,G,y,V,W,O,F⟩:=key;refine⟨e,?_⟩;unfold Zew;rw[K];exact⟨T,G,y,V,W,O,F,y⟩
theorem Zjt (f:0<=kind) (m:kind<6) {all:List Rec} (g:ZbG all) {lo:Nat} {d:Dk} (c:OkD d) (l:∀ k,Jl kind all lo d.files (Ym d k)) (names:Int) (keep:List Int):∃ e,Zwp kind all lo (Zew (G7 d names keep) kind) e:=by
 refine ZxX f m g (l (Z4 names d.waits.length)) rfl fun p n=>?_
 have i:=c.dirs (Z4 names d.waits.length);obtain⟨a,j⟩:=ZtC c names keep ((Zb i.rise p.1 p.2).2 n);have t:=Zhi c.keep p.2;have q:=Zcy a ((fl d.files p.2).b.length-(fl d.files p.2).k);refine⟨(fl d.files p.2).k+Z4 a ((fl d.files p.2).b.length-(fl d.files p.2).k),by omega,by omega,?_⟩
 rw[j];rfl
end Go.Proofs.YtnahjngbneicaaaGreatDoor
