import Derived.Test.YtnahjngbneicaaaGreatDoorStoreStrD
namespace Go.Proofs.YtnahjngbneicaaaGreatDoor
open _root_.Go.Proofs.Tryz
open List (map_cons)
set_option maxRecDepth 100000
variable {kind:Int} {all:List Rec} {fs:List Fl} {lo n:Nat} {s:Sto}
theorem Xz.names:∀ {E:Dir} {P:List Pce},Xz kind all fs lo E P->E.map Prod.fst=P.map Pce.name
 | [],[],_=>rfl
 | p::E,c::P,⟨h1,_,_,h4⟩=>by rw[map_cons,map_cons,h1,Xz.names h4]
 | [],_::_,h=>h.elim
 | _::_,[],h=>h.elim
theorem Xz.drop:∀ (i:Nat) {E:Dir} {P:List Pce},Xz kind all fs lo E P->Xz kind all fs lo (E.drop i) (P.drop i)
 | 0,_,_,h=>h
 | _+1,[],[],_=>trivial
 | i+1,_::_,_::_,⟨_,_,_,h4⟩=>Xz.drop i h4
 | _+1,[],_::_,h=>h.elim
 | _+1,_::_,[],h=>h.elim
theorem Zfk.goodLeft {x:SDk} (h:Zfk kind x all lo) (g:X4 x all n) {a b:List Pce} (F:x.1.log.pcs=a++b) (y:∀ p ∈ a,p.stop<=x.1.base.idx) {i:Dir} (I:Xe i=(Xe (Qm x.2)).drop a.length) (G:Zdn i=Zdn (Qm x.2)):Jl kind all lo x.2.files i:=by
 obtain⟨j,D,C,A⟩:=h.bas;have t:=g.ok.log;have K:=t.f0;have E:x.1.log.next=all.length:=g.len;have q:=t.ch;have v:=g.bas;rw[C] at v y;have c:=h.seg.drop a.length;rw[F] at q c;rw[List.drop_left] at c;obtain⟨m,f,d⟩:=Y1.1 q;have L:=Zai f;have N:=Zai d
 have J:m<=((j.getLastD 0:Nat):Int):=by
  by_cases l:a.length=0
  ·rw[List.eq_nil_of_length_eq_zero l] at f
   have:x.1.log.first=m:=f;have:=v.1;omega
  ·obtain⟨a',p,rfl⟩:=ZdM l
   obtain⟨k,_,_,_,B⟩:=Y1.1 f;have M:p.stop=m:=B;have:=y p (by simp)
   omega
 have z:=c.toC d (by omega)
 have w:=h.lol;unfold Jl;rw[I,G];refine⟨m.toNat,all.length,j,?_,Nat.le_refl _,D,A,w,fun u=>?_,fun u=>⟨by omega,w⟩⟩
 ·rw[E,Int.toNat_natCast] at z
  exact z
 ·have H:=(c.nil_iff).1 u
  rw[H] at d;have e:m=x.1.log.next:=d;omega
def Zda (l:Dir) (ms:List Int):Dir:=(ms.map Ch.take).foldl chD l
theorem ZoB:∀ (a:List Int) (l:Dir) (t:List Int),Xa l->(∀ m ∈ a,Zro m=true∧ZtR m=false)->(Xe l).map Prod.fst=a++t->Xe (Zda l a)=(Xe l).drop a.length∧Zdn (Zda l a)=Zdn l∧(∀ p ∈ Zda l a,p ∈ l)
 | [],_,_,_,_,_=>⟨rfl,rfl,fun _ h=>h⟩
 | m::a,l,t,hr,hm,he=>by
  have w:=hm m List.mem_cons_self;have y:Zda l (m::a)=Zda (Yt l m none) a:=rfl;have d:Xa (Yt l m none):=Yo hr _ _
  cases hE:Xe l with
  | nil=>
   rw[hE] at he
   cases he
  | cons p E=>
   rw[hE,map_cons,List.cons_append] at he;have v:p.1=m:=List.head_eq_of_cons_eq he;have i:Xa (Xe l):=Y9 hr _
   have b:Xe (Yt l m none)=E:=by
    have g:Xe (Yt l m none)=(Xe l).filter (fun p=>decide (p.1≠m)):=ZtG hr Zro m
    rw[g,<-v];exact Zwq i hE
   have e:Zdn (Yt l m none)=Zdn l:=Jt hr ZtR w.2 _
   have n:(Xe (Yt l m none)).map Prod.fst=a++t:=by
    rw[b];exact List.tail_eq_of_cons_eq he
   obtain⟨j,f,u⟩:=ZoB a (Yt l m none) t d (fun x c=>hm x (List.mem_cons_of_mem _ c)) n
   rw[y];refine⟨?_,f.trans e,fun q k=>?_⟩
   ·rw[j,b]
    rfl
   ·have:=u q k
    rw[Zo] at this;rcases this with ⟨this,-⟩ | ⟨-,this⟩
    ·exact this
    ·cases this
theorem ZkZ (s:Sto):∀ (ns:List Int) (d:Dk),ns.Pairwise (·≠·)->OkD d->(d.power≠0->∀ m ∈ ns,m ∈ Qk d)->
 ∃ j,j<=ns.length∧(Qv (ns.map fun m=>Xm (fun d=>Qj d m)) (s,d)).1.2.files=d.files∧(Qv (ns.map fun m=>Xm (fun d=>Qj d m)) (s,d)).1.2.kept=d.kept∧
  (Qv (ns.map fun m=>Xm (fun d=>Qj d m)) (s,d)).1.2.waits=d.waits++(ns.take j).map Ch.take∧((Qv (ns.map fun m=>Xm (fun d=>Qj d m)) (s,d)).2=0->j=ns.length)
 | [],d,_,_,_=>⟨0,Nat.le_refl _,rfl,rfl,by simp[Qv],fun _=>rfl⟩
 | n::ns,d,hp,hok,hin=>by
  rw[List.pairwise_cons] at hp;rw[map_cons,Qv];have t:(Xm (fun d=>Qj d n) (s,d)).2=(Qj d n).2:=rfl
  have q:(Xm (fun d=>Qj d n) (s,d)).1=(s,(Qj d n).1):=rfl
  rw[t,q];by_cases a:(Qj d n).2=0
  ·rw[if_pos a]
   obtain⟨j,g,k,l,p,i⟩:=ZkZ s ns (Qj d n).1 hp.2 (hok.remove n) (fun h m c=>ZbA hok (fun e=>hp.1 m c e.symm) (hin (Zfg h) m (List.mem_cons_of_mem _ c)))
   have b:(Qj d n).1.files=d.files∧(Qj d n).1.kept=d.kept∧(Qj d n).1.waits=d.waits++[.take n]:=by
    unfold Qj at a ⊢;split at a
    ·cases a
    ·rename_i g
     rw[if_neg g];split at a
     ·rename_i f u
      exact⟨rfl,rfl,rfl⟩
     ·cases a
   refine⟨j+1,by rw[List.length_cons];omega,k.trans b.1,l.trans b.2.1,?_,fun h=>by rw[List.length_cons,i h]⟩
   rw[p,b.2.2];simp
  ·rw[if_neg a]
   refine⟨0,Nat.zero_le _,?_,?_,?_,fun h=>absurd h a⟩
   ·show(Qj d n).1.files=_
    rw[ZbR a]
   ·show(Qj d n).1.kept=_
    rw[ZbR a]
   ·show(Qj d n).1.waits=_
    rw[ZbR a];simp
theorem Zqy {a:List Pce} (h:a++Gg s=s.log.pcs) (c:∀ p ∈ a,p.stop<=s.base.idx∧p.name≠s.cur):s.log.pcs.filter (Zex s)=a:=by
 rw[<-h,List.filter_append]
 have e:a.filter (Zex s)=a:=by
  rw[List.filter_eq_self];intro p b;unfold Zex;simp[(c p b).1,(c p b).2]
 have d:(Gg s).filter (Zex s)=[]:=by
  rw[List.filter_eq_nil_iff];intro p b;have:=(List.mem_filter.1 b).2;simpa using this
 rw[e,d,List.append_nil]
theorem OnI.retain {d:Dk} (h:OnI kind (s,d) all lo n) (u:X4 (s,d) all n):OnI kind (Z7 (s,d)).1 all lo n∨ZcZ kind (Z7 (s,d)).1 all lo:=by
 have aq:OkS s:=u.ok;have I:OkD d:=u.okd;have G:s.log.pcs.Pairwise (fun p q=>p.name<q.name):=u.nam
 have aC:s.cur≠0->∃ a p,s.log.pcs=a++[p]∧p.name=s.cur:=u.curL;have V:∀ p ∈ s.log.pcs,2<=p.name∧p.name % 2=0:=u.two
 have ax:∀ p ∈ s.log.pcs.dropLast,p.name≠s.cur:=fun p f=>by
  by_cases h0:s.cur=0
  ·have:=(V p ((List.dropLast_sublist _).subset f)).1
   omega
  ·obtain⟨a,q,Z,aE⟩:=aC h0
   rw[Z,List.dropLast_concat] at f;rw[Z,List.pairwise_append] at G;have:=G.2.2 p f q (by simp)
   omega
 obtain⟨⟨a,v,W⟩,-⟩:=Zln s.cur s.base.idx s.log.pcs s.log.first s.log.next aq.log.ch ax u.bas.1;have aD:s.log.pcs.filter (fun p=>!(decide (p.stop<=s.base.idx) && decide (p.name≠s.cur)))=Gg s:=rfl
 rw[aD] at v;have av:=Zqy v W;obtain⟨ns,y⟩:∃ ns,ns=a.map Pce.name:=⟨_,rfl⟩
 have au:ZfC s=ns.map fun m=>Xm (fun d=>Qj d m):=by
  unfold ZfC;rw[av,y,List.map_map];rfl
 have ao:a.Pairwise (fun p q=>p.name<q.name):=by
  rw[<-v,List.pairwise_append] at G;exact G.1
 have U:ns.Pairwise (·≠·):=by
  rw[y,List.pairwise_map];exact ao.imp (fun aF e=>by omega)
 have P:∀ p ∈ a,p ∈ s.log.pcs:=fun p f=>by rw[<-v];exact List.mem_append_left _ f
 have X:d.power≠0->∀ m ∈ ns,m ∈ Qk d:=fun f m t=>by
  rw[y] at t;obtain⟨p,J,rfl⟩:=List.mem_map.1 t;exact u.on f p (P p J)
 obtain⟨i1,i2,i3,i4,i5,i6⟩:=Zjo s ns d U I X
 obtain⟨j,j1,j2,j3,O,Q⟩:=ZkZ s ns d U I X
 -- the directories
 have an:(Xe (Qm d)).map Prod.fst=ns++(Gg s).map Pce.name:=by
  have h5:Xz kind all d.files lo (Xe (Qm d)) s.log.pcs:=h.str.seg;rw[h5.names,<-v,List.map_append,y]
 have ap:∀ m ∈ ns,Zro m=true∧ZtR m=false:=fun m t=>by
  rw[y] at t;obtain⟨p,J,rfl⟩:=List.mem_map.1 t;have h2:=V p (P p J);refine⟨(Zfh _).2 ⟨h2.1,h2.2⟩,?_⟩
  cases ho:ZtR p.name with
  | false=>rfl
  | true=>
   have:=(Zfi _).1 ho;omega
 have az:Xa (Qm d):=I.dir.rise;have aB:ns.length=a.length:=by rw[y,List.length_map]
 have ae:∀ i,i<=ns.length->Xe (Zda (Qm d) (ns.take i))=(Xe (Qm d)).drop i∧Zdn (Zda (Qm d) (ns.take i))=Zdn (Qm d)∧∀ p ∈ Zda (Qm d) (ns.take i),p ∈ Qm d:=fun i H=>by
  have B:=ZoB (ns.take i) (Qm d) (ns.drop i++(Gg s).map Pce.name) az (fun m t=>ap m (List.mem_of_mem_take t)) (by rw[an,<-List.append_assoc,List.take_append_drop])
  rw[List.length_take,Nat.min_eq_left H] at B;exact B
 have aw:∀ i,i<=ns.length->Jl kind all lo d.files (Zda (Qm d) (ns.take i)):=fun i H=>by
  have B:=ae i H;have af:s.log.pcs=a.take i++(a.drop i++Gg s):=by rw[<-List.append_assoc,List.take_append_drop,v]
  refine h.str.goodLeft u (a:=a.take i) (b:=a.drop i++Gg s) af (fun p f=>(W p (List.mem_of_mem_take f)).1) ?_ B.2.1
  rw[List.length_take,Nat.min_eq_left (by omega)]
  exact B.1
 have ay:∀ (d':Dk) (i:Nat),i<=ns.length->d'.files=d.files->d'.kept=d.kept->d'.waits=d.waits++(ns.take i).map Ch.take->∀ k,Jl kind all lo d'.files (Ym d' k):=fun d' i H g1 g2 g3 k=>by
  rw[g1];have e:Ym d' k=((d.waits++(ns.take i).map Ch.take).take k).foldl chD d.kept:=by unfold Ym;rw[g2,g3]
  rw[e];by_cases hk:k<=d.waits.length
  ·rw[List.take_append_of_le_length hk]
   exact h.str.good u lo h.str.lol (.inl zL) zL k
  ·rw[List.take_append,List.take_of_length_le (by omega),List.foldl_append,<-List.map_take,List.take_take]
   exact aw _ (by omega)
 -- the calls
 have Y:Qv (ZfC s++[Qq]) (s,d)=if(Qv (ns.map fun m=>Xm (fun d=>Qj d m)) (s,d)).2=0 then Qv [Qq] (Qv (ns.map fun m=>Xm (fun d=>Qj d m)) (s,d)).1 else Qv (ns.map fun m=>Xm (fun d=>Qj d m)) (s,d):=by
  rw[au];exact ZeY _ _ _
 unfold Z7;rw[Y];clear Y;generalize Qv (ns.map fun m=>Xm (fun d=>Qj d m)) (s,d)=R at i1 i2 i3 i4 i5 i6 j2 j3 O Q
 obtain⟨⟨g,c⟩,c1⟩:=R;have ak:g=s:=i1;subst ak;have S:c.files=d.files:=j2;have ac:c.kept=d.kept:=j3;have T:c.waits=d.waits++(ns.take j).map Ch.take:=O;have ad:c.power=0->ZcZ kind (g,c) all lo:=fun f=>⟨h.str.al,f,ay c j j1 S ac T,h.str.syn,h.cz⟩
 by_cases C:c1=0
 case neg=>
  rw[if_neg C,if_neg C];exact .inr (ad (i5 C))
 rw[if_pos C];have aj:j=ns.length:=Q C;have E:=Zdm Qq (g,c);have F:Qq (g,c)=((if(Qn c).2=0 then { g with nw:=false } else g,(Qn c).1),(Qn c).2):=rfl
 by_cases w:(Qn c).2=0
 case neg=>
  have M:¬ (Qv [Qq] (g,c)).2=0:=by rw[E.2,F];exact w
  rw[if_neg M];rw[E.1,F,if_neg w];obtain⟨k1,k2⟩:=Zed w;right;show ZcZ kind (g,(Qn c).1) all lo;rw[k2];exact ad k1
 have M:(Qv [Qq] (g,c)).2=0:=by rw[E.2,F];exact w
 rw[if_pos M,E.1,F,if_pos w];left;have aA:=ZtJ w
 have z:(Qn c).1={ c with kept:=Qm c,waits:=[],power:=Y5 c.power }:=by
  unfold Qn;rw[if_neg aA]
 obtain⟨l,ab⟩:∃ l,l=(Qn c).1:=⟨_,rfl⟩;rw[<-ab] at z ⊢
 have ah:Qm c=Zda (Qm d) ns:=by
  unfold Qm;rw[ac,T,aj,List.take_length,List.foldl_append];rfl
 have A:Qm l=Zda (Qm d) ns:=by
  rw[z];exact ah
 have K:l.files=d.files:=by rw[z];exact S
 have am:l.waits=[]:=by rw[z]
 clear z ab;have x:=ae ns.length zL;rw[List.take_length] at x;have aa:Gg g=g.log.pcs.drop ns.length:=by rw[<-v,aB,List.drop_left]
 obtain⟨N,ai,ag,ar⟩:=h.str.bas;refine⟨⟨h.str.al,h.str.now,h.str.syn,h.str.lol,?_,fun hc=>?_,⟨N,?_,ag,ar⟩,fun _=>am,fun hh=>by cases hh⟩,fun t=>?_,fun m t=>?_,h.cz⟩
 ·show Xz kind all l.files lo (Xe (Qm l)) (Gg g)
  rw[K,A,x.1,aa];exact Xz.drop _ h.str.seg
 ·show Xz kind all l.files all.length (Xe (Qm l)) (Gg g)
  rw[K,A,x.1,aa];exact Xz.drop _ (h.str.cur0 hc)
 ·show Zjs kind all l.files (Zdn (Qm l)) N
  rw[K,A,x.2.1];exact ai
 ·have D:1 ∈ (Qm l).map Prod.fst:=t
  rw[A] at D;obtain⟨p,f,L⟩:=List.mem_map.1 D;exact h.one (List.mem_map.2 ⟨p,x.2.2 p f,L⟩)
 ·have D:m ∈ (Qm l).map Prod.fst:=t
  rw[A] at D;obtain⟨p,f,L⟩:=List.mem_map.1 D;exact h.nam m (List.mem_map.2 ⟨p,x.2.2 p f,L⟩)
end Go.Proofs.YtnahjngbneicaaaGreatDoor
