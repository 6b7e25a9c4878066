import Derived.Test.YtnahjngbneicaaaGreatDoorStoreStrD
namespace Go.Proofs.YtnahjngbneicaaaGreatDoor
open _root_.Go.Proofs.Tryz
open List (map_cons)
set_option maxRecDepth 100000
variable {kind:Int} {all:List Rec} {fs:List Fl} {lo n:Nat} {s:Sto}
theorem Xz.names:∀ {E:Dir} {P:List Pce},Xz kind all fs lo E P->E.map Prod.fst=P.map Pce.name
 | [],[],_=>rfl
 | p::E,c::P,⟨h1,_,_,h4⟩=>by rw[map_cons,map_cons,h1,Xz.names h4]
 | [],_::_,h=>h.elim
 | _::_,[],h=>h.elim
theorem Xz.drop:∀ (i:Nat) {E:Dir} {P:List Pce},Xz kind all fs lo E P->Xz kind all fs lo (E.drop i) (P.drop i)
 | 0,_,_,h=>h
 | _+1,[],[],_=>trivial
 | i+1,_::_,_::_,⟨_,_,_,h4⟩=>Xz.drop i h4
 | _+1,[],_::_,h=>h.elim
 | _+1,_::_,[],h=>h.elim
theorem Zfk.goodLeft {x:SDk} (h:Zfk kind x all lo) (g:X4 x all n) {a b:List Pce} (I:x.1.log.pcs=a++b) (u:∀ p ∈ a,p.stop<=x.1.base.idx) {i:Dir} (D:Xe i=(Xe (Qm x.2)).drop a.length) (B:Zdn i=Zdn (Qm x.2)):Jl kind all lo x.2.files i:=by
 obtain⟨q,A,E,C⟩:=h.bas;have y:=g.ok.log;have M:=y.f0;have G:x.1.log.next=all.length:=g.len;have v:=y.ch;have l:=g.bas;rw[E] at l u;have f:=h.seg.drop a.length;rw[I] at v f;rw[List.drop_left] at f;obtain⟨m,d,c⟩:=Y1.1 v;have L:=Zai d;have N:=Zai c
 have K:m<=((q.getLastD 0:Nat):Int):=by
  by_cases t:a.length=0
  ·rw[List.eq_nil_of_length_eq_zero t] at d
   have:x.1.log.first=m:=d;have:=l.1;omega
  ·obtain⟨a',p,rfl⟩:=ZdM t
   obtain⟨k,_,_,_,F⟩:=Y1.1 d;have J:p.stop=m:=F;have:=u p (by simp)
   omega
 have w:=f.toC c (by omega)
 have j:=h.lol;unfold Jl;rw[D,B];refine⟨m.toNat,all.length,q,?_,Nat.le_refl _,A,C,j,fun z=>?_,fun z=>⟨by omega,j⟩⟩
 ·rw[G,Int.toNat_natCast] at w
  exact w
 ·have H:=(f.nil_iff).1 z
  rw[H] at c;have e:m=x.1.log.next:=c;omega
def Zda (l:Dir) (ms:List Int):Dir:=(ms.map Ch.take).foldl chD l
theorem ZoB:∀ (a:List Int) (l:Dir) (t:List Int),Xa l->(∀ m ∈ a,Zro m=true∧ZtR m=false)->(Xe l).map Prod.fst=a++t->Xe (Zda l a)=(Xe l).drop a.length∧Zdn (Zda l a)=Zdn l∧(∀ p ∈ Zda l a,p ∈ l)
 | [],_,_,_,_,_=>⟨rfl,rfl,fun _ h=>h⟩
 | m::a,l,t,hr,hm,he=>by
  have v:=hm m List.mem_cons_self;have n:Zda l (m::a)=Zda (Yt l m none) a:=rfl;have f:Xa (Yt l m none):=Yo hr _ _
  cases hE:Xe l with
  | nil=>
   rw[hE] at he
   cases he
  | cons p E=>
   rw[hE,map_cons,List.cons_append] at he;have w:p.1=m:=List.head_eq_of_cons_eq he;have k:Xa (Xe l):=Y9 hr _
   have b:Xe (Yt l m none)=E:=by
    have d:Xe (Yt l m none)=(Xe l).filter (fun p=>decide (p.1≠m)):=ZtG hr Zro m
    rw[d,<-w];exact Zwq k hE
   have u:Zdn (Yt l m none)=Zdn l:=Jt hr ZtR v.2 _
   have i:(Xe (Yt l m none)).map Prod.fst=a++t:=by
    rw[b];exact List.tail_eq_of_cons_eq he
   obtain⟨j,e,c⟩:=ZoB a (Yt l m none) t f (fun x y=>hm x (List.mem_cons_of_mem _ y)) i
   rw[n];refine⟨?_,e.trans u,fun q g=>?_⟩
   ·rw[j,b]
    rfl
   ·have:=c q g
    rw[Zo] at this;rcases this with ⟨this,-⟩ | ⟨-,this⟩
    ·exact this
    ·cases this
theorem ZkZ (s:Sto):∀ (ns:List Int) (d:Dk),ns.Pairwise (·≠·)->OkD d->(d.power≠0->∀ m ∈ ns,m ∈ Qk d)->
 ∃ j,j<=ns.length∧(Qv (ns.map fun m=>Xm (fun d=>Qj d m)) (s,d)).1.2.files=d.files∧(Qv (ns.map fun m=>Xm (fun d=>Qj d m)) (s,d)).1.2.kept=d.kept∧
  (Qv (ns.map fun m=>Xm (fun d=>Qj d m)) (s,d)).1.2.waits=d.waits++(ns.take j).map Ch.take∧((Qv (ns.map fun m=>Xm (fun d=>Qj d m)) (s,d)).2=0->j=ns.length)
 | [],d,_,_,_=>⟨0,Nat.le_refl _,rfl,rfl,by simp[Qv],fun _=>rfl⟩
 | n::ns,d,hp,hok,hin=>by
  rw[List.pairwise_cons] at hp;rw[map_cons,Qv];have q:(Xm (fun d=>Qj d n) (s,d)).2=(Qj d n).2:=rfl
  have k:(Xm (fun d=>Qj d n) (s,d)).1=(s,(Qj d n).1):=rfl
  rw[q,k];by_cases a:(Qj d n).2=0
  ·rw[if_pos a]
   obtain⟨j,g,l,p,i,t⟩:=ZkZ s ns (Qj d n).1 hp.2 (hok.remove n) (fun h m c=>ZbA hok (fun e=>hp.1 m c e.symm) (hin (Zfg h) m (List.mem_cons_of_mem _ c)))
   have b:(Qj d n).1.files=d.files∧(Qj d n).1.kept=d.kept∧(Qj d n).1.waits=d.waits++[.take n]:=by
    unfold Qj at a ⊢;split at a
    ·cases a
    ·rename_i g
     rw[if_neg g];split at a
     ·rename_i f u
      exact⟨rfl,rfl,rfl⟩
     ·cases a
   refine⟨j+1,by rw[List.length_cons];omega,l.trans b.1,p.trans b.2.1,?_,fun h=>by rw[List.length_cons,t h]⟩
   rw[i,b.2.2];simp
  ·rw[if_neg a]
   refine⟨0,Nat.zero_le _,?_,?_,?_,fun h=>absurd h a⟩
   ·show(Qj d n).1.files=_
    rw[ZbR a]
   ·show(Qj d n).1.kept=_
    rw[ZbR a]
   ·show(Qj d n).1.waits=_
    rw[ZbR a];simp
theorem Zqy {a:List Pce} (h:a++Gg s=s.log.pcs) (c:∀ p ∈ a,p.stop<=s.base.idx∧p.name≠s.cur):s.log.pcs.filter (Zex s)=a:=by
 rw[<-h,List.filter_append]
 have e:a.filter (Zex s)=a:=by
  rw[List.filter_eq_self];intro p b;unfold Zex;simp[(c p b).1,(c p b).2]
 have d:(Gg s).filter (Zex s)=[]:=by
  rw[List.filter_eq_nil_iff];intro p b;have:=(List.mem_filter.1 b).2;simpa using this
 rw[e,d,List.append_nil]
theorem OnI.retain {d:Dk} (h:OnI kind (s,d) all lo n) (u:X4 (s,d) all n):OnI kind (Z7 (s,d)).1 all lo n∨ZcZ kind (Z7 (s,d)).1 all lo:=by
 have ar:OkS s:=u.ok;have J:OkD d:=u.okd;have F:s.log.pcs.Pairwise (fun p q=>p.name<q.name):=u.nam
 have ao:s.cur≠0->∃ a p,s.log.pcs=a++[p]∧p.name=s.cur:=u.curL;have O:∀ p ∈ s.log.pcs,2<=p.name∧p.name % 2=0:=u.two
 have az:∀ p ∈ s.log.pcs.dropLast,p.name≠s.cur:=fun p f=>by
  by_cases h0:s.cur=0
  ·have:=(O p ((List.dropLast_sublist _).subset f)).1
   omega
  ·obtain⟨a,q,Q,aG⟩:=ao h0
   rw[Q,List.dropLast_concat] at f;rw[Q,List.pairwise_append] at F;have:=F.2.2 p f q (by simp)
   omega
 obtain⟨⟨a,v,N⟩,-⟩:=Zln s.cur s.base.idx s.log.pcs s.log.first s.log.next ar.log.ch az u.bas.1;have av:s.log.pcs.filter (fun p=>!(decide (p.stop<=s.base.idx) && decide (p.name≠s.cur)))=Gg s:=rfl
 rw[av] at v;have aC:=Zqy v N;obtain⟨ns,y⟩:∃ ns,ns=a.map Pce.name:=⟨_,rfl⟩
 have an:ZfC s=ns.map fun m=>Xm (fun d=>Qj d m):=by
  unfold ZfC;rw[aC,y,List.map_map];rfl
 have ap:a.Pairwise (fun p q=>p.name<q.name):=by
  rw[<-v,List.pairwise_append] at F;exact F.1
 have V:ns.Pairwise (·≠·):=by
  rw[y,List.pairwise_map];exact ap.imp (fun aH e=>by omega)
 have Y:∀ p ∈ a,p ∈ s.log.pcs:=fun p f=>by rw[<-v];exact List.mem_append_left _ f
 have P:d.power≠0->∀ m ∈ ns,m ∈ Qk d:=fun f m t=>by
  rw[y] at t;obtain⟨p,L,rfl⟩:=List.mem_map.1 t;exact u.on f p (Y p L)
 obtain⟨i1,i2,i3,i4,i5,i6⟩:=Zjo s ns d V J P
 obtain⟨j,j1,T,j3,j4,W⟩:=ZkZ s ns d V J P
 -- the directories
 have ax:(Xe (Qm d)).map Prod.fst=ns++(Gg s).map Pce.name:=by
  have h5:Xz kind all d.files lo (Xe (Qm d)) s.log.pcs:=h.str.seg;rw[h5.names,<-v,List.map_append,y]
 have ak:∀ m ∈ ns,Zro m=true∧ZtR m=false:=fun m t=>by
  rw[y] at t;obtain⟨p,L,rfl⟩:=List.mem_map.1 t;have X:=O p (Y p L);refine⟨(Zfh _).2 ⟨X.1,X.2⟩,?_⟩
  cases ho:ZtR p.name with
  | false=>rfl
  | true=>
   have:=(Zfi _).1 ho;omega
 have ai:Xa (Qm d):=J.dir.rise;have aq:ns.length=a.length:=by rw[y,List.length_map]
 have S:∀ i,i<=ns.length->Xe (Zda (Qm d) (ns.take i))=(Xe (Qm d)).drop i∧Zdn (Zda (Qm d) (ns.take i))=Zdn (Qm d)∧∀ p ∈ Zda (Qm d) (ns.take i),p ∈ Qm d:=fun i E=>by
  have C:=ZoB (ns.take i) (Qm d) (ns.drop i++(Gg s).map Pce.name) ai (fun m t=>ak m (List.mem_of_mem_take t)) (by rw[ax,<-List.append_assoc,List.take_append_drop])
  rw[List.length_take,Nat.min_eq_left E] at C;exact C
 have ag:∀ i,i<=ns.length->Jl kind all lo d.files (Zda (Qm d) (ns.take i)):=fun i E=>by
  have C:=S i E;have am:s.log.pcs=a.take i++(a.drop i++Gg s):=by rw[<-List.append_assoc,List.take_append_drop,v]
  refine h.str.goodLeft u (a:=a.take i) (b:=a.drop i++Gg s) am (fun p f=>(N p (List.mem_of_mem_take f)).1) ?_ C.2.1
  rw[List.length_take,Nat.min_eq_left (by omega)]
  exact C.1
 have aw:∀ (d':Dk) (i:Nat),i<=ns.length->d'.files=d.files->d'.kept=d.kept->d'.waits=d.waits++(ns.take i).map Ch.take->∀ k,Jl kind all lo d'.files (Ym d' k):=fun d' i E g1 g2 g3 k=>by
  rw[g1];have e:Ym d' k=((d.waits++(ns.take i).map Ch.take).take k).foldl chD d.kept:=by unfold Ym;rw[g2,g3]
  rw[e];by_cases hk:k<=d.waits.length
  ·rw[List.take_append_of_le_length hk]
   exact h.str.good u lo h.str.lol (.inl zL) zL k
  ·rw[List.take_append,List.take_of_length_le (by omega),List.foldl_append,<-List.map_take,List.take_take]
   exact ag _ (by omega)
 -- the calls
 have af:Qv (ZfC s++[Qq]) (s,d)=if(Qv (ns.map fun m=>Xm (fun d=>Qj d m)) (s,d)).2=0 then Qv [Qq] (Qv (ns.map fun m=>Xm (fun d=>Qj d m)) (s,d)).1 else Qv (ns.map fun m=>Xm (fun d=>Qj d m)) (s,d):=by
  rw[an];exact ZeY _ _ _
 unfold Z7;rw[af];clear af;generalize Qv (ns.map fun m=>Xm (fun d=>Qj d m)) (s,d)=R at i1 i2 i3 i4 i5 i6 T j3 j4 W
 obtain⟨⟨l,c⟩,c1⟩:=R;have aE:l=s:=i1;subst aE;have ae:c.files=d.files:=T;have ad:c.kept=d.kept:=j3;have ac:c.waits=d.waits++(ns.take j).map Ch.take:=j4;have aa:c.power=0->ZcZ kind (l,c) all lo:=fun f=>⟨h.str.al,f,aw c j j1 ae ad ac,h.str.syn,h.cz⟩
 by_cases B:c1=0
 case neg=>
  rw[if_neg B,if_neg B];exact .inr (aa (i5 B))
 rw[if_pos B];have aB:j=ns.length:=W B;have H:=Zdm Qq (l,c);have G:Qq (l,c)=((if(Qn c).2=0 then { l with nw:=false } else l,(Qn c).1),(Qn c).2):=rfl
 by_cases w:(Qn c).2=0
 case neg=>
  have K:¬ (Qv [Qq] (l,c)).2=0:=by rw[H.2,G];exact w
  rw[if_neg K];rw[H.1,G,if_neg w];obtain⟨k1,k2⟩:=Zed w;right;show ZcZ kind (l,(Qn c).1) all lo;rw[k2];exact aa k1
 have K:(Qv [Qq] (l,c)).2=0:=by rw[H.2,G];exact w
 rw[if_pos K,H.1,G,if_pos w];left;have aA:=ZtJ w
 have z:(Qn c).1={ c with kept:=Qm c,waits:=[],power:=Y5 c.power }:=by
  unfold Qn;rw[if_neg aA]
 obtain⟨g,Z⟩:∃ g,g=(Qn c).1:=⟨_,rfl⟩;rw[<-Z] at z ⊢
 have aj:Qm c=Zda (Qm d) ns:=by
  unfold Qm;rw[ad,ac,aB,List.take_length,List.foldl_append];rfl
 have A:Qm g=Zda (Qm d) ns:=by
  rw[z];exact aj
 have M:g.files=d.files:=by rw[z];exact ae
 have au:g.waits=[]:=by rw[z]
 clear z Z;have x:=S ns.length zL;rw[List.take_length] at x;have ab:Gg l=l.log.pcs.drop ns.length:=by rw[<-v,aq,List.drop_left]
 obtain⟨U,aF,ay,aD⟩:=h.str.bas;refine⟨⟨h.str.al,h.str.now,h.str.syn,h.str.lol,?_,fun hc=>?_,⟨U,?_,ay,aD⟩,fun _=>au,fun hh=>by cases hh⟩,fun t=>?_,fun m t=>?_,h.cz⟩
 ·show Xz kind all g.files lo (Xe (Qm g)) (Gg l)
  rw[M,A,x.1,ab];exact Xz.drop _ h.str.seg
 ·show Xz kind all g.files all.length (Xe (Qm g)) (Gg l)
  rw[M,A,x.1,ab];exact Xz.drop _ (h.str.cur0 hc)
 ·show Zjs kind all g.files (Zdn (Qm g)) U
  rw[M,A,x.2.1];exact aF
 ·have D:1 ∈ (Qm g).map Prod.fst:=t
  rw[A] at D;obtain⟨p,f,I⟩:=List.mem_map.1 D;exact h.one (List.mem_map.2 ⟨p,x.2.2 p f,I⟩)
 ·have D:m ∈ (Qm g).map Prod.fst:=t
  rw[A] at D;obtain⟨p,f,I⟩:=List.mem_map.1 D;exact h.nam m (List.mem_map.2 ⟨p,x.2.2 p f,I⟩)
end Go.Proofs.YtnahjngbneicaaaGreatDoor
