import Derived.Test.YtnahjngbneicaaaGreatDoorStoreStrD
namespace Go.Proofs.YtnahjngbneicaaaGreatDoor
open _root_.Go.Proofs.Tryz
open List (map_cons)
set_option maxRecDepth 100000
variable {kind:Int} {all:List Rec} {fs:List Fl} {lo n:Nat} {s:Sto}
theorem Xz.names:∀ {E:Dir} {P:List Pce},Xz kind all fs lo E P->E.map Prod.fst=P.map Pce.name
 | [],[],_=>rfl
 | p::E,c::P,⟨h1,_,_,h4⟩=>by rw[map_cons,map_cons,h1,Xz.names h4]
 | [],_::_,h=>h.elim
 | _::_,[],h=>h.elim
theorem Xz.drop:∀ (i:Nat) {E:Dir} {P:List Pce},Xz kind all fs lo E P->Xz kind all fs lo (E.drop i) (P.drop i)
 | 0,_,_,h=>h
 | _+1,[],[],_=>trivial
 | i+1,_::_,_::_,⟨_,_,_,h4⟩=>Xz.drop i h4
 | _+1,[],_::_,h=>h.elim
 | _+1,_::_,[],h=>h.elim
theorem Zfk.goodLeft {x:SDk} (h:Zfk kind x all lo) (g:X4 x all n) {a b:List Pce} (I:x.1.log.pcs=a++b) (y:∀ p ∈ a,p.stop<=x.1.base.idx) {i:Dir} (B:Xe i=(Xe (Qm x.2)).drop a.length) (G:Zdn i=Zdn (Qm x.2)):Jl kind all lo x.2.files i:=by
 obtain⟨z,H,C,E⟩:=h.bas;have q:=g.ok.log;have N:=q.f0;have F:x.1.log.next=all.length:=g.len;have v:=q.ch;have l:=g.bas;rw[C] at l y;have c:=h.seg.drop a.length;rw[I] at v c;rw[zgx] at c;obtain⟨m,f,d⟩:=Y1.1 v;have L:=Zai f;have K:=Zai d
 have J:m<=((z.getLastD 0:Nat):Int):=by
  by_cases t:a.length=0
  ·rw[zaj t] at f
   have:x.1.log.first=m:=f;have:=l.1;omega
  ·obtain⟨a',p,rfl⟩:=ZdM t
   obtain⟨k,_,_,_,D⟩:=Y1.1 f;have M:p.stop=m:=D;have:=y p (by simp)
   omega
 have w:=c.toC d (by omega)
 have j:=h.lol;unfold Jl;rw[B,G];refine⟨m.toNat,all.length,z,?_,zat _,H,E,j,fun u=>?_,fun u=>⟨by omega,j⟩⟩
 ·rw[F,za9] at w
  exact w
 ·have A:=(c.nil_iff).1 u
  rw[A] at d;have e:m=x.1.log.next:=d;omega
def Zda (l:Dir) (ms:List Int):Dir:=(ms.map Ch.take).foldl chD l
theorem ZoB:∀ (a:List Int) (l:Dir) (t:List Int),Xa l->(∀ m ∈ a,Zro m=true∧ZtR m=false)->(Xe l).map Prod.fst=a++t->Xe (Zda l a)=(Xe l).drop a.length∧Zdn (Zda l a)=Zdn l∧(∀ p ∈ Zda l a,p ∈ l)
 | [],_,_,_,_,_=>⟨rfl,rfl,fun _ h=>h⟩
 | m::a,l,t,hr,hm,he=>by
  have v:=hm m zbi;have f:Zda l (m::a)=Zda (Yt l m none) a:=rfl;have c:Xa (Yt l m none):=Yo hr _ _
  cases hE:Xe l with
  | nil=>
   rw[hE] at he
   cases he
  | cons p E=>
   rw[hE,map_cons,zck] at he;have k:p.1=m:=zff he;have e:Xa (Xe l):=Y9 hr _
   have b:Xe (Yt l m none)=E:=by
    have d:Xe (Yt l m none)=(Xe l).filter (fun p=>decide (p.1≠m)):=ZtG hr Zro m
    rw[d,<-k];exact Zwq e hE
   have w:Zdn (Yt l m none)=Zdn l:=Jt hr ZtR v.2 _
   have n:(Xe (Yt l m none)).map Prod.fst=a++t:=by
    rw[b];exact List.tail_eq_of_cons_eq he
   obtain⟨g,i,j⟩:=ZoB a (Yt l m none) t c (fun x u=>hm x (za4 _ u)) n
   rw[f];refine⟨?_,i.trans w,fun q y=>?_⟩
   ·rw[g,b]
    rfl
   ·have:=j q y
    rw[Zo] at this;rcases this with ⟨this,-⟩ | ⟨-,this⟩
    ·exact this
    ·cases this
theorem ZkZ (s:Sto):∀ (ns:List Int) (d:Dk),ns.Pairwise (·≠·)->OkD d->(d.power≠0->∀ m ∈ ns,m ∈ Qk d)->
 ∃ j,j<=ns.length∧(Qv (ns.map fun m=>Xm (fun d=>Qj d m)) (s,d)).1.2.files=d.files∧(Qv (ns.map fun m=>Xm (fun d=>Qj d m)) (s,d)).1.2.kept=d.kept∧
  (Qv (ns.map fun m=>Xm (fun d=>Qj d m)) (s,d)).1.2.waits=d.waits++(ns.take j).map Ch.take∧((Qv (ns.map fun m=>Xm (fun d=>Qj d m)) (s,d)).2=0->j=ns.length)
 | [],d,_,_,_=>⟨0,zat _,rfl,rfl,by simp[Qv],fun _=>rfl⟩
 | n::ns,d,hp,hok,hin=>by
  rw[zb6] at hp;rw[map_cons,Qv];have k:(Xm (fun d=>Qj d n) (s,d)).2=(Qj d n).2:=rfl
  have t:(Xm (fun d=>Qj d n) (s,d)).1=(s,(Qj d n).1):=rfl
  rw[k,t];by_cases a:(Qj d n).2=0
  ·rw[zab a]
   obtain⟨j,c,p,i,q,l⟩:=ZkZ s ns (Qj d n).1 hp.2 (hok.remove n) (fun h m g=>ZbA hok (fun e=>hp.1 m g e.symm) (hin (Zfg h) m (za4 _ g)))
   have b:(Qj d n).1.files=d.files∧(Qj d n).1.kept=d.kept∧(Qj d n).1.waits=d.waits++[.take n]:=by
    unfold Qj at a ⊢;split at a
    ·cases a
    ·rename_i c
     rw[zaa c];split at a
     ·rename_i f u
      exact⟨rfl,rfl,rfl⟩
     ·cases a
   refine⟨j+1,by rw[zb9];omega,p.trans b.1,i.trans b.2.1,?_,fun h=>by rw[zb9,l h]⟩
   rw[q,b.2.2];simp
  ·rw[zaa a]
   refine⟨0,zai _,?_,?_,?_,fun h=>absurd h a⟩
   ·show(Qj d n).1.files=_
    rw[ZbR a]
   ·show(Qj d n).1.kept=_
    rw[ZbR a]
   ·show(Qj d n).1.waits=_
    rw[ZbR a];simp
theorem Zqy {a:List Pce} (h:a++Gg s=s.log.pcs) (c:∀ p ∈ a,p.stop<=s.base.idx∧p.name≠s.cur):s.log.pcs.filter (Zex s)=a:=by
 rw[<-h,zeo]
 have e:a.filter (Zex s)=a:=by
  rw[zdz];intro p b;unfold Zex;simp[(c p b).1,(c p b).2]
 have d:(Gg s).filter (Zex s)=[]:=by
  rw[List.filter_eq_nil_iff];intro p b;have:=(zax.1 b).2;simpa using this
 rw[e,d,zcx]
theorem OnI.retain {d:Dk} (h:OnI kind (s,d) all lo n) (u:X4 (s,d) all n):OnI kind (Z7 (s,d)).1 all lo n∨ZcZ kind (Z7 (s,d)).1 all lo:=by
 have ak:OkS s:=u.ok;have L:OkD d:=u.okd;have H:s.log.pcs.Pairwise (fun p q=>p.name<q.name):=u.nam
 have aE:s.cur≠0->∃ a p,s.log.pcs=a++[p]∧p.name=s.cur:=u.curL;have af:∀ p ∈ s.log.pcs,2<=p.name∧p.name % 2=0:=u.two
 have az:∀ p ∈ s.log.pcs.dropLast,p.name≠s.cur:=fun p f=>by
  by_cases h0:s.cur=0
  ·have:=(af p ((zfr _).subset f)).1
   omega
  ·obtain⟨a,q,N,aI⟩:=aE h0
   rw[N,zfy] at f;rw[N,zc2] at H;have:=H.2.2 p f q (by simp)
   omega
 obtain⟨⟨a,v,ac⟩,-⟩:=Zln s.cur s.base.idx s.log.pcs s.log.first s.log.next ak.log.ch az u.bas.1;have ar:s.log.pcs.filter (fun p=>!(decide (p.stop<=s.base.idx) && decide (p.name≠s.cur)))=Gg s:=rfl
 rw[ar] at v;have aC:=Zqy v ac;obtain⟨ns,w⟩:=zgy (a.map Pce.name)
 have aG:ZfC s=ns.map fun m=>Xm (fun d=>Qj d m):=by
  unfold ZfC;rw[aC,w,List.map_map];rfl
 have aA:a.Pairwise (fun p q=>p.name<q.name):=by
  rw[<-v,zc2] at H;exact H.1
 have X:ns.Pairwise (·≠·):=by
  rw[w,zea];exact aA.imp (fun aH e=>by omega)
 have Q:∀ p ∈ a,p ∈ s.log.pcs:=fun p f=>by rw[<-v];exact List.mem_append_left _ f
 have ag:d.power≠0->∀ m ∈ ns,m ∈ Qk d:=fun f m t=>by
  rw[w] at t;obtain⟨p,I,rfl⟩:=zbd.1 t;exact u.on f p (Q p I)
 obtain⟨U,i2,i3,i4,i5,i6⟩:=Zjo s ns d X L ag
 obtain⟨j,j1,Z,O,j4,Y⟩:=ZkZ s ns d X L ag
 -- the directories
 have aq:(Xe (Qm d)).map Prod.fst=ns++(Gg s).map Pce.name:=by
  have h5:Xz kind all d.files lo (Xe (Qm d)) s.log.pcs:=h.str.seg;rw[h5.names,<-v,zc0,w]
 have au:∀ m ∈ ns,Zro m=true∧ZtR m=false:=fun m t=>by
  rw[w] at t;obtain⟨p,I,rfl⟩:=zbd.1 t;have W:=af p (Q p I);refine⟨(Zfh _).2 ⟨W.1,W.2⟩,?_⟩
  cases ho:ZtR p.name with
  | false=>rfl
  | true=>
   have:=(Zfi _).1 ho;omega
 have av:Xa (Qm d):=L.dir.rise;have ay:ns.length=a.length:=by rw[w,zcz]
 have P:∀ i,i<=ns.length->Xe (Zda (Qm d) (ns.take i))=(Xe (Qm d)).drop i∧Zdn (Zda (Qm d) (ns.take i))=Zdn (Qm d)∧∀ p ∈ Zda (Qm d) (ns.take i),p ∈ Qm d:=fun i G=>by
  have A:=ZoB (ns.take i) (Qm d) (ns.drop i++(Gg s).map Pce.name) av (fun m t=>au m (zbq t)) (by rw[aq,<-zcn,zbz])
  rw[zbt,zcp G] at A;exact A
 have ai:∀ i,i<=ns.length->Jl kind all lo d.files (Zda (Qm d) (ns.take i)):=fun i G=>by
  have A:=P i G;have an:s.log.pcs=a.take i++(a.drop i++Gg s):=by rw[<-zcn,zbz,v]
  refine h.str.goodLeft u (a:=a.take i) (b:=a.drop i++Gg s) an (fun p f=>(ac p (zbq f)).1) ?_ A.2.1
  rw[zbt,zcp (by omega)]
  exact A.1
 have ax:∀ (d':Dk) (i:Nat),i<=ns.length->d'.files=d.files->d'.kept=d.kept->d'.waits=d.waits++(ns.take i).map Ch.take->∀ k,Jl kind all lo d'.files (Ym d' k):=fun d' i G g1 g2 g3 k=>by
  rw[g1];have e:Ym d' k=((d.waits++(ns.take i).map Ch.take).take k).foldl chD d.kept:=by unfold Ym;rw[g2,g3]
  rw[e];by_cases hk:k<=d.waits.length
  ·rw[zb8 hk]
   exact h.str.good u lo h.str.lol (.inl zL) zL k
  ·rw[zfo,zbc (by omega),zdf,<-zgd,zfc]
   exact ai _ (by omega)
 -- the calls
 have T:Qv (ZfC s++[Qq]) (s,d)=if(Qv (ns.map fun m=>Xm (fun d=>Qj d m)) (s,d)).2=0 then Qv [Qq] (Qv (ns.map fun m=>Xm (fun d=>Qj d m)) (s,d)).1 else Qv (ns.map fun m=>Xm (fun d=>Qj d m)) (s,d):=by
  rw[aG];exact ZeY _ _ _
 unfold Z7;rw[T];clear T;generalize Qv (ns.map fun m=>Xm (fun d=>Qj d m)) (s,d)=R at U i2 i3 i4 i5 i6 Z O j4 Y
 obtain⟨⟨l,c⟩,c1⟩:=R;have aj:l=s:=U;subst aj;have aa:c.files=d.files:=Z;have V:c.kept=d.kept:=O;have ad:c.waits=d.waits++(ns.take j).map Ch.take:=j4;have S:c.power=0->ZcZ kind (l,c) all lo:=fun f=>⟨h.str.al,f,ax c j j1 aa V ad,h.str.syn,h.cz⟩
 by_cases B:c1=0
 case neg=>
  rw[zaa B,zaa B];exact .inr (S (i5 B))
 rw[zab B];have aw:j=ns.length:=Y B;have E:=Zdm Qq (l,c);have F:Qq (l,c)=((if(Qn c).2=0 then { l with nw:=false } else l,(Qn c).1),(Qn c).2):=rfl
 by_cases y:(Qn c).2=0
 case neg=>
  have J:¬ (Qv [Qq] (l,c)).2=0:=by rw[E.2,F];exact y
  rw[zaa J];rw[E.1,F,zaa y];obtain⟨k1,k2⟩:=Zed y;right;show ZcZ kind (l,(Qn c).1) all lo;rw[k2];exact S k1
 have J:(Qv [Qq] (l,c)).2=0:=by rw[E.2,F];exact y
 rw[zab J,E.1,F,zab y];left;have aD:=ZtJ y
 have z:(Qn c).1={ c with kept:=Qm c,waits:=[],power:=Y5 c.power }:=by
  unfold Qn;rw[zaa aD]
 obtain⟨g,ae⟩:=zgy ((Qn c).1);rw[<-ae] at z ⊢
 have ao:Qm c=Zda (Qm d) ns:=by
  unfold Qm;rw[V,ad,aw,zb1,zdf];rfl
 have C:Qm g=Zda (Qm d) ns:=by
  rw[z];exact ao
 have K:g.files=d.files:=by rw[z];exact aa
 have am:g.waits=[]:=by rw[z]
 clear z ae;have x:=P ns.length zL;rw[zb1] at x;have ab:Gg l=l.log.pcs.drop ns.length:=by rw[<-v,ay,zgx]
 obtain⟨js,aF,aB,ap⟩:=h.str.bas;refine⟨⟨h.str.al,h.str.now,h.str.syn,h.str.lol,?_,fun hc=>?_,⟨js,?_,aB,ap⟩,fun _=>am,fun hh=>by cases hh⟩,fun t=>?_,fun m t=>?_,h.cz⟩
 ·show Xz kind all g.files lo (Xe (Qm g)) (Gg l)
  rw[K,C,x.1,ab];exact Xz.drop _ h.str.seg
 ·show Xz kind all g.files all.length (Xe (Qm g)) (Gg l)
  rw[K,C,x.1,ab];exact Xz.drop _ (h.str.cur0 hc)
 ·show Zjs kind all g.files (Zdn (Qm g)) js
  rw[K,C,x.2.1];exact aF
 ·have D:1 ∈ (Qm g).map Prod.fst:=t
  rw[C] at D;obtain⟨p,f,M⟩:=zbd.1 D;exact h.one (zbd.2 ⟨p,x.2.2 p f,M⟩)
 ·have D:m ∈ (Qm g).map Prod.fst:=t
  rw[C] at D;obtain⟨p,f,M⟩:=zbd.1 D;exact h.nam m (zbd.2 ⟨p,x.2.2 p f,M⟩)
end Go.Proofs.YtnahjngbneicaaaGreatDoor
