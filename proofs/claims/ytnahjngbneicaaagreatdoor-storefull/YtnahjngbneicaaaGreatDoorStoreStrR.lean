import Derived.Test.YtnahjngbneicaaaGreatDoorStoreStrD
namespace Go.Proofs.YtnahjngbneicaaaGreatDoor
set_option linter.unusedSimpArgs false
open _root_.Go.Proofs.Tryz
open List (map_cons)
set_option maxRecDepth 100000
variable {kind:Int} {all:List Rec} {fs:List Fl} {lo n:Nat} {s:Sto}
theorem X4.names:∀ {E:Dir} {P:List Pce},X4 kind all fs lo E P->E.map Prod.fst=P.map Pce.name
 | [],[],_=>rfl
 | p::E,c::P,⟨h1,_,_,h4⟩=>by rw[map_cons,map_cons,h1,X4.names h4]
 | [],_::_,h=>h.elim
 | _::_,[],h=>h.elim
theorem X4.drop:∀ (i:Nat) {E:Dir} {P:List Pce},X4 kind all fs lo E P->X4 kind all fs lo (E.drop i) (P.drop i)
 | 0,_,_,h=>h
 | _+1,[],[],_=>trivial
 | i+1,_::_,_::_,⟨_,_,_,h4⟩=>X4.drop i h4
 | _+1,[],_::_,h=>h.elim
 | _+1,_::_,[],h=>h.elim
theorem Zen.goodLeft {x:SDk} (h:Zen kind x all lo) (i:X0 x all n) {a b:List Pce} (H:x.1.log.pcs=a++b) (w:∀ p ∈ a,p.stop<=x.1.base.idx) {g:Dir} (D:Xg g=(Xg (Qm x.2)).drop a.length) (C:Dj g=Dj (Qm x.2)):Jo kind all lo x.2.files g:=by
 obtain⟨q,F,A,E⟩:=h.bas;have u:=i.ok.log;have M:=u.f0;have I:x.1.log.next=all.length:=i.len;have z:=u.ch;have v:=i.bas;rw[A] at v w;have c:=h.seg.drop a.length;rw[H] at z c;rw[zg6] at c;obtain⟨m,f,d⟩:=Y5.1 z;have J:=Zai f;have N:=Zai d
 have L:m<=((q.getLastD 0:Nat):Int):=by
  by_cases y:a.length=0
  ·rw[zao y] at f
   have:x.1.log.first=m:=f;have:=v.1;omega
  ·obtain⟨a',p,rfl⟩:=ZdW y
   obtain⟨k,_,_,_,B⟩:=Y5.1 f;have K:p.stop=m:=B;have:=w p (by simp)
   omega
 have j:=c.toC d (by omega)
 have t:=h.lol;unfold Jo;rw[D,C];refine⟨m.toNat,all.length,q,?_,za0 _,F,E,t,fun l=>?_,fun l=>⟨by omega,t⟩⟩
 ·rw[I,zbj] at j
  exact j
 ·have G:=(c.nil_iff).1 l
  rw[G] at d;have e:m=x.1.log.next:=d;omega
def Zda (l:Dir) (ms:List Int):Dir:=(ms.map Ch.take).foldl chD l
theorem ZoQ:∀ (a:List Int) (l:Dir) (t:List Int),Xb l->(∀ m ∈ a,ZrE m=true∧Zul m=false)->(Xg l).map Prod.fst=a++t->Xg (Zda l a)=(Xg l).drop a.length∧Dj (Zda l a)=Dj l∧(∀ p ∈ Zda l a,p ∈ l)
 | [],_,_,_,_,_=>⟨rfl,rfl,fun _ h=>h⟩
 | m::a,l,t,hr,hm,he=>by
  have g:=hm m zbp;have k:Zda l (m::a)=Zda (Yv l m none) a:=rfl;have u:Xb (Yv l m none):=Yq hr _ _
  cases hE:Xg l with
  | nil=>
   rw[hE] at he
   cases he
  | cons p E=>
   rw[hE,map_cons,zcq] at he;have w:p.1=m:=zfp he;have d:Xb (Xg l):=Zc hr _
   have b:Xg (Yv l m none)=E:=by
    have n:Xg (Yv l m none)=(Xg l).filter (fun p=>decide (p.1≠m)):=ZtW hr ZrE m
    rw[n,<-w];exact ZwD d hE
   have f:Dj (Yv l m none)=Dj l:=Jw hr Zul g.2 _
   have c:(Xg (Yv l m none)).map Prod.fst=a++t:=by
    rw[b];exact List.tail_eq_of_cons_eq he
   obtain⟨i,v,j⟩:=ZoQ a (Yv l m none) t u (fun x y=>hm x (za6 _ y)) c
   rw[k];refine⟨?_,v.trans f,fun q e=>?_⟩
   ·rw[i,b]
    rfl
   ·have:=j q e
    rw[Zt] at this;rcases this with ⟨this,-⟩ | ⟨-,this⟩
    ·exact this
    ·cases this
theorem Zlp (s:Sto):∀ (ns:List Int) (d:Dk),ns.Pairwise (·≠·)->OkD d->(d.power≠0->∀ m ∈ ns,m ∈ Qk d)->
 ∃ j,j<=ns.length∧(Qv (ns.map fun m=>Xo (fun d=>Qi d m)) (s,d)).1.2.files=d.files∧(Qv (ns.map fun m=>Xo (fun d=>Qi d m)) (s,d)).1.2.kept=d.kept∧
  (Qv (ns.map fun m=>Xo (fun d=>Qi d m)) (s,d)).1.2.waits=d.waits++(ns.take j).map Ch.take∧((Qv (ns.map fun m=>Xo (fun d=>Qi d m)) (s,d)).2=0->j=ns.length)
 | [],d,_,_,_=>⟨0,za0 _,rfl,rfl,by simp[Qv],fun _=>rfl⟩
 | n::ns,d,hp,hok,hin=>by
  rw[zcd] at hp;rw[map_cons,Qv];have p:(Xo (fun d=>Qi d n) (s,d)).2=(Qi d n).2:=rfl
  have k:(Xo (fun d=>Qi d n) (s,d)).1=(s,(Qi d n).1):=rfl
  rw[p,k];by_cases a:(Qi d n).2=0
  ·rw[zab a]
   obtain⟨j,c,t,q,l,i⟩:=Zlp s ns (Qi d n).1 hp.2 (hok.remove n) (fun h m g=>Zbx hok (fun e=>hp.1 m g e.symm) (hin (Zfn h) m (za6 _ g)))
   have b:(Qi d n).1.files=d.files∧(Qi d n).1.kept=d.kept∧(Qi d n).1.waits=d.waits++[.take n]:=by
    unfold Qi at a ⊢;split at a
    ·cases a
    ·rename_i c
     rw[zaa c];split at a
     ·rename_i f u
      exact⟨rfl,rfl,rfl⟩
     ·cases a
   refine⟨j+1,by rw[zcb];omega,t.trans b.1,q.trans b.2.1,?_,fun h=>by rw[zcb,i h]⟩
   rw[l,b.2.2];simp
  ·rw[zaa a]
   refine⟨0,zap _,?_,?_,?_,fun h=>absurd h a⟩
   ·show(Qi d n).1.files=_
    rw[ZbR a]
   ·show(Qi d n).1.kept=_
    rw[ZbR a]
   ·show(Qi d n).1.waits=_
    rw[ZbR a];simp
theorem ZqJ {a:List Pce} (h:a++Gl s=s.log.pcs) (c:∀ p ∈ a,p.stop<=s.base.idx∧p.name≠s.cur):s.log.pcs.filter (ZeG s)=a:=by
 rw[<-h,zez]
 have e:a.filter (ZeG s)=a:=by
  rw[zd9];intro p b;unfold ZeG;simp[(c p b).1,(c p b).2]
 have d:(Gl s).filter (ZeG s)=[]:=by
  rw[List.filter_eq_nil_iff];intro p b;have:=(za3.1 b).2;simpa using this
 rw[e,d,zc8]
theorem OnI.retain {d:Dk} (h:OnI kind (s,d) all lo n) (u:X0 (s,d) all n):OnI kind (Zn (s,d)).1 all lo n∨ZcZ kind (Zn (s,d)).1 all lo:=by
 have av:OkS s:=u.ok;have M:OkD d:=u.okd;have E:s.log.pcs.Pairwise (fun p q=>p.name<q.name):=u.nam
 have aE:s.cur≠0->∃ a p,s.log.pcs=a++[p]∧p.name=s.cur:=u.curL;have ag:∀ p ∈ s.log.pcs,2<=p.name∧p.name % 2=0:=u.two
 have aj:∀ p ∈ s.log.pcs.dropLast,p.name≠s.cur:=fun p f=>by
  by_cases h0:s.cur=0
  ·have:=(ag p ((zf1 _).subset f)).1
   omega
  ·obtain⟨a,q,W,aI⟩:=aE h0
   rw[W,zga] at f;rw[W,zde] at E;have:=E.2.2 p f q (by simp)
   omega
 obtain⟨⟨a,v,N⟩,-⟩:=ZlE s.cur s.base.idx s.log.pcs s.log.first s.log.next av.log.ch aj u.bas.1;have aA:s.log.pcs.filter (fun p=>!(decide (p.stop<=s.base.idx) && decide (p.name≠s.cur)))=Gl s:=rfl
 rw[aA] at v;have aH:=ZqJ v N;obtain⟨ns,y⟩:=zg7 (a.map Pce.name)
 have aB:ZeH s=ns.map fun m=>Xo (fun d=>Qi d m):=by
  unfold ZeH;rw[aH,y,List.map_map];rfl
 have ar:a.Pairwise (fun p q=>p.name<q.name):=by
  rw[<-v,zde] at E;exact E.1
 have aa:ns.Pairwise (·≠·):=by
  rw[y,zej];exact ar.imp (fun aJ e=>by omega)
 have T:∀ p ∈ a,p ∈ s.log.pcs:=fun p f=>by rw[<-v];exact List.mem_append_left _ f
 have ab:d.power≠0->∀ m ∈ ns,m ∈ Qk d:=fun f m t=>by
  rw[y] at t;obtain⟨p,K,rfl⟩:=zbm.1 t;exact u.on f p (T p K)
 obtain⟨Y,i2,i3,i4,S,i6⟩:=Zjy s ns d aa M ab
 obtain⟨j,j1,j2,U,j4,P⟩:=Zlp s ns d aa M ab
 -- the directories
 have an:(Xg (Qm d)).map Prod.fst=ns++(Gl s).map Pce.name:=by
  have h5:X4 kind all d.files lo (Xg (Qm d)) s.log.pcs:=h.str.seg;rw[h5.names,<-v,zc1,y]
 have aw:∀ m ∈ ns,ZrE m=true∧Zul m=false:=fun m t=>by
  rw[y] at t;obtain⟨p,K,rfl⟩:=zbm.1 t;have X:=ag p (T p K);refine⟨(Zfp _).2 ⟨X.1,X.2⟩,?_⟩
  cases ho:Zul p.name with
  | false=>rfl
  | true=>
   have:=(Zfq _).1 ho;omega
 have aG:Xb (Qm d):=M.dir.rise;have aD:ns.length=a.length:=by rw[y,zda]
 have Q:∀ i,i<=ns.length->Xg (Zda (Qm d) (ns.take i))=(Xg (Qm d)).drop i∧Dj (Zda (Qm d) (ns.take i))=Dj (Qm d)∧∀ p ∈ Zda (Qm d) (ns.take i),p ∈ Qm d:=fun i G=>by
  have B:=ZoQ (ns.take i) (Qm d) (ns.drop i++(Gl s).map Pce.name) aG (fun m t=>aw m (zbz t)) (by rw[an,<-zcr,zb9])
  rw[zb5,zcy G] at B;exact B
 have aq:∀ i,i<=ns.length->Jo kind all lo d.files (Zda (Qm d) (ns.take i)):=fun i G=>by
  have B:=Q i G;have ax:s.log.pcs=a.take i++(a.drop i++Gl s):=by rw[<-zcr,zb9,v]
  refine h.str.goodLeft u (a:=a.take i) (b:=a.drop i++Gl s) ax (fun p f=>(N p (zbz f)).1) ?_ B.2.1
  rw[zb5,zcy (by omega)]
  exact B.1
 have ap:∀ (d':Dk) (i:Nat),i<=ns.length->d'.files=d.files->d'.kept=d.kept->d'.waits=d.waits++(ns.take i).map Ch.take->∀ k,Jo kind all lo d'.files (Yo d' k):=fun d' i G g1 g2 g3 k=>by
  rw[g1];have e:Yo d' k=((d.waits++(ns.take i).map Ch.take).take k).foldl chD d.kept:=by unfold Yo;rw[g2,g3]
  rw[e];by_cases hk:k<=d.waits.length
  ·rw[zce hk]
   exact h.str.good u lo h.str.lol (.inl zL) zL k
  ·rw[zfy,zbl (by omega),zdq,<-zgo,zfl]
   exact aq _ (by omega)
 -- the calls
 have ad:Qv (ZeH s++[Qp]) (s,d)=if(Qv (ns.map fun m=>Xo (fun d=>Qi d m)) (s,d)).2=0 then Qv [Qp] (Qv (ns.map fun m=>Xo (fun d=>Qi d m)) (s,d)).1 else Qv (ns.map fun m=>Xo (fun d=>Qi d m)) (s,d):=by
  rw[aB];exact Zfh _ _ _
 unfold Zn;rw[ad];clear ad;generalize Qv (ns.map fun m=>Xo (fun d=>Qi d m)) (s,d)=R at Y i2 i3 i4 S i6 j2 U j4 P
 obtain⟨⟨g,c⟩,c1⟩:=R;have ak:g=s:=Y;subst ak;have Z:c.files=d.files:=j2;have ai:c.kept=d.kept:=U;have V:c.waits=d.waits++(ns.take j).map Ch.take:=j4;have ae:c.power=0->ZcZ kind (g,c) all lo:=fun f=>⟨h.str.al,f,ap c j j1 Z ai V,h.str.syn,h.cz⟩
 by_cases A:c1=0
 case neg=>
  rw[zaa A,zaa A];exact .inr (ae (S A))
 rw[zab A];have ao:j=ns.length:=P A;have F:=Zds Qp (g,c);have H:Qp (g,c)=((if(Qn c).2=0 then { g with nw:=false } else g,(Qn c).1),(Qn c).2):=rfl
 by_cases x:(Qn c).2=0
 case neg=>
  have L:¬ (Qv [Qp] (g,c)).2=0:=by rw[F.2,H];exact x
  rw[zaa L];rw[F.1,H,zaa x];obtain⟨k1,k2⟩:=Zem x;right;show ZcZ kind (g,(Qn c).1) all lo;rw[k2];exact ae k1
 have L:(Qv [Qp] (g,c)).2=0:=by rw[F.2,H];exact x
 rw[zab L,F.1,H,zab x];left;have am:=ZtZ x
 have D:(Qn c).1={ c with kept:=Qm c,waits:=[],power:=Ye c.power }:=by
  unfold Qn;rw[zaa am]
 obtain⟨l,ac⟩:=zg7 ((Qn c).1);rw[<-ac] at D ⊢
 have az:Qm c=Zda (Qm d) ns:=by
  unfold Qm;rw[ai,V,ao,zdd,zdq];rfl
 have z:Qm l=Zda (Qm d) ns:=by
  rw[D];exact az
 have I:l.files=d.files:=by rw[D];exact Z
 have aF:l.waits=[]:=by rw[D]
 clear D ac;have w:=Q ns.length zL;rw[zdd] at w;have af:Gl g=g.log.pcs.drop ns.length:=by rw[<-v,aD,zg6]
 obtain⟨O,au,aC,ay⟩:=h.str.bas;refine⟨⟨h.str.al,h.str.now,h.str.syn,h.str.lol,?_,fun hc=>?_,⟨O,?_,aC,ay⟩,fun _=>aF,fun hh=>by cases hh⟩,fun t=>?_,fun m t=>?_,h.cz⟩
 ·show X4 kind all l.files lo (Xg (Qm l)) (Gl g)
  rw[I,z,w.1,af];exact X4.drop _ h.str.seg
 ·show X4 kind all l.files all.length (Xg (Qm l)) (Gl g)
  rw[I,z,w.1,af];exact X4.drop _ (h.str.cur0 hc)
 ·show ZjB kind all l.files (Dj (Qm l)) O
  rw[I,z,w.2.1];exact au
 ·have C:1 ∈ (Qm l).map Prod.fst:=t
  rw[z] at C;obtain⟨p,f,J⟩:=zbm.1 C;exact h.one (zbm.2 ⟨p,w.2.2 p f,J⟩)
 ·have C:m ∈ (Qm l).map Prod.fst:=t
  rw[z] at C;obtain⟨p,f,J⟩:=zbm.1 C;exact h.nam m (zbm.2 ⟨p,w.2.2 p f,J⟩)
end Go.Proofs.YtnahjngbneicaaaGreatDoor
