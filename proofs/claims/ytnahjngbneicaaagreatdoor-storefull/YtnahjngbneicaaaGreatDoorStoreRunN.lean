import Derived.Test.YtnahjngbneicaaaGreatDoorStoreRunM
import Derived.Test.YtnahjngbneicaaaGreatDoorStoreAw
namespace Go.Proofs.YtnahjngbneicaaaGreatDoor
set_option linter.unusedSimpArgs false
open _root_.Go.Proofs.Tryz
open List (length_append map_append)
set_option maxRecDepth 100000
variable {d:Dk} {B F n:Nat} {b:List UInt8} {x:SDk} {all:List Rec} {s:Sto}
abbrev zfp:=@List.head_eq_of_cons_eq
abbrev zgc:=@List.drop_append_of_le_length
theorem ZoL {n:Int} (h:SzD d F B) (f:look (Qm d) n=none) (c:b.length<=B):SzD (Qy d n b).1 (F+1) B:=by
 have a:SzD d (F+1) B:=⟨by have:=h.files;omega,h.bytes⟩
 unfold Qy;split
 ·exact a
 ·split
  ·exact a
  ·split
   ·exact a
   ·rw[f]
    show SzD { d with files:=Yt (d.files++[⟨[],0⟩]) d.files.length b,waits:=_,power:=_ } _ _
    refine⟨by show(Yt (d.files++[⟨[],0⟩]) d.files.length b).length<=_;unfold Yt;rw[zd4];have:=h.files;simp;omega,fun x e=>?_⟩
    have hx':x ∈ Yt (d.files++[⟨[],0⟩]) d.files.length b:=e;unfold Yt at hx';rcases zcs hx' with hx' | rfl
    ·rcases za2.1 hx' with hx' | hx'
     ·exact h.bytes x hx'
     ·rw[zaw.1 hx']
      exact zap _
    ·show((fl (d.files++[⟨[],0⟩]) d.files.length).b++b).length<=B
     rw[Zif];simpa using c
theorem Zwz {n:Int}:(Qy d n b).1.power≠0->d.power≠0:=by
 intro h e;rw[Zco e] at h;exact h e
structure X0 (x:SDk) (all:List Rec) (n:Nat):Prop where
 ok:OkS x.1
 len:x.1.next=all.length
 recs:x.1.log.recs=all.drop x.1.log.first.toNat
 bs0:x.1.bases.length≠0
 bsn:x.1.bases.length<=n+1
 bas:x.1.log.first<=x.1.base.idx∧x.1.base.idx<=x.1.next
 pcn:x.1.log.pcs.length<=n
 rcn:all.length<=20*n
 nam:x.1.log.pcs.Pairwise (fun p q=>p.name<q.name)
 two:∀ p ∈ x.1.log.pcs,2<=p.name∧p.name % 2=0
 curL:x.1.cur≠0->∃ a p,x.1.log.pcs=a++[p]∧p.name=x.1.cur
 on:x.2.power≠0->∀ p ∈ x.1.log.pcs,p.name ∈ Qk x.2
 okd:OkD x.2
 sz:SzD x.2 n (6200+1300*n)
theorem SzD.more {F' B':Nat} (h:SzD d F B) (b:F<=F') (a:B<=B'):SzD d F' B':=⟨zau h.files b,fun x c=>zau (h.bytes x c) a⟩
theorem X0.more (h:X0 x all n):X0 x all (n+1):=
 ⟨h.ok,h.len,h.recs,h.bs0,by have:=h.bsn;omega,h.bas,by have:=h.pcn;omega,by have:=h.rcn;omega,h.nam,h.two,h.curL,h.on,h.okd,h.sz.more (by omega) (by omega)⟩
theorem Zhr (room kind:Int) (e:0<=kind) (g:kind<6):X0 (ZoJ kind,Zhe room) [] 0:=by
 have b:=Zfl (d:=Zhe room) e g;rw[ZcW] at b;exact⟨b,rfl,rfl,by show(1:Nat)≠0;decide,za0 _,⟨zen _,zen _⟩,za0 _,za0 _,List.Pairwise.nil,(fun p a=>by cases a),fun c=>absurd rfl c,(fun _ p a=>by cases a),Zuo room,⟨zap _,(fun x f=>by cases f)⟩⟩
theorem X0.head {s':Sto} {d':Dk} (h:X0 (s,d) all n) (f:Kp d d') (a:s'.log=s.log) (j:s'.bases=s.bases) (m:s'.now=s.now) (q:s'.synced=s.synced∨s'.synced=s.next) (l:s'.cur=s.cur∨s'.cur=0):X0 (s',d') all n:=by
 have i:s'.next=s.next:=by unfold Sto.next;rw[a]
 have t:s'.base=s.base:=by unfold Sto.base;rw[j]
 have c:OkS s:=h.ok
 have u:I64 s.next:=by
  have w:=c.log.top;have y:=c.log.f0;have x:0<=s.next:=by unfold Sto.next Lgb.next;omega
  exact⟨by omega,by unfold Sto.next;omega⟩
 have g:s'.cur≠0->s'.cur=s.cur:=fun b=>l.resolve_right b
 refine⟨⟨by rw[a];exact c.log,by rw[m,i];exact c.nx,by rw[m];exact c.now,fun b=>by rw[a];exact c.cur (by rw[<-g b];exact b),?_,?_⟩,by rw[i];exact h.len,by rw[a];exact h.recs,by rw[j];exact h.bs0,by rw[j];exact h.bsn,by rw[a,t,i];exact h.bas,by rw[a];exact h.pcn,h.rcn,by rw[a];exact h.nam,by rw[a];exact h.two,fun b=>by rw[a,g b];exact h.curL (by rw[<-g b];exact b),fun b p v=>?_,f.ok h.okd,f.sz _ _ h.sz⟩
 ·rcases q with e | e
  ·rw[e];exact c.sy
  ·rw[e];exact u
 ·rcases l with e | e
  ·rw[e];exact c.cu
  ·rw[e];exact⟨by decide,by decide⟩
 ·have k:p ∈ s.log.pcs:=by rw[<-a];exact v
  exact f.nm h.okd p.name (h.two p k).1 (h.two p k).2 (h.on (f.pw b) p k)
theorem Zjw (x:SDk):Kp x.2 (Qp x).1.2∧(Qp x).1.1.cur=x.1.cur∧(Qp x).1.1.synced=x.1.synced:=by
 unfold Qp;refine⟨Zlf _,?_,?_⟩
 ·split <;> rfl
 ·split <;> rfl
theorem ZoM (x:SDk):Kp x.2 (Qw x).1.2∧(Qw x).1.1.cur=x.1.cur∧(Qw x).1.1.synced=x.1.synced:=by
 unfold Qw;split
 ·exact Zjw x
 ·exact⟨Kp.refl _,rfl,rfl⟩
theorem ZoN (x:SDk):Kp x.2 (Q2 x).1.2∧(Q2 x).1.1.cur=x.1.cur∧(Q2 x).1.1.synced=x.1.synced:=⟨Zwq _ _,rfl,rfl⟩
theorem ZzR {gs:List (SDk->SDk × Int)} (h:∀ g ∈ gs,∀ x,Kp x.2 (g x).1.2∧(g x).1.1.cur=x.1.cur∧(g x).1.1.synced=x.1.synced):∀ x,Kp x.2 (Qv gs x).1.2∧(Qv gs x).1.1.cur=x.1.cur∧(Qv gs x).1.1.synced=x.1.synced:=by
 induction gs with
 | nil=>exact fun x=>⟨Kp.refl _,rfl,rfl⟩
 | cons g gs d=>
  intro x;have a:=h g zbp x;unfold Qv;split
  ·have b:=d (fun g' c=>h g' (za6 _ c)) (g x).1
   exact⟨a.1.trans b.1,b.2.1.trans a.2.1,b.2.2.trans a.2.2⟩
  ·exact a
theorem Zhs (x:SDk):Kp x.2 (Q5 x).1.2∧(Q5 x).1.1.cur=x.1.cur∧((Q5 x).1.1.synced=x.1.synced∨(Q5 x).1.1.synced=x.1.next):=by
 have h:=ZzR (gs:=[Q2,Qw]) (fun g hg=>by
  rcases zbd.1 hg with rfl | hg
  ·exact ZoN
  ·rw[zaw.1 hg];exact ZoM) x
 have a:(Qv [Q2,Qw] x).1.1.next=x.1.next:=by
  rcases Zmf x with e | e
  ·rw[e]
  ·rw[e];rfl
 unfold Q5;split
 ·exact⟨Kp.refl _,rfl,.inr rfl⟩
 ·split
  ·exact⟨h.1,h.2.1,.inr a⟩
  ·exact⟨h.1,h.2.1,.inl h.2.2⟩
theorem X0.sync (h:X0 x all n):X0 (Q5 x).1 all n:=by
 obtain⟨s,d⟩:=x;have b:=Zhs (s,d);have a:=Zjl (s,d);exact X0.head (s':=(Q5 (s,d)).1.1) (d':=(Q5 (s,d)).1.2) h b.1 a.2.2 a.2.1 a.1 b.2.2 (.inl b.2.1)
theorem X0.rotate (h:X0 x all n):X0 (Yb x).1 all n:=by
 have a:=h.sync;unfold Yb;split
 ·generalize (Q5 x).1=y at a
  obtain⟨s,d⟩:=y;exact a.head (s':={ s with cur:=0 }) (Kp.refl d) rfl rfl rfl (.inl rfl) (.inr rfl)
 ·exact a
theorem X0.cut (h:X0 (s,d) all n) (m:Int):X0 (s,ZqS d m) all n:=h.head (ZAC d m) rfl rfl rfl (.inl rfl) (.inl rfl)
theorem ZtS {l:List Rec} (h:Yg l) (e:l.length<=20) (c:0<=s.now.st.kind∧s.now.st.kind<6) (g:s.next<4611686018427387904):(Jz s l).length<=1300:=by
 have j:=ZrB h;have i:=Ga (d:=Yc l) (by omega)
 unfold Jz;split
 ·rw[length_append]
  have b:=ZcO (v:=3) (k:=s.now.st.kind.toNat) (f:=s.next.toNat) (by decide) (by omega) (by omega)
  have a:=Ga (d:=Xq 3 s.now.st.kind.toNat s.next.toNat) (by omega)
  omega
 ·omega
def Zht (s:Sto) (name:Int):Lgb:=if s.cur=0 then s.log.start name s.next else s.log
theorem Zli {l:List Pce}:l.Pairwise (fun p q=>p.name<q.name)↔(l.map Pce.name).Pairwise (·<·):=by rw[zej]
theorem X0.append (h:X0 x all n) (l:List Rec) (hl:l.length<=20):X0 (Xc l x).1 (if(Xc l x).2=0 then all++l else all) (n+1):=by
 obtain⟨s,d⟩:=x;have i:OkS s:=h.ok;have z:OkD d:=h.okd;unfold Xc;by_cases g:Yg l
 case neg=>
  rw[zab g,zaa (show ¬ (1:Int)=0 by decide)]
  exact h.more
 rw[zaa (fun D=>D g)]
 by_cases G:(l.headD Qj).idx=s.next
 case neg=>
  rw[zab G,zaa (show ¬ (15:Int)=0 by decide)]
  exact h.more
 rw[zaa (fun D=>D G)]
 dsimp only
 by_cases j:(Qy d (Ju s d) (Jz s l)).2=0
 case neg=>
  rw[zaa j,zaa j,Zbb j];exact h.more
 rw[zab j,zab rfl];have ai:=Zfm j;have S:l≠[]:=fun e=>by rw[e] at g;exact absurd g.1 (by decide)
 have k:=i.log;have am:=k.f0;have X:=k.top;have Y:0<=s.next:=by unfold Sto.next Lgb.next;omega
 have ad:s.next<=4611686018427387904:=X;have aj:s.log.next=s.next:=rfl;have H:Xn s.next l:=by rw[<-G];exact g.2.2.2
 have U:=Zdi H g.2.2.1 S;have ak:1<=l.length:=g.1;have I:(Q4 s.now l).2=0:=Zek l s.now (by rw[i.nx];exact H) g.2.2.1
 obtain⟨c,F⟩:=zg7 (Ju s d);rw[<-F] at j ⊢
 have O:=ZtS (s:=s) g hl ⟨i.now.1.2.2.2.1,i.now.1.2.2.2.2.1⟩ (by omega)
 -- the log ahead of the records
 have Q:(Zht s c).pcs.length≠0∧(Zht s c).next=s.next∧OkG (Zht s c)∧(Zht s c).recs=s.log.recs∧(Zht s c).first<=s.base.idx∧((Zht s c).first.toNat<=all.length)∧s.log.recs=all.drop (Zht s c).first.toNat∧(Zht s c).pcs.length<=n+1∧
  ((Zht s c).pcs.map Pce.name).Pairwise (·<·)∧(∀ q ∈ (Zht s c).pcs.map Pce.name,2<=q∧q % 2=0)∧(∃ a,(Zht s c).pcs.map Pce.name=a++[c])∧I64 c∧(∀ q ∈ (Zht s c).pcs.map Pce.name,q=c∨q ∈ Qk d):=by
  have P:s.next=all.length:=h.len;have M:s.log.recs=all.drop s.log.first.toNat:=h.recs
  have ab:s.log.first.toNat<=all.length:=by
   have f:s.next=s.log.first+s.log.recs.length:=rfl;omega
  have v:∀ q ∈ s.log.pcs.map Pce.name,q ∈ Qk d∧2<=q∧q % 2=0:=fun q hq=>by
   obtain⟨p,u,rfl⟩:=zbm.1 hq;exact⟨h.on ai p u,h.two p u⟩
  have J:=Zli.1 h.nam;have an:s.log.pcs.length<=n:=h.pcn;unfold Zht;by_cases m:s.cur=0
  ·have t:c=Xs d 2:=by rw[F];unfold Ju;rw[zab m]
   have al:=Zan (d:=d) 2;rw[zab m]
   have hm:(s.log.start c s.next).pcs.map Pce.name=s.log.pcs.map Pce.name++[c]:=by
    show(s.log.pcs++[_]).map Pce.name=_;rw[map_append];rfl
   rw[hm];refine⟨by show(s.log.pcs++[_]).length≠0;simp,s.log.start_next c s.next k.empty (.inr rfl),k.start c s.next Y ad (.inr rfl),rfl,?_,?_,?_,by show(s.log.pcs++[_]).length<=_;simp;omega,?_,?_,⟨_,rfl⟩,?_,?_⟩
   ·show(if s.log.pcs.length=0 then s.next else s.log.first)<=_
    split
    ·rename_i C
     have f:=k.empty C;have w:s.next=s.log.first+s.log.recs.length:=rfl;rw[f] at w;have L:s.log.first<=s.base.idx:=h.bas.1;simp at w;omega
    ·exact h.bas.1
   ·show(if s.log.pcs.length=0 then s.next else s.log.first).toNat<=_
    split <;> omega
   ·show _=all.drop (if s.log.pcs.length=0 then s.next else s.log.first).toNat
    split
    ·rename_i C
     rw[k.empty C,P];simp
    ·exact M
   ·rw[zde]
    refine⟨J,List.pairwise_singleton _ _,fun a ha b O=>?_⟩
    rw[zaw.1 O,t];have f:=v a ha;exact Zel z 2 a f.1 f.2.1 (by have:=f.2.2;omega)
   ·intro q hq
    rcases za2.1 hq with hq | hq
    ·exact(v q hq).2
    ·rw[zaw.1 hq,t]
     omega
   ·rw[t]
    exact ZcP z 2 (by decide) (by decide)
   ·intro q hq
    rcases za2.1 hq with hq | hq
    ·exact .inr (v q hq).1
    ·exact .inl (zaw.1 hq)
  ·have t:c=s.cur:=by rw[F];unfold Ju;rw[zaa m]
   rw[zaa m];obtain⟨a,p,af,R⟩:=h.curL m;have aa:s.log.pcs=a++[p]:=af;refine⟨i.cur m,rfl,k,rfl,h.bas.1,ab,M,by omega,J,fun q hq=>(v q hq).2,⟨a.map Pce.name,?_⟩,by rw[t];exact i.cu,fun q hq=>.inr (v q hq).1⟩
   rw[aa,map_append,t,<-R];rfl
 obtain⟨E,B,g3,g4,W,g6,g7,g8,Z,ag,⟨a0,T⟩,V,ac⟩:=Q;have K:(Y7 s c l).log=(Zht s c).add l:=rfl
 have A:(Y7 s c l).next=s.next+l.length:=by
  show((Zht s c).add l).next=_;rw[Lgb.add_next,B]
 have y:((Zht s c).add l).pcs.map Pce.name=(Zht s c).pcs.map Pce.name:=Zdz _ _;have ae:=Zca l s.now I;refine⟨⟨?_,?_,?_,?_,i.sy,V⟩,?_,?_,h.bs0,by have:=h.bsn;exact zau this (by omega),⟨W,?_⟩,?_,?_,?_,?_,?_,?_,z.append _ _,?_⟩
 ·exact g3.add l E g.2.2.1 (by rw[B];exact H) (by rw[B];exact U)
 ·rw[A]
  show(Q4 s.now l).1.idx=_;rw[ae.2,i.nx]
 ·exact i.now.take I
 ·intro _
  show((Zht s c).add l).pcs.length≠0;show(Ze (Zht s c).pcs l.length).length≠0;rw[Gf];exact E
 ·rw[A,length_append]
  have P:s.next=all.length:=h.len;omega
 ·show(Zht s c).recs++l=(all++l).drop (Zht s c).first.toNat
  rw[g4,g7,zgc g6]
 ·rw[A]
  have f:s.base.idx<=s.next:=h.bas.2;show s.base.idx<=_;omega
 ·show(Ze (Zht s c).pcs l.length).length<=_
  rw[Gf];exact g8
 ·rw[length_append]
  have:=h.rcn;omega
 ·exact Zli.2 (by rw[K,y];exact Z)
 ·intro p u
  exact ag p.name (by rw[<-y];exact zbm.2 ⟨p,u,rfl⟩)
 ·intro _
  have f:(Y7 s c l).log.pcs.length≠0:=by
   show(Ze (Zht s c).pcs l.length).length≠0;rw[Gf];exact E
  obtain⟨a,p,N⟩:=ZdW f;refine⟨a,p,N,?_⟩;have w:(Y7 s c l).log.pcs.map Pce.name=a0++[c]:=by rw[K,y,T]
  rw[N,map_append] at w;have L:=(List.append_inj' w rfl).2;exact zfp L
 ·intro _ p u
  have f:p.name ∈ (Zht s c).pcs.map Pce.name:=by rw[<-y];exact zbm.2 ⟨p,u,rfl⟩
  exact(Zbw z j p.name).2 (ac p.name f)
 ·exact(Zwt h.sz).more zL (by omega)
end Go.Proofs.YtnahjngbneicaaaGreatDoor
