import Derived.Test.YtnahjngbneicaaaGreatDoorStoreRunM
import Derived.Test.YtnahjngbneicaaaGreatDoorStoreAw
namespace Go.Proofs.YtnahjngbneicaaaGreatDoor
open _root_.Go.Proofs.Tryz
open List (length_append)
set_option maxRecDepth 100000
variable {d:Dk} {B F n:Nat} {b:List UInt8} {x:SDk} {a:List Rec} {s:Sto}
theorem ZnE {n:Int} (h:SzD d F B) (f:look (Q6 d) n=none) (e:b.length<=B):SzD (Xe d n b).1 (F+1) B:=by
 have a:SzD d (F+1) B:=⟨by have:=h.files;omega,h.bytes⟩
 unfold Xe;split
 ·exact a
 ·split
  ·exact a
  ·split
   ·exact a
   ·rw[f]
    show SzD { d with files:=ZbD (d.files++[⟨[],0⟩]) d.files.length b,waits:=_,power:=_ } _ _
    refine⟨by show(ZbD (d.files++[⟨[],0⟩]) d.files.length b).length<=_;unfold ZbD;rw[List.length_set];have:=h.files;simp;omega,fun x c=>?_⟩
    have hx':x ∈ ZbD (d.files++[⟨[],0⟩]) d.files.length b:=c;unfold ZbD at hx';rcases List.mem_or_eq_of_mem_set hx' with hx' | rfl
    ·rcases List.mem_append.1 hx' with hx' | hx'
     ·exact h.bytes x hx'
     ·rw[List.mem_singleton.1 hx']
      exact Nat.zero_le _
    ·show((fl (d.files++[⟨[],0⟩]) d.files.length).b++b).length<=B
     rw[Zoa];simpa using e
theorem Zvg {n:Int}:(Xe d n b).1.power≠0->d.power≠0:=by
 intro h e;rw[ZiI e] at h;exact h e
structure X5 (x:SDk) (all:List Rec) (n:Nat):Prop where
 ok:OkS x.1
 len:x.1.next=all.length
 recs:x.1.log.recs=all.drop x.1.log.first.toNat
 bs0:x.1.bases.length≠0
 bsn:x.1.bases.length<=n+1
 bas:x.1.log.first<=x.1.base.idx∧x.1.base.idx<=x.1.next
 pcn:x.1.log.pcs.length<=n
 rcn:all.length<=20*n
 nam:x.1.log.pcs.Pairwise (fun p q=>p.name<q.name)
 two:∀ p ∈ x.1.log.pcs,2<=p.name∧p.name % 2=0
 curL:x.1.cur≠0->∃ a p,x.1.log.pcs=a++[p]∧p.name=x.1.cur
 on:x.2.power≠0->∀ p ∈ x.1.log.pcs,p.name ∈ Ql x.2
 okd:OkD x.2
 sz:SzD x.2 n (6200+1300*n)
theorem SzD.more {F' B':Nat} (h:SzD d F B) (b:F<=F') (c:B<=B'):SzD d F' B':=⟨Nat.le_trans h.files b,fun x a=>Nat.le_trans (h.bytes x a) c⟩
theorem X5.more (h:X5 x a n):X5 x a (n+1):=
 ⟨h.ok,h.len,h.recs,h.bs0,by have:=h.bsn;omega,h.bas,by have:=h.pcn;omega,by have:=h.rcn;omega,h.nam,h.two,h.curL,h.on,h.okd,h.sz.more (by omega) (by omega)⟩
theorem ZlA (room kind:Int) (f:0<=kind) (e:kind<6):X5 (Zqu kind,ZiS room) [] 0:=by
 have b:=ZeT (d:=ZiS room) f e;rw[ZcV] at b;exact⟨b,rfl,rfl,by show(1:Nat)≠0;decide,Nat.le_refl _,⟨Int.le_refl _,Int.le_refl _⟩,Nat.le_refl _,Nat.le_refl _,List.Pairwise.nil,(fun p a=>by cases a),fun g=>absurd rfl g,(fun _ p a=>by cases a),ZsN room,⟨Nat.zero_le _,(fun x c=>by cases c)⟩⟩
theorem X5.head {s':Sto} {d':Dk} {m:List Rec} (h:X5 (s,d) m n) (f:Kp d d') (a:s'.log=s.log) (g:s'.bases=s.bases) (q:s'.now=s.now) (v:s'.synced=s.synced∨s'.synced=s.next) (l:s'.cur=s.cur∨s'.cur=0):X5 (s',d') m n:=by
 have j:s'.next=s.next:=by unfold Sto.next;rw[a]
 have t:s'.base=s.base:=by unfold Sto.base;rw[g]
 have c:OkS s:=h.ok
 have u:I64 s.next:=by
  have y:=c.log.top;have x:=c.log.f0;have z:0<=s.next:=by unfold Sto.next Lgb.next;omega
  exact⟨by omega,by unfold Sto.next;omega⟩
 have i:s'.cur≠0->s'.cur=s.cur:=fun b=>l.resolve_right b
 refine⟨⟨by rw[a];exact c.log,by rw[q,j];exact c.nx,by rw[q];exact c.now,fun b=>by rw[a];exact c.cur (by rw[<-i b];exact b),?_,?_⟩,by rw[j];exact h.len,by rw[a];exact h.recs,by rw[g];exact h.bs0,by rw[g];exact h.bsn,by rw[a,t,j];exact h.bas,by rw[a];exact h.pcn,h.rcn,by rw[a];exact h.nam,by rw[a];exact h.two,fun b=>by rw[a,i b];exact h.curL (by rw[<-i b];exact b),fun b p w=>?_,f.ok h.okd,f.sz _ _ h.sz⟩
 ·rcases v with e | e
  ·rw[e];exact c.sy
  ·rw[e];exact u
 ·rcases l with e | e
  ·rw[e];exact c.cu
  ·rw[e];exact⟨by decide,by decide⟩
 ·have k:p ∈ s.log.pcs:=by rw[<-a];exact w
  exact f.nm h.okd p.name (h.two p k).1 (h.two p k).2 (h.on (f.pw b) p k)
theorem ZiO (x:SDk):Kp x.2 (Qt x).1.2∧(Qt x).1.1.cur=x.1.cur∧(Qt x).1.1.synced=x.1.synced:=by
 unfold Qt;refine⟨Zkl _,?_,?_⟩
 ·split <;> rfl
 ·split <;> rfl
theorem ZnF (x:SDk):Kp x.2 (Xj x).1.2∧(Xj x).1.1.cur=x.1.cur∧(Xj x).1.1.synced=x.1.synced:=by
 unfold Xj;split
 ·exact ZiO x
 ·exact⟨Kp.refl _,rfl,rfl⟩
theorem ZnG (x:SDk):Kp x.2 (Xb x).1.2∧(Xb x).1.1.cur=x.1.cur∧(Xb x).1.1.synced=x.1.synced:=⟨ZuW _ _,rfl,rfl⟩
theorem ZxZ {gs:List (SDk->SDk × Int)} (h:∀ g ∈ gs,∀ x,Kp x.2 (g x).1.2∧(g x).1.1.cur=x.1.cur∧(g x).1.1.synced=x.1.synced):∀ x,Kp x.2 (Q3 gs x).1.2∧(Q3 gs x).1.1.cur=x.1.cur∧(Q3 gs x).1.1.synced=x.1.synced:=by
 induction gs with
 | nil=>exact fun x=>⟨Kp.refl _,rfl,rfl⟩
 | cons g gs c=>
  intro x;have a:=h g List.mem_cons_self x;unfold Q3;split
  ·have b:=c (fun g' d=>h g' (List.mem_cons_of_mem _ d)) (g x).1
   exact⟨a.1.trans b.1,b.2.1.trans a.2.1,b.2.2.trans a.2.2⟩
  ·exact a
theorem ZwL (x:SDk):Kp x.2 (Zf x).1.2∧(Zf x).1.1.cur=x.1.cur∧((Zf x).1.1.synced=x.1.synced∨(Zf x).1.1.synced=x.1.next):=by
 have h:=ZxZ (gs:=[Xb,Xj]) (fun g hg=>by
  rcases List.mem_cons.1 hg with rfl | hg
  ·exact ZnG
  ·rw[List.mem_singleton.1 hg];exact ZnF) x
 have a:(Q3 [Xb,Xj] x).1.1.next=x.1.next:=by
  rcases Zlb x with e | e
  ·rw[e]
  ·rw[e];rfl
 unfold Zf;split
 ·exact⟨Kp.refl _,rfl,.inr rfl⟩
 ·split
  ·exact⟨h.1,h.2.1,.inr a⟩
  ·exact⟨h.1,h.2.1,.inl h.2.2⟩
theorem X5.sync {c:List Rec} (h:X5 x c n):X5 (Zf x).1 c n:=by
 obtain⟨s,d⟩:=x;have a:=ZwL (s,d);have b:=ZiB (s,d);exact X5.head (s':=(Zf (s,d)).1.1) (d':=(Zf (s,d)).1.2) h a.1 b.2.2 b.2.1 b.1 a.2.2 (.inl a.2.1)
theorem X5.rotate {b:List Rec} (h:X5 x b n):X5 (Zbx x).1 b n:=by
 have a:=h.sync;unfold Zbx;split
 ·generalize (Zf x).1=y at a
  obtain⟨s,d⟩:=y;exact a.head (s':={ s with cur:=0 }) (Kp.refl d) rfl rfl rfl (.inl rfl) (.inr rfl)
 ·exact a
theorem X5.cut (h:X5 (s,d) a n) (m:Int):X5 (s,Zvn d m) a n:=h.head (ZyJ d m) rfl rfl rfl (.inl rfl) (.inl rfl)
theorem ZsD {l:List Rec} (h:Yc l) (e:l.length<=20) (i:0<=s.now.st.kind∧s.now.st.kind<6) (b:s.next<4611686018427387904):(Zbl s l).length<=1300:=by
 have c:=Zqv h;have g:=Jb (d:=Y2 l) (by omega)
 unfold Zbl;split
 ·rw[length_append]
  have j:=ZeF (v:=3) (k:=s.now.st.kind.toNat) (f:=s.next.toNat) (by decide) (by omega) (by omega)
  have a:=Jb (d:=X6 3 s.now.st.kind.toNat s.next.toNat) (by omega)
  omega
 ·omega
def ZgK (s:Sto) (name:Int):Lgb:=if s.cur=0 then s.log.start name s.next else s.log
theorem Zkp {l:List Pce}:l.Pairwise (fun p q=>p.name<q.name)↔(l.map Pce.name).Pairwise (·<·):=by rw[List.pairwise_map]
theorem X5.append {g:List Rec} (h:X5 x g n) (l:List Rec) (hl:l.length<=20):X5 (Yn l x).1 (if(Yn l x).2=0 then g++l else g) (n+1):=by
 obtain⟨s,d⟩:=x;have j:OkS s:=h.ok;have z:OkD d:=h.okd;unfold Yn;by_cases i:Yc l
 case neg=>
  rw[if_pos i,if_neg (show ¬ (1:Int)=0 by decide)]
  exact h.more
 rw[if_neg (fun F=>F i)]
 by_cases G:(l.headD Qi).idx=s.next
 case neg=>
  rw[if_pos G,if_neg (show ¬ (15:Int)=0 by decide)]
  exact h.more
 rw[if_neg (fun F=>F G)]
 dsimp only
 by_cases k:(Xe d (Zcw s d) (Zbl s l)).2=0
 case neg=>
  rw[if_neg k,if_neg k,Zkk k];exact h.more
 rw[if_pos k,if_pos rfl];have ab:=ZuV k;have X:l≠[]:=fun e=>by rw[e] at i;exact absurd i.1 (by decide)
 have m:=j.log;have ao:=m.f0;have ad:=m.top;have ak:0<=s.next:=by unfold Sto.next Lgb.next;omega
 have ae:s.next<=4611686018427387904:=ad;have an:s.log.next=s.next:=rfl;have H:Xq s.next l:=by rw[<-G];exact i.2.2.2
 have ag:=Zfl H i.2.2.1 X;have am:1<=l.length:=i.1;have M:(Xa s.now l).2=0:=ZiJ l s.now (by rw[j.nx];exact H) i.2.2.1
 obtain⟨c,D⟩:∃ c,c=Zcw s d:=⟨_,rfl⟩;rw[<-D] at k ⊢
 have K:=ZsD (s:=s) i hl ⟨j.now.1.2.2.2.1,j.now.1.2.2.2.2.1⟩ (by omega)
 -- the log ahead of the records
 have af:(ZgK s c).pcs.length≠0∧(ZgK s c).next=s.next∧OkG (ZgK s c)∧(ZgK s c).recs=s.log.recs∧(ZgK s c).first<=s.base.idx∧((ZgK s c).first.toNat<=g.length)∧s.log.recs=g.drop (ZgK s c).first.toNat∧(ZgK s c).pcs.length<=n+1∧
  ((ZgK s c).pcs.map Pce.name).Pairwise (·<·)∧(∀ q ∈ (ZgK s c).pcs.map Pce.name,2<=q∧q % 2=0)∧(∃ a,(ZgK s c).pcs.map Pce.name=a++[c])∧I64 c∧(∀ q ∈ (ZgK s c).pcs.map Pce.name,q=c∨q ∈ Ql d):=by
  have Q:s.next=g.length:=h.len;have J:s.log.recs=g.drop s.log.first.toNat:=h.recs
  have aj:s.log.first.toNat<=g.length:=by
   have f:s.next=s.log.first+s.log.recs.length:=rfl;omega
  have y:∀ q ∈ s.log.pcs.map Pce.name,q ∈ Ql d∧2<=q∧q % 2=0:=fun q hq=>by
   obtain⟨p,v,rfl⟩:=List.mem_map.1 hq;exact⟨h.on ab p v,h.two p v⟩
  have N:=Zkp.1 h.nam;have aq:s.log.pcs.length<=n:=h.pcn;unfold ZgK;by_cases u:s.cur=0
  ·have t:c=Ya d 2:=by rw[D];unfold Zcw;rw[if_pos u]
   have ap:=ZeU (d:=d) 2;rw[if_pos u]
   have V:(s.log.start c s.next).pcs.map Pce.name=s.log.pcs.map Pce.name++[c]:=by
    show(s.log.pcs++[_]).map Pce.name=_;rw[List.map_append];rfl
   rw[V];refine⟨by show(s.log.pcs++[_]).length≠0;simp,s.log.start_next c s.next m.empty (.inr rfl),m.start c s.next ak ae (.inr rfl),rfl,?_,?_,?_,by show(s.log.pcs++[_]).length<=_;simp;omega,?_,?_,⟨_,rfl⟩,?_,?_⟩
   ·show(if s.log.pcs.length=0 then s.next else s.log.first)<=_
    split
    ·rename_i I
     have f:=m.empty I;have w:s.next=s.log.first+s.log.recs.length:=rfl;rw[f] at w;have O:s.log.first<=s.base.idx:=h.bas.1;simp at w;omega
    ·exact h.bas.1
   ·show(if s.log.pcs.length=0 then s.next else s.log.first).toNat<=_
    split <;> omega
   ·show _=g.drop (if s.log.pcs.length=0 then s.next else s.log.first).toNat
    split
    ·rename_i I
     rw[m.empty I,Q];simp
    ·exact J
   ·rw[List.pairwise_append]
    refine⟨N,List.pairwise_singleton _ _,fun a Y b K=>?_⟩
    rw[List.mem_singleton.1 K,t];have f:=y a Y;exact Zpv z 2 a f.1 f.2.1 (by have:=f.2.2;omega)
   ·intro q hq
    rcases List.mem_append.1 hq with hq | hq
    ·exact(y q hq).2
    ·rw[List.mem_singleton.1 hq,t]
     omega
   ·rw[t]
    exact ZcP z 2 (by decide) (by decide)
   ·intro q hq
    rcases List.mem_append.1 hq with hq | hq
    ·exact .inr (y q hq).1
    ·exact .inl (List.mem_singleton.1 hq)
  ·have t:c=s.cur:=by rw[D];unfold Zcw;rw[if_neg u]
   rw[if_neg u];obtain⟨a,p,al,ai⟩:=h.curL u;have R:s.log.pcs=a++[p]:=al;refine⟨j.cur u,rfl,m,rfl,h.bas.1,aj,J,by omega,N,fun q hq=>(y q hq).2,⟨a.map Pce.name,?_⟩,by rw[t];exact j.cu,fun q hq=>.inr (y q hq).1⟩
   rw[R,List.map_append,t,<-ai];rfl
 obtain⟨B,E,T,g4,Z,g6,g7,g8,g9,W,⟨a0,S⟩,U,aa⟩:=af;have L:(Z2 s c l).log=(ZgK s c).add l:=rfl
 have C:(Z2 s c l).next=s.next+l.length:=by
  show((ZgK s c).add l).next=_;rw[Lgb.add_next,E]
 have A:((ZgK s c).add l).pcs.map Pce.name=(ZgK s c).pcs.map Pce.name:=Zdo _ _;have ac:=ZdD l s.now M;refine⟨⟨?_,?_,?_,?_,j.sy,U⟩,?_,?_,h.bs0,by have:=h.bsn;exact Nat.le_trans this (by omega),⟨Z,?_⟩,?_,?_,?_,?_,?_,?_,z.append _ _,?_⟩
 ·exact T.add l B i.2.2.1 (by rw[E];exact H) (by rw[E];exact ag)
 ·rw[C]
  show(Xa s.now l).1.idx=_;rw[ac.2,j.nx]
 ·exact j.now.take M
 ·intro _
  show((ZgK s c).add l).pcs.length≠0;show(Zq (ZgK s c).pcs l.length).length≠0;rw[Zah];exact B
 ·rw[C,length_append]
  have Q:s.next=g.length:=h.len;omega
 ·show(ZgK s c).recs++l=(g++l).drop (ZgK s c).first.toNat
  rw[g4,g7,List.drop_append_of_le_length g6]
 ·rw[C]
  have f:s.base.idx<=s.next:=h.bas.2;show s.base.idx<=_;omega
 ·show(Zq (ZgK s c).pcs l.length).length<=_
  rw[Zah];exact g8
 ·rw[length_append]
  have:=h.rcn;omega
 ·exact Zkp.2 (by rw[L,A];exact g9)
 ·intro p v
  exact W p.name (by rw[<-A];exact List.mem_map.2 ⟨p,v,rfl⟩)
 ·intro _
  have f:(Z2 s c l).log.pcs.length≠0:=by
   show(Zq (ZgK s c).pcs l.length).length≠0;rw[Zah];exact B
  obtain⟨a,p,P⟩:=ZkD f;refine⟨a,p,P,?_⟩;have w:(Z2 s c l).log.pcs.map Pce.name=a0++[c]:=by rw[L,A,S]
  rw[P,List.map_append] at w;have O:=(List.append_inj' w rfl).2;exact List.head_eq_of_cons_eq O
 ·intro _ p v
  have f:p.name ∈ (ZgK s c).pcs.map Pce.name:=by rw[<-A];exact List.mem_map.2 ⟨p,v,rfl⟩
  exact(Zgj z k p.name).2 (aa p.name f)
 ·exact(ZuZ h.sz).more zL (by omega)
end Go.Proofs.YtnahjngbneicaaaGreatDoor
