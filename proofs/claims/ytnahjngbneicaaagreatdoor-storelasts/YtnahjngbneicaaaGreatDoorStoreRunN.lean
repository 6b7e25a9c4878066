import Derived.Test.YtnahjngbneicaaaGreatDoorStoreRunM
import Derived.Test.YtnahjngbneicaaaGreatDoorStoreAw
namespace Go.Proofs.YtnahjngbneicaaaGreatDoor
open _root_.Go.Proofs.Tryz
open List (length_append map_append)
set_option maxRecDepth 100000
variable {d:Dk} {B F n:Nat} {b:List UInt8} {x:SDk} {all:List Rec} {s:Sto}
theorem Zot {n:Int} (h:SzD d F B) (e:look (Qm d) n=none) (c:b.length<=B):SzD (Qy d n b).1 (F+1) B:=by
 have a:SzD d (F+1) B:=⟨by have:=h.files;omega,h.bytes⟩
 unfold Qy;split
 ·exact a
 ·split
  ·exact a
  ·split
   ·exact a
   ·rw[e]
    show SzD { d with files:=Yr (d.files++[⟨[],0⟩]) d.files.length b,waits:=_,power:=_ } _ _
    refine⟨by show(Yr (d.files++[⟨[],0⟩]) d.files.length b).length<=_;unfold Yr;rw[List.length_set];have:=h.files;simp;omega,fun x f=>?_⟩
    have hx':x ∈ Yr (d.files++[⟨[],0⟩]) d.files.length b:=f;unfold Yr at hx';rcases List.mem_or_eq_of_mem_set hx' with hx' | rfl
    ·rcases List.mem_append.1 hx' with hx' | hx'
     ·exact h.bytes x hx'
     ·rw[List.mem_singleton.1 hx']
      exact Nat.zero_le _
    ·show((fl (d.files++[⟨[],0⟩]) d.files.length).b++b).length<=B
     rw[ZhS];simpa using c
theorem Zwi {n:Int}:(Qy d n b).1.power≠0->d.power≠0:=by
 intro h e;rw[Zcp e] at h;exact h e
structure X4 (x:SDk) (all:List Rec) (n:Nat):Prop where
 ok:OkS x.1
 len:x.1.next=all.length
 recs:x.1.log.recs=all.drop x.1.log.first.toNat
 bs0:x.1.bases.length≠0
 bsn:x.1.bases.length<=n+1
 bas:x.1.log.first<=x.1.base.idx∧x.1.base.idx<=x.1.next
 pcn:x.1.log.pcs.length<=n
 rcn:all.length<=20*n
 nam:x.1.log.pcs.Pairwise (fun p q=>p.name<q.name)
 two:∀ p ∈ x.1.log.pcs,2<=p.name∧p.name % 2=0
 curL:x.1.cur≠0->∃ a p,x.1.log.pcs=a++[p]∧p.name=x.1.cur
 on:x.2.power≠0->∀ p ∈ x.1.log.pcs,p.name ∈ Qk x.2
 okd:OkD x.2
 sz:SzD x.2 n (6200+1300*n)
theorem SzD.more {F' B':Nat} (h:SzD d F B) (b:F<=F') (a:B<=B'):SzD d F' B':=⟨Nat.le_trans h.files b,fun x c=>Nat.le_trans (h.bytes x c) a⟩
theorem X4.more (h:X4 x all n):X4 x all (n+1):=
 ⟨h.ok,h.len,h.recs,h.bs0,by have:=h.bsn;omega,h.bas,by have:=h.pcn;omega,by have:=h.rcn;omega,h.nam,h.two,h.curL,h.on,h.okd,h.sz.more (by omega) (by omega)⟩
theorem Zhb (room kind:Int) (g:0<=kind) (c:kind<6):X4 (Zor kind,ZgP room) [] 0:=by
 have b:=Zfe (d:=ZgP room) g c;rw[ZcW] at b;exact⟨b,rfl,rfl,by show(1:Nat)≠0;decide,Nat.le_refl _,⟨Int.le_refl _,Int.le_refl _⟩,Nat.le_refl _,Nat.le_refl _,List.Pairwise.nil,(fun p a=>by cases a),fun e=>absurd rfl e,(fun _ p a=>by cases a),ZtU room,⟨Nat.zero_le _,(fun x f=>by cases f)⟩⟩
theorem X4.head {s':Sto} {d':Dk} (h:X4 (s,d) all n) (f:Kp d d') (b:s'.log=s.log) (g:s'.bases=s.bases) (m:s'.now=s.now) (u:s'.synced=s.synced∨s'.synced=s.next) (l:s'.cur=s.cur∨s'.cur=0):X4 (s',d') all n:=by
 have j:s'.next=s.next:=by unfold Sto.next;rw[b]
 have q:s'.base=s.base:=by unfold Sto.base;rw[g]
 have c:OkS s:=h.ok
 have t:I64 s.next:=by
  have y:=c.log.top;have w:=c.log.f0;have x:0<=s.next:=by unfold Sto.next Lgb.next;omega
  exact⟨by omega,by unfold Sto.next;omega⟩
 have i:s'.cur≠0->s'.cur=s.cur:=fun a=>l.resolve_right a
 refine⟨⟨by rw[b];exact c.log,by rw[m,j];exact c.nx,by rw[m];exact c.now,fun a=>by rw[b];exact c.cur (by rw[<-i a];exact a),?_,?_⟩,by rw[j];exact h.len,by rw[b];exact h.recs,by rw[g];exact h.bs0,by rw[g];exact h.bsn,by rw[b,q,j];exact h.bas,by rw[b];exact h.pcn,h.rcn,by rw[b];exact h.nam,by rw[b];exact h.two,fun a=>by rw[b,i a];exact h.curL (by rw[<-i a];exact a),fun a p v=>?_,f.ok h.okd,f.sz _ _ h.sz⟩
 ·rcases u with e | e
  ·rw[e];exact c.sy
  ·rw[e];exact t
 ·rcases l with e | e
  ·rw[e];exact c.cu
  ·rw[e];exact⟨by decide,by decide⟩
 ·have k:p ∈ s.log.pcs:=by rw[<-b];exact v
  exact f.nm h.okd p.name (h.two p k).1 (h.two p k).2 (h.on (f.pw a) p k)
theorem Zjm (x:SDk):Kp x.2 (Qq x).1.2∧(Qq x).1.1.cur=x.1.cur∧(Qq x).1.1.synced=x.1.synced:=by
 unfold Qq;refine⟨ZkR _,?_,?_⟩
 ·split <;> rfl
 ·split <;> rfl
theorem Zou (x:SDk):Kp x.2 (Qx x).1.2∧(Qx x).1.1.cur=x.1.cur∧(Qx x).1.1.synced=x.1.synced:=by
 unfold Qx;split
 ·exact Zjm x
 ·exact⟨Kp.refl _,rfl,rfl⟩
theorem Zov (x:SDk):Kp x.2 (Q1 x).1.2∧(Q1 x).1.1.cur=x.1.cur∧(Q1 x).1.1.synced=x.1.synced:=⟨ZvY _ _,rfl,rfl⟩
theorem Zzn {gs:List (SDk->SDk × Int)} (h:∀ g ∈ gs,∀ x,Kp x.2 (g x).1.2∧(g x).1.1.cur=x.1.cur∧(g x).1.1.synced=x.1.synced):∀ x,Kp x.2 (Qv gs x).1.2∧(Qv gs x).1.1.cur=x.1.cur∧(Qv gs x).1.1.synced=x.1.synced:=by
 induction gs with
 | nil=>exact fun x=>⟨Kp.refl _,rfl,rfl⟩
 | cons g gs c=>
  intro x;have a:=h g List.mem_cons_self x;unfold Qv;split
  ·have b:=c (fun g' d=>h g' (List.mem_cons_of_mem _ d)) (g x).1
   exact⟨a.1.trans b.1,b.2.1.trans a.2.1,b.2.2.trans a.2.2⟩
  ·exact a
theorem Zhc (x:SDk):Kp x.2 (Q5 x).1.2∧(Q5 x).1.1.cur=x.1.cur∧((Q5 x).1.1.synced=x.1.synced∨(Q5 x).1.1.synced=x.1.next):=by
 have h:=Zzn (gs:=[Q1,Qx]) (fun g hg=>by
  rcases List.mem_cons.1 hg with rfl | hg
  ·exact Zov
  ·rw[List.mem_singleton.1 hg];exact Zou) x
 have a:(Qv [Q1,Qx] x).1.1.next=x.1.next:=by
  rcases ZlN x with e | e
  ·rw[e]
  ·rw[e];rfl
 unfold Q5;split
 ·exact⟨Kp.refl _,rfl,.inr rfl⟩
 ·split
  ·exact⟨h.1,h.2.1,.inr a⟩
  ·exact⟨h.1,h.2.1,.inl h.2.2⟩
theorem X4.sync (h:X4 x all n):X4 (Q5 x).1 all n:=by
 obtain⟨s,d⟩:=x;have a:=Zhc (s,d);have b:=Zjb (s,d);exact X4.head (s':=(Q5 (s,d)).1.1) (d':=(Q5 (s,d)).1.2) h a.1 b.2.2 b.2.1 b.1 a.2.2 (.inl a.2.1)
theorem X4.rotate (h:X4 x all n):X4 (Yf x).1 all n:=by
 have a:=h.sync;unfold Yf;split
 ·generalize (Q5 x).1=y at a
  obtain⟨s,d⟩:=y;exact a.head (s':={ s with cur:=0 }) (Kp.refl d) rfl rfl rfl (.inl rfl) (.inr rfl)
 ·exact a
theorem X4.cut (h:X4 (s,d) all n) (m:Int):X4 (s,Zqz d m) all n:=h.head (ZzW d m) rfl rfl rfl (.inl rfl) (.inl rfl)
theorem Zty {l:List Rec} (h:Yc l) (c:l.length<=20) (e:0<=s.now.st.kind∧s.now.st.kind<6) (j:s.next<4611686018427387904):(Jv s l).length<=1300:=by
 have b:=Zrk h;have i:=J7 (d:=X9 l) (by omega)
 unfold Jv;split
 ·rw[length_append]
  have g:=ZcP (v:=3) (k:=s.now.st.kind.toNat) (f:=s.next.toNat) (by decide) (by omega) (by omega)
  have a:=J7 (d:=Xq 3 s.now.st.kind.toNat s.next.toNat) (by omega)
  omega
 ·omega
def Zhd (s:Sto) (name:Int):Lgb:=if s.cur=0 then s.log.start name s.next else s.log
theorem ZkU {l:List Pce}:l.Pairwise (fun p q=>p.name<q.name)↔(l.map Pce.name).Pairwise (·<·):=by rw[List.pairwise_map]
theorem X4.append (h:X4 x all n) (l:List Rec) (hl:l.length<=20):X4 (X5 l x).1 (if(X5 l x).2=0 then all++l else all) (n+1):=by
 obtain⟨s,d⟩:=x;have i:OkS s:=h.ok;have y:OkD d:=h.okd;unfold X5;by_cases g:Yc l
 case neg=>
  rw[if_pos g,if_neg (show ¬ (1:Int)=0 by decide)]
  exact h.more
 rw[if_neg (fun E=>E g)]
 by_cases H:(l.headD Qi).idx=s.next
 case neg=>
  rw[if_pos H,if_neg (show ¬ (15:Int)=0 by decide)]
  exact h.more
 rw[if_neg (fun E=>E H)]
 dsimp only
 by_cases k:(Qy d (Jr s d) (Jv s l)).2=0
 case neg=>
  rw[if_neg k,if_neg k,ZbQ k];exact h.more
 rw[if_pos k,if_pos rfl];have ai:=Zff k;have U:l≠[]:=fun e=>by rw[e] at g;exact absurd g.1 (by decide)
 have j:=i.log;have an:=j.f0;have Z:=j.top;have S:0<=s.next:=by unfold Sto.next Lgb.next;omega
 have R:s.next<=4611686018427387904:=Z;have al:s.log.next=s.next:=rfl;have A:Xl s.next l:=by rw[<-H];exact g.2.2.2
 have aj:=Zde A g.2.2.1 U;have ak:1<=l.length:=g.1;have O:(Q3 s.now l).2=0:=Zeb l s.now (by rw[i.nx];exact A) g.2.2.1
 obtain⟨c,F⟩:∃ c,c=Jr s d:=⟨_,rfl⟩;rw[<-F] at k ⊢
 have K:=Zty (s:=s) g hl ⟨i.now.1.2.2.2.1,i.now.1.2.2.2.2.1⟩ (by omega)
 -- the log ahead of the records
 have aa:(Zhd s c).pcs.length≠0∧(Zhd s c).next=s.next∧OkG (Zhd s c)∧(Zhd s c).recs=s.log.recs∧(Zhd s c).first<=s.base.idx∧((Zhd s c).first.toNat<=all.length)∧s.log.recs=all.drop (Zhd s c).first.toNat∧(Zhd s c).pcs.length<=n+1∧
  ((Zhd s c).pcs.map Pce.name).Pairwise (·<·)∧(∀ q ∈ (Zhd s c).pcs.map Pce.name,2<=q∧q % 2=0)∧(∃ a,(Zhd s c).pcs.map Pce.name=a++[c])∧I64 c∧(∀ q ∈ (Zhd s c).pcs.map Pce.name,q=c∨q ∈ Qk d):=by
  have P:s.next=all.length:=h.len;have L:s.log.recs=all.drop s.log.first.toNat:=h.recs
  have W:s.log.first.toNat<=all.length:=by
   have f:s.next=s.log.first+s.log.recs.length:=rfl;omega
  have w:∀ q ∈ s.log.pcs.map Pce.name,q ∈ Qk d∧2<=q∧q % 2=0:=fun q hq=>by
   obtain⟨p,u,rfl⟩:=List.mem_map.1 hq;exact⟨h.on ai p u,h.two p u⟩
  have J:=ZkU.1 h.nam;have am:s.log.pcs.length<=n:=h.pcn;unfold Zhd;by_cases m:s.cur=0
  ·have t:c=Xs d 2:=by rw[F];unfold Jr;rw[if_pos m]
   have ao:=Zan (d:=d) 2;rw[if_pos m]
   have hm:(s.log.start c s.next).pcs.map Pce.name=s.log.pcs.map Pce.name++[c]:=by
    show(s.log.pcs++[_]).map Pce.name=_;rw[map_append];rfl
   rw[hm];refine⟨by show(s.log.pcs++[_]).length≠0;simp,s.log.start_next c s.next j.empty (.inr rfl),j.start c s.next S R (.inr rfl),rfl,?_,?_,?_,by show(s.log.pcs++[_]).length<=_;simp;omega,?_,?_,⟨_,rfl⟩,?_,?_⟩
   ·show(if s.log.pcs.length=0 then s.next else s.log.first)<=_
    split
    ·rename_i C
     have f:=j.empty C;have v:s.next=s.log.first+s.log.recs.length:=rfl;rw[f] at v;have I:s.log.first<=s.base.idx:=h.bas.1;simp at v;omega
    ·exact h.bas.1
   ·show(if s.log.pcs.length=0 then s.next else s.log.first).toNat<=_
    split <;> omega
   ·show _=all.drop (if s.log.pcs.length=0 then s.next else s.log.first).toNat
    split
    ·rename_i C
     rw[j.empty C,P];simp
    ·exact L
   ·rw[List.pairwise_append]
    refine⟨J,List.pairwise_singleton _ _,fun a X b K=>?_⟩
    rw[List.mem_singleton.1 K,t];have f:=w a X;exact Zec y 2 a f.1 f.2.1 (by have:=f.2.2;omega)
   ·intro q hq
    rcases List.mem_append.1 hq with hq | hq
    ·exact(w q hq).2
    ·rw[List.mem_singleton.1 hq,t]
     omega
   ·rw[t]
    exact ZcQ y 2 (by decide) (by decide)
   ·intro q hq
    rcases List.mem_append.1 hq with hq | hq
    ·exact .inr (w q hq).1
    ·exact .inl (List.mem_singleton.1 hq)
  ·have t:c=s.cur:=by rw[F];unfold Jr;rw[if_neg m]
   rw[if_neg m];obtain⟨a,p,ac,af⟩:=h.curL m;have ab:s.log.pcs=a++[p]:=ac;refine⟨i.cur m,rfl,j,rfl,h.bas.1,W,L,by omega,J,fun q hq=>(w q hq).2,⟨a.map Pce.name,?_⟩,by rw[t];exact i.cu,fun q hq=>.inr (w q hq).1⟩
   rw[ab,map_append,t,<-af];rfl
 obtain⟨B,G,g3,Q,g5,g6,V,g8,g9,ad,⟨a0,ae⟩,ag,T⟩:=aa;have M:(Y3 s c l).log=(Zhd s c).add l:=rfl
 have D:(Y3 s c l).next=s.next+l.length:=by
  show((Zhd s c).add l).next=_;rw[Lgb.add_next,G]
 have z:((Zhd s c).add l).pcs.map Pce.name=(Zhd s c).pcs.map Pce.name:=Zds _ _;have Y:=Zcb l s.now O;refine⟨⟨?_,?_,?_,?_,i.sy,ag⟩,?_,?_,h.bs0,by have:=h.bsn;exact Nat.le_trans this (by omega),⟨g5,?_⟩,?_,?_,?_,?_,?_,?_,y.append _ _,?_⟩
 ·exact g3.add l B g.2.2.1 (by rw[G];exact A) (by rw[G];exact aj)
 ·rw[D]
  show(Q3 s.now l).1.idx=_;rw[Y.2,i.nx]
 ·exact i.now.take O
 ·intro _
  show((Zhd s c).add l).pcs.length≠0;show(Zc (Zhd s c).pcs l.length).length≠0;rw[Gc];exact B
 ·rw[D,length_append]
  have P:s.next=all.length:=h.len;omega
 ·show(Zhd s c).recs++l=(all++l).drop (Zhd s c).first.toNat
  rw[Q,V,List.drop_append_of_le_length g6]
 ·rw[D]
  have f:s.base.idx<=s.next:=h.bas.2;show s.base.idx<=_;omega
 ·show(Zc (Zhd s c).pcs l.length).length<=_
  rw[Gc];exact g8
 ·rw[length_append]
  have:=h.rcn;omega
 ·exact ZkU.2 (by rw[M,z];exact g9)
 ·intro p u
  exact ad p.name (by rw[<-z];exact List.mem_map.2 ⟨p,u,rfl⟩)
 ·intro _
  have f:(Y3 s c l).log.pcs.length≠0:=by
   show(Zc (Zhd s c).pcs l.length).length≠0;rw[Gc];exact B
  obtain⟨a,p,N⟩:=ZdM f;refine⟨a,p,N,?_⟩;have v:(Y3 s c l).log.pcs.map Pce.name=a0++[c]:=by rw[M,z,ae]
  rw[N,map_append] at v;have I:=(List.append_inj' v rfl).2;exact List.head_eq_of_cons_eq I
 ·intro _ p u
  have f:p.name ∈ (Zhd s c).pcs.map Pce.name:=by rw[<-z];exact List.mem_map.2 ⟨p,u,rfl⟩
  exact(Zbz y k p.name).2 (T p.name f)
 ·exact(Zwb h.sz).more zL (by omega)
end Go.Proofs.YtnahjngbneicaaaGreatDoor
