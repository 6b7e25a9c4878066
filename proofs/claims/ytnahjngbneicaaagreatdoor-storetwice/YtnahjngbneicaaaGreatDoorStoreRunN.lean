import Derived.Test.YtnahjngbneicaaaGreatDoorStoreRunM
import Derived.Test.YtnahjngbneicaaaGreatDoorStoreAw
namespace Go.Proofs.YtnahjngbneicaaaGreatDoor
open _root_.Go.Proofs.Tryz
open List (length_append)
set_option maxRecDepth 100000
theorem ZqU {d:Dk} {n:Int} {b:List UInt8} {F B:Nat} (h:SzD d F B) (f:look (Zbk d) n=none) (e:b.length<=B):SzD (ZaK d n b).1 (F+1) B:=by
 have a:SzD d (F+1) B:=⟨by have:=h.files;omega,h.bytes⟩
 unfold ZaK;split
 ·exact a
 ·split
  ·exact a
  ·split
   ·exact a
   ·rw[f]
    show SzD { d with files:=ZeR (d.files++[⟨[],0⟩]) d.files.length b,waits:=_,power:=_ } _ _
    refine⟨by show(ZeR (d.files++[⟨[],0⟩]) d.files.length b).length<=_;unfold ZeR;rw[List.length_set];have:=h.files;simp;omega,fun x c=>?_⟩
    have hx':x ∈ ZeR (d.files++[⟨[],0⟩]) d.files.length b:=c;unfold ZeR at hx';rcases List.mem_or_eq_of_mem_set hx' with hx' | rfl
    ·rcases List.mem_append.1 hx' with hx' | hx'
     ·exact h.bytes x hx'
     ·rw[List.mem_singleton.1 hx']
      exact Nat.zero_le _
    ·show((fl (d.files++[⟨[],0⟩]) d.files.length).b++b).length<=B
     rw[Zrq];simpa using e
theorem Zyw {d:Dk} {n:Int} {b:List UInt8}:(ZaK d n b).1.power≠0->d.power≠0:=by
 intro h e;rw[ZlY e] at h;exact h e
structure ZcB (x:SDk) (all:List Rec) (n:Nat):Prop where
 ok:OkS x.1
 len:x.1.next=all.length
 recs:x.1.log.recs=all.drop x.1.log.first.toNat
 bs0:x.1.bases.length≠0
 bsn:x.1.bases.length<=n+1
 bas:x.1.log.first<=x.1.base.idx∧x.1.base.idx<=x.1.next
 pcn:x.1.log.pcs.length<=n
 rcn:all.length<=20*n
 nam:x.1.log.pcs.Pairwise (fun p q=>p.name<q.name)
 two:∀ p ∈ x.1.log.pcs,2<=p.name∧p.name % 2=0
 curL:x.1.cur≠0->∃ a p,x.1.log.pcs=a++[p]∧p.name=x.1.cur
 on:x.2.power≠0->∀ p ∈ x.1.log.pcs,p.name ∈ Zak x.2
 okd:OkD x.2
 sz:SzD x.2 n (6200+1300*n)
theorem SzD.more {d:Dk} {F B F' B':Nat} (h:SzD d F B) (b:F<=F') (a:B<=B'):SzD d F' B':=⟨Nat.le_trans h.files b,fun x c=>Nat.le_trans (h.bytes x c) a⟩
theorem ZcB.more {x:SDk} {a:List Rec} {n:Nat} (h:ZcB x a n):ZcB x a (n+1):=
 ⟨h.ok,h.len,h.recs,h.bs0,by have:=h.bsn;omega,h.bas,by have:=h.pcn;omega,by have:=h.rcn;omega,h.nam,h.two,h.curL,h.on,h.okd,h.sz.more (by omega) (by omega)⟩
theorem ZoQ (room kind:Int) (c:0<=kind) (e:kind<6):ZcB (ZtK kind,Zmi room) [] 0:=by
 have b:=Zij (d:=Zmi room) c e;rw[Zgl] at b;exact⟨b,rfl,rfl,by show(1:Nat)≠0;decide,Nat.le_refl _,⟨Int.le_refl _,Int.le_refl _⟩,Nat.le_refl _,Nat.le_refl _,List.Pairwise.nil,(fun p a=>by cases a),fun g=>absurd rfl g,(fun _ p a=>by cases a),Zwd room,⟨Nat.zero_le _,(fun x f=>by cases f)⟩⟩
theorem ZcB.head {s s':Sto} {d d':Dk} {q:List Rec} {n:Nat} (h:ZcB (s,d) q n) (f:Kp d d') (b:s'.log=s.log) (i:s'.bases=s.bases) (l:s'.now=s.now) (u:s'.synced=s.synced∨s'.synced=s.next) (m:s'.cur=s.cur∨s'.cur=0):ZcB (s',d') q n:=by
 have j:s'.next=s.next:=by unfold Sto.next;rw[b]
 have t:s'.base=s.base:=by unfold Sto.base;rw[i]
 have c:OkS s:=h.ok
 have v:I64 s.next:=by
  have x:=c.log.top;have z:=c.log.f0;have y:0<=s.next:=by unfold Sto.next Lgb.next;omega
  exact⟨by omega,by unfold Sto.next;omega⟩
 have k:s'.cur≠0->s'.cur=s.cur:=fun a=>m.resolve_right a
 refine⟨⟨by rw[b];exact c.log,by rw[l,j];exact c.nx,by rw[l];exact c.now,fun a=>by rw[b];exact c.cur (by rw[<-k a];exact a),?_,?_⟩,by rw[j];exact h.len,by rw[b];exact h.recs,by rw[i];exact h.bs0,by rw[i];exact h.bsn,by rw[b,t,j];exact h.bas,by rw[b];exact h.pcn,h.rcn,by rw[b];exact h.nam,by rw[b];exact h.two,fun a=>by rw[b,k a];exact h.curL (by rw[<-k a];exact a),fun a p w=>?_,f.ok h.okd,f.sz _ _ h.sz⟩
 ·rcases u with e | e
  ·rw[e];exact c.sy
  ·rw[e];exact v
 ·rcases m with e | e
  ·rw[e];exact c.cu
  ·rw[e];exact⟨by decide,by decide⟩
 ·have g:p ∈ s.log.pcs:=by rw[<-b];exact w
  exact f.nm h.okd p.name (h.two p g).1 (h.two p g).2 (h.on (f.pw a) p g)
theorem Zme (x:SDk):Kp x.2 (Zar x).1.2∧(Zar x).1.1.cur=x.1.cur∧(Zar x).1.1.synced=x.1.synced:=by
 unfold Zar;refine⟨ZnB _,?_,?_⟩
 ·split <;> rfl
 ·split <;> rfl
theorem ZqV (x:SDk):Kp x.2 (ZaJ x).1.2∧(ZaJ x).1.1.cur=x.1.cur∧(ZaJ x).1.1.synced=x.1.synced:=by
 unfold ZaJ;split
 ·exact Zme x
 ·exact⟨Kp.refl _,rfl,rfl⟩
theorem ZqW (x:SDk):Kp x.2 (ZaD x).1.2∧(ZaD x).1.1.cur=x.1.cur∧(ZaD x).1.1.synced=x.1.synced:=⟨Zym _ _,rfl,rfl⟩
theorem ZBp {gs:List (SDk->SDk × Int)} (h:∀ g ∈ gs,∀ x,Kp x.2 (g x).1.2∧(g x).1.1.cur=x.1.cur∧(g x).1.1.synced=x.1.synced):∀ x,Kp x.2 (Zbj gs x).1.2∧(Zbj gs x).1.1.cur=x.1.cur∧(Zbj gs x).1.1.synced=x.1.synced:=by
 induction gs with
 | nil=>exact fun x=>⟨Kp.refl _,rfl,rfl⟩
 | cons g gs c=>
  intro x;have a:=h g List.mem_cons_self x;unfold Zbj;split
  ·have b:=c (fun g' d=>h g' (List.mem_cons_of_mem _ d)) (g x).1
   exact⟨a.1.trans b.1,b.2.1.trans a.2.1,b.2.2.trans a.2.2⟩
  ·exact a
theorem ZAb (x:SDk):Kp x.2 (ZcE x).1.2∧(ZcE x).1.1.cur=x.1.cur∧((ZcE x).1.1.synced=x.1.synced∨(ZcE x).1.1.synced=x.1.next):=by
 have h:=ZBp (gs:=[ZaD,ZaJ]) (fun g hg=>by
  rcases List.mem_cons.1 hg with rfl | hg
  ·exact ZqW
  ·rw[List.mem_singleton.1 hg];exact ZqV) x
 have a:(Zbj [ZaD,ZaJ] x).1.1.next=x.1.next:=by
  rcases Zor x with e | e
  ·rw[e]
  ·rw[e];rfl
 unfold ZcE;split
 ·exact⟨Kp.refl _,rfl,.inr rfl⟩
 ·split
  ·exact⟨h.1,h.2.1,.inr a⟩
  ·exact⟨h.1,h.2.1,.inl h.2.2⟩
theorem ZcB.sync {x:SDk} {c:List Rec} {n:Nat} (h:ZcB x c n):ZcB (ZcE x).1 c n:=by
 obtain⟨s,d⟩:=x;have b:=ZAb (s,d);have a:=ZlR (s,d);exact ZcB.head (s':=(ZcE (s,d)).1.1) (d':=(ZcE (s,d)).1.2) h b.1 a.2.2 a.2.1 a.1 b.2.2 (.inl b.2.1)
theorem ZcB.rotate {x:SDk} {b:List Rec} {n:Nat} (h:ZcB x b n):ZcB (ZeK x).1 b n:=by
 have a:=h.sync;unfold ZeK;split
 ·generalize (ZcE x).1=y at a
  obtain⟨s,d⟩:=y;exact a.head (s':={ s with cur:=0 }) (Kp.refl d) rfl rfl rfl (.inl rfl) (.inr rfl)
 ·exact a
theorem ZcB.cut {s:Sto} {d:Dk} {a:List Rec} {n:Nat} (h:ZcB (s,d) a n) (m:Int):ZcB (s,ZyD d m) a n:=h.head (ZBZ d m) rfl rfl rfl (.inl rfl) (.inl rfl)
theorem ZvT {s:Sto} {l:List Rec} (h:ZbE l) (j:l.length<=20) (c:0<=s.now.st.kind∧s.now.st.kind<6) (g:s.next<4611686018427387904):(Zew s l).length<=1300:=by
 have e:=ZtL h;have a:=Zcc (d:=ZdF l) (by omega)
 unfold Zew;split
 ·rw[length_append]
  have b:=ZhV (v:=3) (k:=s.now.st.kind.toNat) (f:=s.next.toNat) (by decide) (by omega) (by omega)
  have i:=Zcc (d:=ZbC 3 s.now.st.kind.toNat s.next.toNat) (by omega)
  omega
 ·omega
def Zka (s:Sto) (name:Int):Lgb:=if s.cur=0 then s.log.start name s.next else s.log
theorem ZnF {l:List Pce}:l.Pairwise (fun p q=>p.name<q.name)↔(l.map Pce.name).Pairwise (·<·):=by rw[List.pairwise_map]
theorem ZcB.append {x:SDk} {f:List Rec} {n:Nat} (h:ZcB x f n) (l:List Rec) (hl:l.length<=20):ZcB (Zbz l x).1 (if(Zbz l x).2=0 then f++l else f) (n+1):=by
 obtain⟨s,d⟩:=x;have j:OkS s:=h.ok;have z:OkD d:=h.okd;unfold Zbz;by_cases i:ZbE l
 case neg=>
  rw[if_pos i,if_neg (show ¬ (1:Int)=0 by decide)]
  exact h.more
 rw[if_neg (fun E=>E i)]
 by_cases B:(l.headD Zaj).idx=s.next
 case neg=>
  rw[if_pos B,if_neg (show ¬ (15:Int)=0 by decide)]
  exact h.more
 rw[if_neg (fun E=>E B)]
 dsimp only
 by_cases k:(ZaK d (ZfL s d) (Zew s l)).2=0
 case neg=>
  rw[if_neg k,if_neg k,ZnA k];exact h.more
 rw[if_pos k,if_pos rfl];have ad:=Zyl k;have ab:l≠[]:=fun e=>by rw[e] at i;exact absurd i.1 (by decide)
 have m:=j.log;have ak:=m.f0;have V:=m.top;have Y:0<=s.next:=by unfold Sto.next Lgb.next;omega
 have Z:s.next<=4611686018427387904:=V;have ao:s.log.next=s.next:=rfl;have I:Zbb s.next l:=by rw[<-B];exact i.2.2.2
 have af:=ZiB I i.2.2.1 ab;have an:1<=l.length:=i.1;have M:(ZaQ s.now l).2=0:=ZlZ l s.now (by rw[j.nx];exact I) i.2.2.1
 obtain⟨c,H⟩:∃ c,c=ZfL s d:=⟨_,rfl⟩;rw[<-H] at k ⊢
 have J:=ZvT (s:=s) i hl ⟨j.now.1.2.2.2.1,j.now.1.2.2.2.2.1⟩ (by omega)
 -- the log ahead of the records
 have aj:(Zka s c).pcs.length≠0∧(Zka s c).next=s.next∧OkG (Zka s c)∧(Zka s c).recs=s.log.recs∧(Zka s c).first<=s.base.idx∧((Zka s c).first.toNat<=f.length)∧s.log.recs=f.drop (Zka s c).first.toNat∧(Zka s c).pcs.length<=n+1∧
  ((Zka s c).pcs.map Pce.name).Pairwise (·<·)∧(∀ q ∈ (Zka s c).pcs.map Pce.name,2<=q∧q % 2=0)∧(∃ a,(Zka s c).pcs.map Pce.name=a++[c])∧I64 c∧(∀ q ∈ (Zka s c).pcs.map Pce.name,q=c∨q ∈ Zak d):=by
  have L:s.next=f.length:=h.len;have O:s.log.recs=f.drop s.log.first.toNat:=h.recs
  have aa:s.log.first.toNat<=f.length:=by
   have g:s.next=s.log.first+s.log.recs.length:=rfl;omega
  have w:∀ q ∈ s.log.pcs.map Pce.name,q ∈ Zak d∧2<=q∧q % 2=0:=fun q hq=>by
   obtain⟨p,v,rfl⟩:=List.mem_map.1 hq;exact⟨h.on ad p v,h.two p v⟩
  have Q:=ZnF.1 h.nam;have al:s.log.pcs.length<=n:=h.pcn;unfold Zka;by_cases t:s.cur=0
  ·have u:c=Zbf d 2:=by rw[H];unfold ZfL;rw[if_pos t]
   have am:=Zik (d:=d) 2;rw[if_pos t]
   have T:(s.log.start c s.next).pcs.map Pce.name=s.log.pcs.map Pce.name++[c]:=by
    show(s.log.pcs++[_]).map Pce.name=_;rw[List.map_append];rfl
   rw[T];refine⟨by show(s.log.pcs++[_]).length≠0;simp,s.log.start_next c s.next m.empty (.inr rfl),m.start c s.next Y Z (.inr rfl),rfl,?_,?_,?_,by show(s.log.pcs++[_]).length<=_;simp;omega,?_,?_,⟨_,rfl⟩,?_,?_⟩
   ·show(if s.log.pcs.length=0 then s.next else s.log.first)<=_
    split
    ·rename_i G
     have g:=m.empty G;have y:s.next=s.log.first+s.log.recs.length:=rfl;rw[g] at y;have N:s.log.first<=s.base.idx:=h.bas.1;simp at y;omega
    ·exact h.bas.1
   ·show(if s.log.pcs.length=0 then s.next else s.log.first).toNat<=_
    split <;> omega
   ·show _=f.drop (if s.log.pcs.length=0 then s.next else s.log.first).toNat
    split
    ·rename_i G
     rw[m.empty G,L];simp
    ·exact O
   ·rw[List.pairwise_append]
    refine⟨Q,List.pairwise_singleton _ _,fun a ha b J=>?_⟩
    rw[List.mem_singleton.1 J,u];have g:=w a ha;exact ZsL z 2 a g.1 g.2.1 (by have:=g.2.2;omega)
   ·intro q hq
    rcases List.mem_append.1 hq with hq | hq
    ·exact(w q hq).2
    ·rw[List.mem_singleton.1 hq,u]
     omega
   ·rw[u]
    exact Zgf z 2 (by decide) (by decide)
   ·intro q hq
    rcases List.mem_append.1 hq with hq | hq
    ·exact .inr (w q hq).1
    ·exact .inl (List.mem_singleton.1 hq)
  ·have u:c=s.cur:=by rw[H];unfold ZfL;rw[if_neg t]
   rw[if_neg t];obtain⟨a,p,ag,ac⟩:=h.curL t;have R:s.log.pcs=a++[p]:=ag;refine⟨j.cur t,rfl,m,rfl,h.bas.1,aa,O,by omega,Q,fun q hq=>(w q hq).2,⟨a.map Pce.name,?_⟩,by rw[u];exact j.cu,fun q hq=>.inr (w q hq).1⟩
   rw[R,List.map_append,u,<-ac];rfl
 obtain⟨F,D,g3,g4,S,g6,U,g8,g9,ah,⟨a0,X⟩,W,ai⟩:=aj;have P:(Zcf s c l).log=(Zka s c).add l:=rfl
 have C:(Zcf s c l).next=s.next+l.length:=by
  show((Zka s c).add l).next=_;rw[Lgb.add_next,D]
 have A:((Zka s c).add l).pcs.map Pce.name=(Zka s c).pcs.map Pce.name:=ZgE _ _;have ae:=ZgT l s.now M;refine⟨⟨?_,?_,?_,?_,j.sy,W⟩,?_,?_,h.bs0,by have:=h.bsn;exact Nat.le_trans this (by omega),⟨S,?_⟩,?_,?_,?_,?_,?_,?_,z.append _ _,?_⟩
 ·exact g3.add l F i.2.2.1 (by rw[D];exact I) (by rw[D];exact af)
 ·rw[C]
  show(ZaQ s.now l).1.idx=_;rw[ae.2,j.nx]
 ·exact j.now.take M
 ·intro _
  show((Zka s c).add l).pcs.length≠0;show(ZbY (Zka s c).pcs l.length).length≠0;rw[ZcT];exact F
 ·rw[C,length_append]
  have L:s.next=f.length:=h.len;omega
 ·show(Zka s c).recs++l=(f++l).drop (Zka s c).first.toNat
  rw[g4,U,List.drop_append_of_le_length g6]
 ·rw[C]
  have g:s.base.idx<=s.next:=h.bas.2;show s.base.idx<=_;omega
 ·show(ZbY (Zka s c).pcs l.length).length<=_
  rw[ZcT];exact g8
 ·rw[length_append]
  have:=h.rcn;omega
 ·exact ZnF.2 (by rw[P,A];exact g9)
 ·intro p v
  exact ah p.name (by rw[<-A];exact List.mem_map.2 ⟨p,v,rfl⟩)
 ·intro _
  have g:(Zcf s c l).log.pcs.length≠0:=by
   show(ZbY (Zka s c).pcs l.length).length≠0;rw[ZcT];exact F
  obtain⟨a,p,K⟩:=ZnT g;refine⟨a,p,K,?_⟩;have y:(Zcf s c l).log.pcs.map Pce.name=a0++[c]:=by rw[P,A,X]
  rw[K,List.map_append] at y;have N:=(List.append_inj' y rfl).2;exact List.head_eq_of_cons_eq N
 ·intro _ p v
  have g:p.name ∈ (Zka s c).pcs.map Pce.name:=by rw[<-A];exact List.mem_map.2 ⟨p,v,rfl⟩
  exact(Zjz z k p.name).2 (ai p.name g)
 ·exact(Zyp h.sz).more zL (by omega)
end Go.Proofs.YtnahjngbneicaaaGreatDoor
