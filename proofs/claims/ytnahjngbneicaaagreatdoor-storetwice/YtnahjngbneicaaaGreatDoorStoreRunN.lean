import Derived.Test.YtnahjngbneicaaaGreatDoorStoreRunM
import Derived.Test.YtnahjngbneicaaaGreatDoorStoreAw
namespace Go.Proofs.YtnahjngbneicaaaGreatDoor
open _root_.Go.Proofs.Tryz
open List (length_append)
set_option maxRecDepth 100000
variable {d:Dk} {B F n:Nat} {b:List UInt8} {x:SDk} {a:List Rec} {s:Sto}
theorem ZqU {n:Int} (h:SzD d F B) (c:look (Zbk d) n=none) (f:b.length<=B):SzD (ZaK d n b).1 (F+1) B:=by
 have a:SzD d (F+1) B:=⟨by have:=h.files;omega,h.bytes⟩
 unfold ZaK;split
 ·exact a
 ·split
  ·exact a
  ·split
   ·exact a
   ·rw[c]
    show SzD { d with files:=ZeR (d.files++[⟨[],0⟩]) d.files.length b,waits:=_,power:=_ } _ _
    refine⟨by show(ZeR (d.files++[⟨[],0⟩]) d.files.length b).length<=_;unfold ZeR;rw[List.length_set];have:=h.files;simp;omega,fun x e=>?_⟩
    have hx':x ∈ ZeR (d.files++[⟨[],0⟩]) d.files.length b:=e;unfold ZeR at hx';rcases List.mem_or_eq_of_mem_set hx' with hx' | rfl
    ·rcases List.mem_append.1 hx' with hx' | hx'
     ·exact h.bytes x hx'
     ·rw[List.mem_singleton.1 hx']
      exact Nat.zero_le _
    ·show((fl (d.files++[⟨[],0⟩]) d.files.length).b++b).length<=B
     rw[Zrq];simpa using f
theorem Zyw {n:Int}:(ZaK d n b).1.power≠0->d.power≠0:=by
 intro h e;rw[ZlY e] at h;exact h e
structure ZcB (x:SDk) (all:List Rec) (n:Nat):Prop where
 ok:OkS x.1
 len:x.1.next=all.length
 recs:x.1.log.recs=all.drop x.1.log.first.toNat
 bs0:x.1.bases.length≠0
 bsn:x.1.bases.length<=n+1
 bas:x.1.log.first<=x.1.base.idx∧x.1.base.idx<=x.1.next
 pcn:x.1.log.pcs.length<=n
 rcn:all.length<=20*n
 nam:x.1.log.pcs.Pairwise (fun p q=>p.name<q.name)
 two:∀ p ∈ x.1.log.pcs,2<=p.name∧p.name % 2=0
 curL:x.1.cur≠0->∃ a p,x.1.log.pcs=a++[p]∧p.name=x.1.cur
 on:x.2.power≠0->∀ p ∈ x.1.log.pcs,p.name ∈ Zak x.2
 okd:OkD x.2
 sz:SzD x.2 n (6200+1300*n)
theorem SzD.more {F' B':Nat} (h:SzD d F B) (b:F<=F') (a:B<=B'):SzD d F' B':=⟨Nat.le_trans h.files b,fun x c=>Nat.le_trans (h.bytes x c) a⟩
theorem ZcB.more (h:ZcB x a n):ZcB x a (n+1):=
 ⟨h.ok,h.len,h.recs,h.bs0,by have:=h.bsn;omega,h.bas,by have:=h.pcn;omega,by have:=h.rcn;omega,h.nam,h.two,h.curL,h.on,h.okd,h.sz.more (by omega) (by omega)⟩
theorem ZoQ (room kind:Int) (c:0<=kind) (g:kind<6):ZcB (ZtK kind,Zmi room) [] 0:=by
 have b:=Zij (d:=Zmi room) c g;rw[Zgl] at b;exact⟨b,rfl,rfl,by show(1:Nat)≠0;decide,Nat.le_refl _,⟨Int.le_refl _,Int.le_refl _⟩,Nat.le_refl _,Nat.le_refl _,List.Pairwise.nil,(fun p a=>by cases a),fun e=>absurd rfl e,(fun _ p a=>by cases a),Zwd room,⟨Nat.zero_le _,(fun x f=>by cases f)⟩⟩
theorem ZcB.head {s':Sto} {d':Dk} {m:List Rec} (h:ZcB (s,d) m n) (f:Kp d d') (b:s'.log=s.log) (g:s'.bases=s.bases) (l:s'.now=s.now) (t:s'.synced=s.synced∨s'.synced=s.next) (q:s'.cur=s.cur∨s'.cur=0):ZcB (s',d') m n:=by
 have j:s'.next=s.next:=by unfold Sto.next;rw[b]
 have u:s'.base=s.base:=by unfold Sto.base;rw[g]
 have c:OkS s:=h.ok
 have v:I64 s.next:=by
  have z:=c.log.top;have y:=c.log.f0;have x:0<=s.next:=by unfold Sto.next Lgb.next;omega
  exact⟨by omega,by unfold Sto.next;omega⟩
 have k:s'.cur≠0->s'.cur=s.cur:=fun a=>q.resolve_right a
 refine⟨⟨by rw[b];exact c.log,by rw[l,j];exact c.nx,by rw[l];exact c.now,fun a=>by rw[b];exact c.cur (by rw[<-k a];exact a),?_,?_⟩,by rw[j];exact h.len,by rw[b];exact h.recs,by rw[g];exact h.bs0,by rw[g];exact h.bsn,by rw[b,u,j];exact h.bas,by rw[b];exact h.pcn,h.rcn,by rw[b];exact h.nam,by rw[b];exact h.two,fun a=>by rw[b,k a];exact h.curL (by rw[<-k a];exact a),fun a p w=>?_,f.ok h.okd,f.sz _ _ h.sz⟩
 ·rcases t with e | e
  ·rw[e];exact c.sy
  ·rw[e];exact v
 ·rcases q with e | e
  ·rw[e];exact c.cu
  ·rw[e];exact⟨by decide,by decide⟩
 ·have i:p ∈ s.log.pcs:=by rw[<-b];exact w
  exact f.nm h.okd p.name (h.two p i).1 (h.two p i).2 (h.on (f.pw a) p i)
theorem Zme (x:SDk):Kp x.2 (Zar x).1.2∧(Zar x).1.1.cur=x.1.cur∧(Zar x).1.1.synced=x.1.synced:=by
 unfold Zar;refine⟨ZnB _,?_,?_⟩
 ·split <;> rfl
 ·split <;> rfl
theorem ZqV (x:SDk):Kp x.2 (ZaJ x).1.2∧(ZaJ x).1.1.cur=x.1.cur∧(ZaJ x).1.1.synced=x.1.synced:=by
 unfold ZaJ;split
 ·exact Zme x
 ·exact⟨Kp.refl _,rfl,rfl⟩
theorem ZqW (x:SDk):Kp x.2 (ZaD x).1.2∧(ZaD x).1.1.cur=x.1.cur∧(ZaD x).1.1.synced=x.1.synced:=⟨Zym _ _,rfl,rfl⟩
theorem ZBp {gs:List (SDk->SDk × Int)} (h:∀ g ∈ gs,∀ x,Kp x.2 (g x).1.2∧(g x).1.1.cur=x.1.cur∧(g x).1.1.synced=x.1.synced):∀ x,Kp x.2 (Zbj gs x).1.2∧(Zbj gs x).1.1.cur=x.1.cur∧(Zbj gs x).1.1.synced=x.1.synced:=by
 induction gs with
 | nil=>exact fun x=>⟨Kp.refl _,rfl,rfl⟩
 | cons g gs d=>
  intro x;have a:=h g List.mem_cons_self x;unfold Zbj;split
  ·have b:=d (fun g' c=>h g' (List.mem_cons_of_mem _ c)) (g x).1
   exact⟨a.1.trans b.1,b.2.1.trans a.2.1,b.2.2.trans a.2.2⟩
  ·exact a
theorem ZAb (x:SDk):Kp x.2 (ZcE x).1.2∧(ZcE x).1.1.cur=x.1.cur∧((ZcE x).1.1.synced=x.1.synced∨(ZcE x).1.1.synced=x.1.next):=by
 have h:=ZBp (gs:=[ZaD,ZaJ]) (fun g hg=>by
  rcases List.mem_cons.1 hg with rfl | hg
  ·exact ZqW
  ·rw[List.mem_singleton.1 hg];exact ZqV) x
 have a:(Zbj [ZaD,ZaJ] x).1.1.next=x.1.next:=by
  rcases Zor x with e | e
  ·rw[e]
  ·rw[e];rfl
 unfold ZcE;split
 ·exact⟨Kp.refl _,rfl,.inr rfl⟩
 ·split
  ·exact⟨h.1,h.2.1,.inr a⟩
  ·exact⟨h.1,h.2.1,.inl h.2.2⟩
theorem ZcB.sync {c:List Rec} (h:ZcB x c n):ZcB (ZcE x).1 c n:=by
 obtain⟨s,d⟩:=x;have b:=ZAb (s,d);have a:=ZlR (s,d);exact ZcB.head (s':=(ZcE (s,d)).1.1) (d':=(ZcE (s,d)).1.2) h b.1 a.2.2 a.2.1 a.1 b.2.2 (.inl b.2.1)
theorem ZcB.rotate {b:List Rec} (h:ZcB x b n):ZcB (ZeK x).1 b n:=by
 have a:=h.sync;unfold ZeK;split
 ·generalize (ZcE x).1=y at a
  obtain⟨s,d⟩:=y;exact a.head (s':={ s with cur:=0 }) (Kp.refl d) rfl rfl rfl (.inl rfl) (.inr rfl)
 ·exact a
theorem ZcB.cut (h:ZcB (s,d) a n) (m:Int):ZcB (s,ZyD d m) a n:=h.head (ZBZ d m) rfl rfl rfl (.inl rfl) (.inl rfl)
theorem ZvT {l:List Rec} (h:ZbE l) (b:l.length<=20) (g:0<=s.now.st.kind∧s.now.st.kind<6) (i:s.next<4611686018427387904):(Zew s l).length<=1300:=by
 have j:=ZtL h;have c:=Zcc (d:=ZdF l) (by omega)
 unfold Zew;split
 ·rw[length_append]
  have a:=ZhV (v:=3) (k:=s.now.st.kind.toNat) (f:=s.next.toNat) (by decide) (by omega) (by omega)
  have e:=Zcc (d:=ZbC 3 s.now.st.kind.toNat s.next.toNat) (by omega)
  omega
 ·omega
def Zka (s:Sto) (name:Int):Lgb:=if s.cur=0 then s.log.start name s.next else s.log
theorem ZnF {l:List Pce}:l.Pairwise (fun p q=>p.name<q.name)↔(l.map Pce.name).Pairwise (·<·):=by rw[List.pairwise_map]
theorem ZcB.append {f:List Rec} (h:ZcB x f n) (l:List Rec) (hl:l.length<=20):ZcB (Zbz l x).1 (if(Zbz l x).2=0 then f++l else f) (n+1):=by
 obtain⟨s,d⟩:=x;have j:OkS s:=h.ok;have z:OkD d:=h.okd;unfold Zbz;by_cases i:ZbE l
 case neg=>
  rw[if_pos i,if_neg (show ¬ (1:Int)=0 by decide)]
  exact h.more
 rw[if_neg (fun B=>B i)]
 by_cases G:(l.headD Zaj).idx=s.next
 case neg=>
  rw[if_pos G,if_neg (show ¬ (15:Int)=0 by decide)]
  exact h.more
 rw[if_neg (fun B=>B G)]
 dsimp only
 by_cases m:(ZaK d (ZfL s d) (Zew s l)).2=0
 case neg=>
  rw[if_neg m,if_neg m,ZnA m];exact h.more
 rw[if_pos m,if_pos rfl];have af:=Zyl m;have al:l≠[]:=fun e=>by rw[e] at i;exact absurd i.1 (by decide)
 have k:=j.log;have ao:=k.f0;have aa:=k.top;have ak:0<=s.next:=by unfold Sto.next Lgb.next;omega
 have ab:s.next<=4611686018427387904:=aa;have aq:s.log.next=s.next:=rfl;have C:Zbb s.next l:=by rw[<-G];exact i.2.2.2
 have W:=ZiB C i.2.2.1 al;have an:1<=l.length:=i.1;have P:(ZaQ s.now l).2=0:=ZlZ l s.now (by rw[j.nx];exact C) i.2.2.1
 obtain⟨c,I⟩:∃ c,c=ZfL s d:=⟨_,rfl⟩;rw[<-I] at m ⊢
 have M:=ZvT (s:=s) i hl ⟨j.now.1.2.2.2.1,j.now.1.2.2.2.2.1⟩ (by omega)
 -- the log ahead of the records
 have ae:(Zka s c).pcs.length≠0∧(Zka s c).next=s.next∧OkG (Zka s c)∧(Zka s c).recs=s.log.recs∧(Zka s c).first<=s.base.idx∧((Zka s c).first.toNat<=f.length)∧s.log.recs=f.drop (Zka s c).first.toNat∧(Zka s c).pcs.length<=n+1∧
  ((Zka s c).pcs.map Pce.name).Pairwise (·<·)∧(∀ q ∈ (Zka s c).pcs.map Pce.name,2<=q∧q % 2=0)∧(∃ a,(Zka s c).pcs.map Pce.name=a++[c])∧I64 c∧(∀ q ∈ (Zka s c).pcs.map Pce.name,q=c∨q ∈ Zak d):=by
  have O:s.next=f.length:=h.len;have L:s.log.recs=f.drop s.log.first.toNat:=h.recs
  have ac:s.log.first.toNat<=f.length:=by
   have g:s.next=s.log.first+s.log.recs.length:=rfl;omega
  have w:∀ q ∈ s.log.pcs.map Pce.name,q ∈ Zak d∧2<=q∧q % 2=0:=fun q hq=>by
   obtain⟨p,v,rfl⟩:=List.mem_map.1 hq;exact⟨h.on af p v,h.two p v⟩
  have Q:=ZnF.1 h.nam;have am:s.log.pcs.length<=n:=h.pcn;unfold Zka;by_cases u:s.cur=0
  ·have t:c=Zbf d 2:=by rw[I];unfold ZfL;rw[if_pos u]
   have ap:=Zik (d:=d) 2;rw[if_pos u]
   have hm:(s.log.start c s.next).pcs.map Pce.name=s.log.pcs.map Pce.name++[c]:=by
    show(s.log.pcs++[_]).map Pce.name=_;rw[List.map_append];rfl
   rw[hm];refine⟨by show(s.log.pcs++[_]).length≠0;simp,s.log.start_next c s.next k.empty (.inr rfl),k.start c s.next ak ab (.inr rfl),rfl,?_,?_,?_,by show(s.log.pcs++[_]).length<=_;simp;omega,?_,?_,⟨_,rfl⟩,?_,?_⟩
   ·show(if s.log.pcs.length=0 then s.next else s.log.first)<=_
    split
    ·rename_i D
     have g:=k.empty D;have y:s.next=s.log.first+s.log.recs.length:=rfl;rw[g] at y;have K:s.log.first<=s.base.idx:=h.bas.1;simp at y;omega
    ·exact h.bas.1
   ·show(if s.log.pcs.length=0 then s.next else s.log.first).toNat<=_
    split <;> omega
   ·show _=f.drop (if s.log.pcs.length=0 then s.next else s.log.first).toNat
    split
    ·rename_i D
     rw[k.empty D,O];simp
    ·exact L
   ·rw[List.pairwise_append]
    refine⟨Q,List.pairwise_singleton _ _,fun a ha b M=>?_⟩
    rw[List.mem_singleton.1 M,t];have g:=w a ha;exact ZsL z 2 a g.1 g.2.1 (by have:=g.2.2;omega)
   ·intro q hq
    rcases List.mem_append.1 hq with hq | hq
    ·exact(w q hq).2
    ·rw[List.mem_singleton.1 hq,t]
     omega
   ·rw[t]
    exact Zgf z 2 (by decide) (by decide)
   ·intro q hq
    rcases List.mem_append.1 hq with hq | hq
    ·exact .inr (w q hq).1
    ·exact .inl (List.mem_singleton.1 hq)
  ·have t:c=s.cur:=by rw[I];unfold ZfL;rw[if_neg u]
   rw[if_neg u];obtain⟨a,p,ai,ad⟩:=h.curL u;have S:s.log.pcs=a++[p]:=ai;refine⟨j.cur u,rfl,k,rfl,h.bas.1,ac,L,by omega,Q,fun q hq=>(w q hq).2,⟨a.map Pce.name,?_⟩,by rw[t];exact j.cu,fun q hq=>.inr (w q hq).1⟩
   rw[S,List.map_append,t,<-ad];rfl
 obtain⟨E,F,g3,Z,X,Y,U,g8,g9,R,⟨V,T⟩,ag,aj⟩:=ae;have N:(Zcf s c l).log=(Zka s c).add l:=rfl
 have H:(Zcf s c l).next=s.next+l.length:=by
  show((Zka s c).add l).next=_;rw[Lgb.add_next,F]
 have A:((Zka s c).add l).pcs.map Pce.name=(Zka s c).pcs.map Pce.name:=ZgE _ _;have ah:=ZgT l s.now P;refine⟨⟨?_,?_,?_,?_,j.sy,ag⟩,?_,?_,h.bs0,by have:=h.bsn;exact Nat.le_trans this (by omega),⟨X,?_⟩,?_,?_,?_,?_,?_,?_,z.append _ _,?_⟩
 ·exact g3.add l E i.2.2.1 (by rw[F];exact C) (by rw[F];exact W)
 ·rw[H]
  show(ZaQ s.now l).1.idx=_;rw[ah.2,j.nx]
 ·exact j.now.take P
 ·intro _
  show((Zka s c).add l).pcs.length≠0;show(ZbY (Zka s c).pcs l.length).length≠0;rw[ZcT];exact E
 ·rw[H,length_append]
  have O:s.next=f.length:=h.len;omega
 ·show(Zka s c).recs++l=(f++l).drop (Zka s c).first.toNat
  rw[Z,U,List.drop_append_of_le_length Y]
 ·rw[H]
  have g:s.base.idx<=s.next:=h.bas.2;show s.base.idx<=_;omega
 ·show(ZbY (Zka s c).pcs l.length).length<=_
  rw[ZcT];exact g8
 ·rw[length_append]
  have:=h.rcn;omega
 ·exact ZnF.2 (by rw[N,A];exact g9)
 ·intro p v
  exact R p.name (by rw[<-A];exact List.mem_map.2 ⟨p,v,rfl⟩)
 ·intro _
  have g:(Zcf s c l).log.pcs.length≠0:=by
   show(ZbY (Zka s c).pcs l.length).length≠0;rw[ZcT];exact E
  obtain⟨a,p,J⟩:=ZnT g;refine⟨a,p,J,?_⟩;have y:(Zcf s c l).log.pcs.map Pce.name=V++[c]:=by rw[N,A,T]
  rw[J,List.map_append] at y;have K:=(List.append_inj' y rfl).2;exact List.head_eq_of_cons_eq K
 ·intro _ p v
  have g:p.name ∈ (Zka s c).pcs.map Pce.name:=by rw[<-A];exact List.mem_map.2 ⟨p,v,rfl⟩
  exact(Zjz z m p.name).2 (aj p.name g)
 ·exact(Zyp h.sz).more zL (by omega)
end Go.Proofs.YtnahjngbneicaaaGreatDoor
