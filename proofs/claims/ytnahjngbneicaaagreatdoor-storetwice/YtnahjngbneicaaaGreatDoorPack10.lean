import Derived.Test.YtnahjngbneicaaaGreatDoorPack9
namespace Go.Proofs.YtnahjngbneicaaaGreatDoor
open _root_.Go.Proofs.Tryz
open List (drop_drop drop_left getElem_mem length_append length_cons length_drop set_cons_succ set_cons_zero take_add_one take_length)
set_option maxHeartbeats 4000000
set_option maxRecDepth 100000
open Go.RowKit
variable {w w':World} {C N R T f k n p pd q:Nat} {v:Value} {K:Nat->Prop} {s:Sto} {d:Dk} {l:List Rec} {x:Int} {b:List UInt8} {L:List (List UInt8)}
theorem Zlg {B B':Nat} {e:TypeId} {xs:List Value} (h:w.ownsRow B e k v n xs) (c:Below B' w w') (j:w.heap.size<=B'):w'.ownsRow B e k v n xs:=by
 obtain⟨f,a⟩:=h;refine⟨f,?_⟩;rcases a with a | ⟨g,cap,cur,d,i,b,r⟩
 ·exact .inl a
 ·have l:g<w.heap.size:=(Array.getElem?_eq_some_iff.1 b).1
  exact .inr ⟨g,cap,cur,d,i,by rw[c.block g (by omega)];exact b,r⟩
theorem Zlh (P:List (List UInt8)) (q:Nat) (a:q<P.length):Qf (P.take (q+1))=Qf (P.take q)++Qe (P.getD q []):=by
 have b:P.take (q+1)=P.take q++[P.getD q []]:=by
  rw[take_add_one,List.getElem?_eq_getElem a];simp[List.getD,a]
 rw[b,ZcC,X4];simp[Qf]
theorem Zcr (P:List (List UInt8)) (q:Nat):(Qf (P.take q)).length<=(Qf P).length:=by
 have h:Qf P=Qf (P.take q)++Qf (P.drop q):=by rw[<-ZcC,List.take_append_drop]
 rw[h,length_append];omega
theorem ZoM (s:Qv):ZaV s=Zfe s.idx.toNat (Xt s)::Xu (Xt s):=rfl
theorem Zus (s:Qv):Xt s≠[]:=by
 unfold Xt;intro h;have a:=(List.append_eq_nil_iff.1 h).1;have b:=congrArg List.length a;have:=Zej (Zgz s.st).length;rw[List.length_nil] at b;omega
theorem ZoN (v:Value) (s:Qv) (w:World) (hs:SnV w v s):
 Calls prog 56 #[v] w fun e w'=>Zqi w s e w':=by
 have ag:=ZZ hs;obtain⟨vl,vt,rfl,hl,hk,he,ht,hi⟩:=hs;obtain⟨la,lc,bd,-⟩:=id hl;obtain⟨ta,tc,a9⟩:=ht.shape;subst bd a9;have E:=ZZ (fun W (h:Below w.heap.size w W)=>Zqh _ s W (ag.o.below h zL))
 obtain⟨M,C⟩:∃ M,M=w.alloc (.cells #[.int .i64 s.idx,.int .i64 s.st.kind,.slice la s.st.L.length lc,.bool s.st.shut,.int .i64 s.st.eng,.slice ta s.tab.length tc] 41):=⟨_,rfl⟩;have l:Hid (Below w.heap.size w M):=ZZ (by rw[C];exact(Below.refl _ _).alloc zL _)
 have f:Hid (Bn M w.heap.size #[.int .i64 s.idx,.int .i64 s.st.kind,.slice la s.st.L.length lc,.bool s.st.shut,.int .i64 s.st.eng,.slice ta s.tab.length tc]):=ZZ (by rw[C];exact heap_alloc_new w _)
 obtain⟨H,-⟩:=f.o.cell 0;obtain⟨p1,-⟩:=f.o.cell 1;obtain⟨p2,-⟩:=f.o.cell 2;obtain⟨p3,-⟩:=f.o.cell 3;obtain⟨Y,-⟩:=f.o.cell 4;obtain⟨V,-⟩:=f.o.cell 5;unfold Zqi;clear hl hk he ht hi;by_cases d:Zdk s
 case neg=>
  rw[if_neg d,if_neg d];rw[decide_eq_false d] at E;clear d
  go_enter func56,ntmps56
  go_upto_region 1 with fail
  rw[<-C];clear C
  go_wp2_with fail
  refine(E.o _ l.o).mono ?_;rintro x W1 ⟨rfl,B⟩;have u:=ZZ (l.o.trans (B.mono l.o.size));clear B;go_wp2;go_ret2;exact⟨_,rfl,Own.nil _ _,u.o⟩
 rw[if_pos d,if_pos d];rw[decide_eq_true d] at E;have aW:=ZZ (fun W (h:Below w.heap.size w W)=>ZoL _ s W (ag.o.below h zL) d)
 have a5:=ZbM d;have aE:=d.1;have ar:=ZZ (fun v1 W h=>Zjg s.idx v1 (Xt s) W h)
 have P:=ZZ (fun W=>Zwm s.idx ((Xt s).length:Int) (Q2 0 (Xt s)) W aE ⟨by omega,by omega⟩ (ZpM _))
 rw[Int.toNat_natCast,Zwl] at P;have aD:=ZZ (fun v1 W h=>ZjU v1 (Xt s) W h (by omega))
 have J:Hid (ZaV s=Zfe s.idx.toNat (Xt s)::Xu (Xt s)):=ZZ (ZoM s);have ak:Hid (∀ x ∈ ZaV s,x.length<=1048576):=ZZ (ZqR d);have aj:Hid ((Qf (ZaV s)).length<=80000):=ZZ (Zwn d);have aJ:Hid (Zvo s=Qf (ZaV s)):=ZZ rfl;rw[aJ.o]
 have aw:Hid (0<(Xu (Xt s)).length∧(Xu (Xt s)).length<=5000):=ZZ (by
  constructor
  ·rw[Y7 (Zus s)]
   simp
  ·have h1:=Zcr (ZaV s) (ZaV s).length
   have h2:∀ (L:List (List UInt8)),(∀ x ∈ L,1<=x.length)->L.length<=L.flatten.length:=fun L hL=>by
    induction L with
    | nil=>simp
    | cons x t ih=>
     have S:=hL x (by simp)
     have h4:=ih (fun y hy=>hL y (by simp[hy]))
     rw[length_cons,List.flatten_cons,length_append];omega
   have S:=h2 (Xu (Xt s)) (fun x hx=>(Zff _ _ x zL hx).2)
   rw[Zhf _ _ zL] at S
   omega)
 generalize Xt s=O at *;generalize Zfe s.idx.toNat O=k at *;generalize Xu O=PW at *;generalize Q2 0 O=CR at *;obtain⟨b,aA⟩:∃ b,b=ZaV s:=⟨_,rfl⟩;rw[<-aA] at J ak aj ⊢;clear aA aJ d;obtain⟨CI,aR⟩:∃ CI:Int,CI=(CR:Int):=⟨_,rfl⟩;rw[<-aR] at ar P;clear aR ag
 go_enter func56,ntmps56
 go_upto_region 1 with fail
 rw[<-C];clear C
 go_wp2_with fail
 refine(E.o _ l.o).mono ?_;rintro x W1 ⟨rfl,B⟩;have u:=ZZ (l.o.trans (B.mono l.o.size));have i:=ZZ (f.o.below B zL);clear B E H p1 p2 p3 Y V f l;obtain⟨H,-⟩:=i.o.cell 0;obtain⟨p1,-⟩:=i.o.cell 1;obtain⟨p2,-⟩:=i.o.cell 2;obtain⟨p3,-⟩:=i.o.cell 3;obtain⟨Y,-⟩:=i.o.cell 4;obtain⟨V,-⟩:=i.o.cell 5
 go_wp2_with fail
 refine(aW.o _ u.o).mono ?_;rintro x W2 ⟨v2,rfl,af,X⟩;have ad:=ZZ (u.o.trans (X.mono u.o.size));have aB:=ZZ (i.o.below X zL);have ac:=ZZ af.rd;obtain⟨a2,c2,bl⟩:∃ a c,v2=.slice a O.length c:=by obtain⟨a,c,h,-⟩:=af.rd;exact⟨a,c,h⟩
 subst bl;clear af X aW H p1 p2 p3 Y V i u;obtain⟨H,-⟩:=aB.o.cell 0
 go_wp2_with fail
 refine(ar.o _ _ ac.o).mono ?_;rintro x W3 ⟨rfl,am⟩;have ap:=ZZ (ad.o.trans (am.mono ad.o.size));have aZ:=ZZ (ac.o.below am zL);clear am ar aB H ad ac
 go_wp2_with fail
 refine(P.o _).mono ?_;rintro x j ⟨v4,rfl,ab,ai⟩;have aL:=ZZ (ap.o.trans (ai.mono ap.o.size));have ae:=ZZ (aZ.o.below ai zL);have aG:=ZZ ab.rd;obtain⟨z,A,a3⟩:∃ a c,v4=.slice a k.length c:=by obtain⟨a,c,h,-⟩:=ab.rd;exact⟨a,c,h⟩
 subst a3;clear ab ai P ap aZ;have T:Hid (Below j.heap.size j (j.alloc (.cells #[.slice z k.length A] 53))):=ZZ ((Below.refl _ _).alloc zL _);have aH:Hid ((j.alloc (.cells #[.slice z k.length A] 53)).ownsRow j.heap.size 53 1 (.slice (some ⟨j.heap.size,0,none⟩) 1 1) 1 [.slice z k.length A]):=ZZ (World.ownsRow_lit j #[.slice z k.length A] 1 zL (by unfold maxLen;omega) rfl)
 go_wp2_with fail
 refine(aD.o _ _ (ae.o.below T.o zL)).mono ?_;rintro x W6 ⟨v6,xs,rfl,ay,N,av⟩;have ax:=ZZ (T.o.trans (av.mono T.o.size));have a0:=ZZ (Zlg aH.o av zL);have R:=ZZ N;have aS:=ZZ ay;clear av N aH T aD;rcases ay.2 with ⟨-,hn⟩ | ⟨g6,a8,bn,N,-⟩
 ·have:=aw.o
  omega
 subst N;clear ay;have aN:=ax.o.size;have bc:=aw.o
 go_wp2_with(at_builtin;refine Zal _ rfl _ _ rfl j.heap.size _ 1 [.slice z k.length A] rfl a0.o _ PW.length a8 xs rfl R.o.1 (World.ownsRow.cells aS.o rfl) R.o.one (by omega) aN ?_)
 intro v7 m aq aM;have U:=ZZ (ax.o.trans aM);have al:=ZZ (aL.o.trans (U.o.mono aL.o.size));have aU:=ZZ (aG.o.below U.o zL);have aK:=ZZ (ae.o.below U.o zL);have aV:=ZZ aq;have az:b.length=1+PW.length:=by rw[J.o,length_cons];omega
 have bo:(b.length:Int)<=100000:=by omega
 have ba:Hid (∀ q,q<b.length->∃ x,([Value.slice z k.length A]++xs)[q]?=some x∧Rd m x (b.getD q [])):=ZZ (fun q p=>by
  cases q with
  | zero=>
   refine⟨_,rfl,?_⟩;rw[J.o];exact aU.o
  | succ q=>
   obtain⟨x,h1,h2,S⟩:=R.o.2 q (by omega)
   refine⟨x,by simpa using h1,?_⟩
   rw[J.o]
   exact S m aK.o)
 rcases aq.2 with ⟨-,hn⟩ | ⟨g7,bp,bq,bg,-⟩
 ·omega
 subst bg;rw[<-az] at aV;clear aq aM aU aK a0 R aG ae ax U aw bc aN aS;have a7:Hid (∀ q,q<b.length->Qf (b.take (q+1))=Qf (b.take q)++Qe (b.getD q [])):=ZZ (fun q p=>Zlh b q p)
 have aX:Hid (∀ q,(Qf (b.take q)).length<=80000):=ZZ (fun q=>Nat.le_trans (Zcr b q) aj.o)
 have bf:Hid (∀ q,q<b.length->(b.getD q []).length<=1048576):=ZZ (fun q p=>ak.o _ (by rw[show b.getD q []=b[q] by simp[List.getD,p]];exact getElem_mem p))
 rw[<-az];clear az J ak a5 aE aj;go_wp2
 go_loopw[6,27] (fun vo vi wr=>∃ q:Nat,vi=.int .i64 (q:Int)∧q<=b.length∧Hid (Own wr m.heap.size vo (Qf (b.take q)))∧Hid (Below m.heap.size m wr)) (fun _ vi _=>b.length-(intOf vi).toNat)
 case atStart=>exact⟨0,rfl,Nat.zero_le _,ZZ (Own.nil _ _),Below.refl _ _⟩
 case round=>
  obtain⟨q,rfl,p,I,n⟩:=hrel;by_cases Z:q<b.length
  case neg=>
   obtain rfl:q=b.length:=by omega
   rw[take_length] at I;go_wp2;go_ret2;exact⟨_,rfl,I.out.mono al.o.size,al.o.trans (n.out.mono al.o.size)⟩
  have br:(q:Int)<(b.length:Int):=by omega
  obtain⟨x,aF,au⟩:=ba.o q Z;have K:=World.ownsRow.cells aV.o (g:=g7) rfl q x aF;rw[Addr.add_lit] at K;have aO:wr.cell? ⟨g7,0+q,none⟩=some x:=(n.out.cell (World.block_lt_of_cell? m ⟨g7,0+q,none⟩ K)).trans K;rw[Nat.zero_add] at aO;have aQ:=ZZ (au.below n.out zL)
  have aT:Hid (ZwX (b.getD q [])=(Qe (b.getD q []),0)):=ZZ (by
   unfold ZwX
   rw[if_pos (bf.o q Z)])
  have aa:=ZZ (a7.o q Z);have bm:=ZZ (aX.o q);have ao:=ZZ (aX.o (q+1));have Q:=ZZ (Zdg x (b.getD q []) wr aQ.o);rw[aT.o] at Q;rw[aa.o] at ao
  dsimp only at Q
  obtain⟨xa,xc,a6⟩:∃ a c,x=.slice a (b.getD q []).length c:=by obtain⟨a,c,h,-⟩:=au;exact⟨a,c,h⟩
  subst a6;clear aF au K aT aQ;generalize Qe (b.getD q [])=F at *;generalize b.getD q []=D at *;obtain⟨G,hG⟩:∃ G,G=Qf (b.take q):=⟨_,rfl⟩;rw[<-hG] at I aa bm ao;clear hG
  go_wp2_with fail
  refine Q.o.mono ?_;rintro e W8 ⟨v8,rfl,aC,an⟩;have bj:=ZZ aC.rd;have a1:=ZZ (I.out.below an zL);have aI:=ZZ (n.out.trans (an.mono n.out.size));have bb:=ZZ aI.o.size;have bi:Hid (G.length+F.length<=70368744177664):=ZZ (by have:=ao.o;rw[length_append] at this;omega)
  clear aC an Q I n aO
  go_wp2_with(at_builtin;refine Xi _ rfl _ _ rfl m.heap.size _ G rfl a1.o _ F rfl bj.o bi.o bb.o ?_)
  intro v9 W9 aY aP;have be:=ZZ aY;have bk:=ZZ (aI.o.trans aP);clear aY aP a1;go_wp2;go_roundw
  case rel=>exact⟨q+1,by go_num,by omega,ZZ (by rw[aa.o];exact be.o),bk⟩
  case measure=>simp[intOf];omega
theorem ZoO (w:World) (h:SD K w pd p s d N T) (g:∀ k,K k->k<w.heap.size) (v:ZoJ s):
 Calls prog 26 #[ptr p] w fun e w'=>Z6 K w pd p (Zbx (s,d)) (N+4) T e w':=by
 have a:=ZZ (ZeE w h g v);unfold Zbx;obtain⟨r,n⟩:∃ r,r=Zf (s,d):=⟨_,rfl⟩;rw[<-n] at a ⊢;have x:=ZZ g;obtain⟨R,l⟩:∃ R,R=if r.2=0 then(({ r.1.1 with cur:=0 },r.1.2),(0:Int)) else r:=⟨_,rfl⟩
 rw[<-l];have b:=ZZ l;clear h g n l v;obtain⟨⟨q,F⟩,c⟩:=r
 dsimp only at b
 unfold Z6 at a
 dsimp only at a
 go_enter func26,ntmps26
 go_wp2_with fail
 refine a.o.mono ?_;rintro e z ⟨rfl,j,i⟩;have m:=ZZ j;have u:=ZZ i;have y:Hid (∀ k,K k->k<z.heap.size):=ZZ (fun k A=>Nat.lt_of_lt_of_le (x.o k A) i.size)
 obtain⟨⟨-,-,D,-⟩,fz⟩:=j.cells;have C:=fz 12;clear j i a fz;by_cases f:c=0
 ·subst f
  rw[if_pos rfl] at b;have t:=ZZ (m.o.setHead (s':={ q with cur:=0 }) y.o 12 (.int .i64 0) rfl rfl rfl (fun _=>rfl))
  generalize q.cur=B at *;go_wp2;go_ret;rw[b.o];exact⟨rfl,t.o.1,u.o.trans t.o.2 (fun _ _ h=>h)⟩
 ·rw[if_neg f] at b
  have E:(c != 0)=true:=by rw[bne_iff_ne];exact f
  clear f;go_wp2;go_ret;rw[b.o];exact⟨rfl,m.o,u.o⟩
theorem Zut {l:List Int} (a:k<l.length) (b:l.getD k 0=x):x ∈ l:=by
 rw[<-b];exact ZhS a
theorem ZrK (v:Value) (l:List Int) (x:Int) (w:World) (A:RdI w v l):
 Calls prog 144 #[v,.int .i64 x] w fun e w'=>(∃ k:Int,e=.returned (.int .i64 k)∧((0<=k∧x ∈ l)∨(k=-1∧x ∉ l)))∧w'=w:=by
 obtain⟨ao,cap,rfl,E,p,-,-,q⟩:=A;have G:(l.length:Int)<=9223372036854775807:=by unfold maxLen at p;omega
 have z:=ZZ q;clear q p E
 go_enter func144,ntmps144
 go_wp2
 go_loop [8] (fun i=>∃ k:Nat,i=.int .i64 k∧k<=l.length∧Hid (∀ j,j<k->l.getD j 0≠x)) (fun i=>l.length-(intOf i).toNat)
 case atStart=>exact⟨0,rfl,Nat.zero_le _,fun j f=>by omega⟩
 case round=>
  obtain⟨k,rfl,I,n⟩:=hrel;by_cases b:k<l.length
  ·rcases z.o with C | ⟨g,F,rfl,m⟩
   ·rw[C] at b;simp at b
   have B:=m k b;clear m;have D:=ZZ b;obtain⟨y,d⟩:∃ y,y=l.getD k 0:=⟨_,rfl⟩;rw[<-d] at B;have t:=ZZ d;clear d;by_cases a:x=y
   ·subst a
    go_wp2;go_ret;exact⟨⟨(k:Int),rfl,.inl ⟨by omega,Zut D.o t.o.symm⟩⟩,rfl⟩
   ·have H:(x == y)=false:=beq_eq_false_iff_ne.2 a
    have c:=ZZ a;clear a;go_wp2
    go_round
    case rel=>
     refine⟨k+1,by go_num,by omega,fun j f=>?_⟩
     by_cases e:j=k
     ·rw[e,<-t.o];exact fun h=>c.o h.symm
     ·exact n.out j (by omega)
    case measure=>simp[intOf];omega
  ·have c:Hid (x ∉ l):=ZZ (fun u=>by
    obtain⟨j,f,e⟩:=List.getElem_of_mem u
    exact n.out j (by omega) (by simp[List.getD,f,e]))
   go_wp2;go_ret;exact⟨⟨-1,rfl,.inr ⟨rfl,c.o⟩⟩,rfl⟩
theorem Zli (v:Value) (l:List Int) (x:Int) (w:World) (g:RdI w v l):
 Calls prog 106 #[v,.int .i64 x] w fun e w'=>e=.returned (.bool (decide (x ∈ l)))∧w'=w:=by
 have f:=ZZ (ZrK v l x w g);obtain⟨ao,cap,rfl,-⟩:=g;obtain⟨b,d⟩:∃ b,b=decide (x ∈ l):=⟨_,rfl⟩;rw[<-d];have c:=ZZ d;clear d
 go_enter func106,ntmps106
 go_wp2_with fail
 refine f.o.mono ?_;rintro e j ⟨⟨k,rfl,i⟩,rfl⟩;clear f;rcases i with ⟨m,a⟩ | ⟨rfl,a⟩
 ·rw[decide_eq_true a] at c
  clear a;go_wp2;go_ret;rw[c.o];exact⟨rfl,rfl⟩
 ·rw[decide_eq_false a] at c
  clear a;go_wp2;go_ret;rw[c.o];exact⟨rfl,rfl⟩
theorem ZrL (w:World) (h:SD K w pd p s d N T) (C:∀ k,K k->k<w.heap.size) (O:N<=1000000) (X:T<=1000000000):
 Calls prog 63 #[ptr p] w fun e w'=>Z6 K w pd p (Z4 (s,d)) (N+2) T e w':=by
 obtain⟨⟨Y,-⟩,-⟩:=h.cells
 have D:Hid (Calls prog 28 #[ptr pd] w fun e w'=>∃ v,e=.returned v∧Qo w' w.heap.size v (Ql d)∧Below w.heap.size w w'):=ZZ (by
  obtain⟨F,M,I,L,⟨Z,E,q,-⟩,-⟩:=h
  exact Zet w E q O)
 have U:Hid (∀ n ∈ Ql d,I64 n):=ZZ (by
  obtain⟨F,M,I,L,⟨Z,E,q,-⟩,-⟩:=h;intro n hn;have:=ZaZ q n hn
  exact⟨by omega,by omega⟩)
 have l:=ZZ h;have Q:=ZZ C;have m:Hid (∀ W,Below w.heap.size w W->Calls prog 69 #[ptr pd,.int .i64 1] W fun e w'=>Z6 K W pd p (X0 (fun d=>Qp d 1) (s,d)) (N+2) T e w'):=ZZ (fun W G=>(l.o.below G).step (fun d=>Qp d 1) (fun k hk=>Nat.lt_of_lt_of_le (Q.o k hk) G.size) (fun F V _=>ZjD 1 ⟨by decide,by decide⟩ _ V O X))
 obtain⟨R,x⟩:∃ R,R=Z4 (s,d):=⟨_,rfl⟩;rw[<-x];have i:=ZZ x;clear h C x
 go_enter func63,ntmps63
 go_wp2_with fail
 refine D.o.mono ?_;rintro e u ⟨P,rfl,t,f⟩;have z:=ZZ f;have g:=ZZ (Zli P (Ql d) 1 u (t.rd U.o))
 obtain⟨a1,n1,c1,S⟩:∃ a n c,P=.slice a n c:=by
  obtain⟨a,c,hh⟩:=t.shape;exact⟨a,_,c,hh⟩
 subst S;have y:Hid (Qj (fun k=>¬ K k) w u):=ZZ (Qj.ofBelow f)
 obtain⟨⟨d0,-⟩,-⟩:=(l.o.below f).cells;clear t f D Y;by_cases b:1 ∈ Ql d
 ·rw[decide_eq_true b] at g
  have j:Hid (R=X0 (fun d=>Qp d 1) (s,d)):=ZZ (by rw[i.o];unfold Z4;rw[if_pos b])
  have H:=ZZ (m.o u z.o);rw[<-j.o] at H;clear b i m
  go_wp2_with fail
  refine g.o.mono ?_;rintro e W2 ⟨rfl,rfl⟩
  go_wp2_with fail
  refine H.o.mono ?_;rintro e W3 ⟨rfl,A,J⟩;have B:=ZZ (And.intro A J);clear A J;go_wp2;go_ret;exact⟨rfl,B.o.1,y.o.trans B.o.2 (fun _ _ h=>h)⟩
 ·rw[decide_eq_false b] at g
  have j:Hid (R=((s,d),0)):=ZZ (by rw[i.o];unfold Z4;rw[if_neg b])
  clear b i m
  go_wp2_with fail
  refine g.o.mono ?_;rintro e W2 ⟨rfl,rfl⟩;go_wp2;go_ret;rw[j.o];exact⟨rfl,(l.o.below z.o).mono (by omega) zL,y.o⟩
theorem ZoP (w:World) (h:SD K w pd p s d N T) (a:∀ k,K k->k<w.heap.size) (n:w.cell? ⟨R,0,none⟩=some (ptr p)):
 Calls prog 58 #[.pointer (some ⟨R,0,none⟩)] w fun e w'=>Z6 K w pd p (X0 (fun d=>Jf d 1) (s,d)) (N+2) T e w':=by
 have b:=ZZ (h.step (fun d=>Jf d 1) a (fun F j _=>ZpV 1 ⟨by decide,by decide⟩ _ j))
 obtain⟨⟨l,-⟩,-⟩:=h.cells;obtain⟨r,c⟩:∃ r,r=X0 (fun d=>Jf d 1) (s,d):=⟨_,rfl⟩
 rw[<-c] at b ⊢;clear h a c
 go_enter func58,ntmps58
 go_wp2_with fail
 refine b.o.mono ?_;rintro e m ⟨rfl,g,f⟩;have i:=ZZ (And.intro g f);clear g f;go_wp2;go_ret;exact⟨rfl,i.o⟩
theorem ZoQ (w:World) (h:SD K w pd p s d N T) (A:∀ k,K k->k<w.heap.size) (J:w.cell? ⟨R,0,none⟩=some (ptr p)) (y:K R) (H:N<=1000000) (P:T<=1000000000):
 Calls prog 60 #[.pointer (some ⟨R,0,none⟩)] w fun e w'=>Z6 K w pd p (ZaX (s,d)) (N+2) T e w':=by
 have t:=ZZ h;have j:=ZZ A;have i:=ZZ y
 have S:Hid (∀ W,Below w.heap.size w W->Calls prog 50 #[ptr p,.int .i64 3] W fun e w'=>e=.returned (.int .i64 (Ya d 3))∧Below w.heap.size w w'):=ZZ (fun W b=>by
  obtain⟨F,M,I,L,Z,U,-⟩:=t.o.below b;refine(ZfX 3 W U Z H (by decide) (by decide)).mono ?_
  rintro e w' ⟨rfl,c⟩
  exact⟨rfl,b.trans (c.mono b.size)⟩)
 have E:Hid (I64 (Ya d 3)):=ZZ (by
  obtain⟨F,M,I,L,⟨L1,g1,V,-⟩,-⟩:=h;have c:∀ n ∈ Xg (Ql d) 3,0<=n∧n<1048576:=fun n v=>ZaZ V n (List.mem_filter.1 v).1
  unfold Ya;generalize Xg (Ql d) 3=l at c ⊢;by_cases X:l.length=0
  ·rw[List.eq_nil_of_length_eq_zero X]
   exact⟨by decide,by decide⟩
  ·have e:l.getD (l.length-1) (3-2)=l[l.length-1]'(by omega):=by simp[List.getD,show l.length-1<l.length by omega]
   have:=c _ (getElem_mem (show l.length-1<l.length by omega))
   rw[e]
   exact⟨by omega,by omega⟩)
 have x:Hid (∀ W,Below w.heap.size w W->Calls prog 61 #[ptr pd,.int .i64 1,.int .i64 (Ya d 3)] W fun e w'=>Z6 K W pd p (ZaX (s,d)) (N+2) T e w'):=ZZ (fun W b=>(t.o.below b).step (fun d=>Zam d 1 (Ya d 3)) (fun k Y=>Nat.lt_of_lt_of_le (j.o k Y) b.size) (fun F O _=>Zrc 1 (Ya d 3) ⟨by decide,by decide⟩ E.o _ O H P))
 have g:Hid (∀ W,Below w.heap.size w W->W.cell? ⟨R,0,none⟩=some (ptr p)∧W.cell? ⟨p,0,none⟩=some (ptr pd)):=ZZ (fun W b=>by
  obtain⟨⟨q,-⟩,-⟩:=(t.o.below b).cells
  exact⟨(b.cell (p:=⟨R,0,none⟩) (j.o R i.o)).trans J,q⟩)
 have Q:Hid (∀ W W' (r:SDk × Int),Below w.heap.size w W->SD K W' pd p r.1.1 r.1.2 (N+2) T->Qj (fun k=>¬ K k) W W'->W'.cell? ⟨R,0,none⟩=some (ptr p)∧W'.cell? ⟨p,0,none⟩=some (ptr pd)):=ZZ (fun W W' (r:SDk × Int) b hs ho=>by
  obtain⟨⟨q,-⟩,-⟩:=hs.cells
  exact⟨(World.cell?_of_block (a:=⟨R,0,none⟩) (ho.block R (Nat.lt_of_lt_of_le (j.o R i.o) b.size) (fun v=>v i.o))).trans (g.o W b).1,q⟩)
 have C:Hid (Below w.heap.size w w.drew):=ZZ (Below.refl _ _).drew;obtain⟨c9,c0⟩:=g.o w (Below.refl _ _);obtain⟨r,D⟩:∃ r,r=ZaX (s,d):=⟨_,rfl⟩;rw[<-D] at x ⊢;generalize Ya d 3=nn at *;clear h A D J y E
 go_enter func60,ntmps60
 go_upto_region 1 with fail
 go_region_held(fun W=>W.cell? ⟨R,0,none⟩=some (ptr p)∧W.cell? ⟨p,0,none⟩=some (ptr pd))
  (first | (with_reducible exact g.o _ C.o) | (with_reducible exact g.o _ f.o) | (with_reducible exact aa.o))
  (first
   | (go_at_call 50;refine(S.o _ C.o).mono ?_;rintro e G ⟨rfl,B⟩;have f:=ZZ B;clear B)
   | (go_at_call 61;refine(x.o G f.o).mono ?_;rintro e W2 ⟨rfl,u,m⟩;have z:=ZZ (And.intro u m);have aa:=ZZ (Q.o G W2 r f.o u m);clear u m))
 all_goals
  go_wp2;go_ret;exact⟨rfl,z.o.1,(Qj.ofBelow f.o).trans z.o.2 (fun _ _ h=>h)⟩
theorem Zfz (h:q<l.length):l.take (q+1)=l.take q++[l.getD q Qi]:=by
 rw[take_add_one];simp[List.getD,h]
theorem ZmU:∀ (l:List Rec) (i:Int) (j:Nat),Xq i l->j<l.length->(l.getD j Qi).idx=i+j
 | r::t,i,0,h,_=>by
  have:=h.1;simp[List.getD,this]
 | r::t,i,j+1,h,hj=>by
  have:=ZmU t (i+1) j h.2 (by simpa using hj)
  simp only [List.getD,List.getElem?_cons_succ] at this ⊢;rw[this];omega
theorem ZfA:∀ (l:List Rec) (i:Int) (r:Rec),Xq i (l++[r])↔Xq i l∧r.idx=i+l.length
 | [],i,r=>by simp[Xq]
 | s::t,i,r=>by
  rw[List.cons_append,Xq,Xq,ZfA t (i+1) r,length_cons,and_assoc];constructor
  ·rintro⟨h1,h2,h3⟩
   exact⟨h1,h2,by omega⟩
  ·rintro⟨h1,h2,h3⟩
   exact⟨h1,h2,by omega⟩
theorem ZjV:∀ (l:List Rec) (i:Int) (k:Nat),Xq i l->Xq i (l.take k)
 | _,_,0,_=>by simp[Xq]
 | [],_,k+1,_=>by simp[Xq]
 | r::t,i,k+1,h=>by
  rw[List.take_succ_cons];exact⟨h.1,ZjV t (i+1) k h.2⟩
def Zji (l:List Rec) (k:Nat):Prop:=(∀ r ∈ l.take k,Qw r)∧Xq (l.headD Qi).idx (l.take k)
theorem ZrM (l:List Rec):Zji l 0:=⟨fun r h=>by simp at h,by simp[Xq]⟩
theorem ZrN (b:k<l.length):Zji l (k+1)↔Zji l k∧Qw (l.getD k Qi)∧(l.getD k Qi).idx=(l.headD Qi).idx+k:=by
 unfold Zji;rw[Zfz b,ZfA];have c:(l.take k).length=k:=by simp;omega
 rw[c];constructor
 ·rintro⟨h1,h2,h3⟩
  exact⟨⟨fun r a=>h1 r (by simp[a]),h2⟩,h1 _ (by simp),h3⟩
 ·rintro⟨⟨h1,h2⟩,h3,h4⟩
  refine⟨fun r a=>?_,h2,h4⟩
  rcases List.mem_append.1 a with h | h
  ·exact h1 r h
  ·simp only [List.mem_singleton] at h
   rw[h];exact h3
theorem Zuu (h:Zji l l.length) (a:1<=l.length) (b:l.length<=256):Yc l:=by
 unfold Zji at h;rw[take_length] at h;exact⟨a,b,h.1,h.2⟩
theorem Yc.part (h:Yc l) (k:Nat):Zji l k:=⟨fun r a=>h.2.2.1 r (List.mem_of_mem_take a),ZjV l _ k h.2.2.2⟩
theorem Zga {o:Opn} (h:Jg o):(Xo o).length<=30:=by
 have a:=Zvq (ZaG h).1;have b:=Zvq (ZaG h).2;have c:0<=o.code:=h.1;have e:o.code<=10:=h.2.1;have d:=Ji (n:=o.code.toNat) (by omega)
 unfold Xo;rw[length_append,length_append];omega
theorem ZjW {b:List Rec} (d:∀ r ∈ b,Qw r) {r:Rec} (a:Qw r):(Ys b r).length<=60:=by
 have c:=Zem d a;have e:=ZaQ a;have j:=Zga a.1;obtain⟨_,_,_,_,_,l,g,_⟩:=a;have f:=Ji (n:=r.proc.toNat) (by omega)
 have i:=Zvq c;have k:=Zvq e;unfold Ys;simp only [length_append];omega
theorem ZmV:∀ (l a:List Rec),(∀ r ∈ a,Qw r)->(∀ r ∈ l,Qw r)->(Xw a l).length<=60*l.length
 | [],_,_,_=>by simp[Xw]
 | r::t,a,hp,hl=>by
  have c:=ZjW hp (hl r (by simp))
  have d:=ZmV t (a++[r]) (fun s b=>by
   rcases List.mem_append.1 b with h | h
   ·exact hp s h
   ·simp at h;rw[h];exact hl r (by simp)) (fun s b=>hl s (by simp[b]))
  rw[Xw,length_append,length_cons];omega
def Zlj (w:World) (l:List Rec) (e:Ending) (w':World):Prop:=
 ∃ v',e=.returned (.tuple #[v',.int .i64 (if Yc l then 0 else 1)])∧Own w' w.heap.size v' (if Yc l then Y2 l else[])∧Below w.heap.size w w'
theorem Below.allocs {a:World} (h:Below a.heap.size a w) (X:Obj):Below a.heap.size a (w.alloc X):=h.alloc h.size X
theorem Zwo (h:n<128):Lib.uvarint n=[n.toUInt8]:=Lib.uvarint_small h
theorem ZjX {v:Nat} (i:1<=v) (p:v<=3) (j:k<6) (d:f<4611686018427387904):Za (X6 v k f)=.ok (v,k,f):=by
 have n:=Lib.uvarint_pos v;have m:=Lib.uvarint_pos k;have l:=Lib.uvarint_pos f
 have b:Qb ((X6 v k f).drop 1)=(v,(Lib.uvarint v).length):=by
  unfold X6;rw[List.drop_succ_cons,List.drop_zero];exact X3 _ _ (by omega)
 have a:(X6 v k f).drop (1+(Lib.uvarint v).length)=Lib.uvarint k++Lib.uvarint f:=by
  unfold X6;rw[Nat.add_comm,List.drop_succ_cons,drop_left]
 have g:Qb ((X6 v k f).drop (1+(Lib.uvarint v).length))=(k,(Lib.uvarint k).length):=by
  rw[a];exact X3 _ _ (by omega)
 have e:(X6 v k f).drop (1+(Lib.uvarint v).length+(Lib.uvarint k).length)=Lib.uvarint f:=by
  rw[<-drop_drop,a,drop_left]
 have c:Qb ((X6 v k f).drop (1+(Lib.uvarint v).length+(Lib.uvarint k).length))=(f,(Lib.uvarint f).length):=by
  rw[e];have:=X3 f [] d;rw[List.append_nil] at this;exact this
 have q:(X6 v k f).length=1+(Lib.uvarint v).length+(Lib.uvarint k).length+(Lib.uvarint f).length:=by
  unfold X6;simp only [length_cons,length_append];omega
 unfold Za;simp only [b,g,c];rw[if_neg (by rintro(h | h);exact absurd h (by unfold X6;simp);exact h rfl),if_neg (by omega),if_neg (by omega),if_neg (by omega)]
theorem ZeF {v:Nat} (g:v<=3) (a:k<6) (c:f<4611686018427387904):(X6 v k f).length<=40:=by
 have e:(Lib.uvarint v).length<=10:=Lib.uvarint_length64 (by omega)
 have d:(Lib.uvarint k).length<=10:=Lib.uvarint_length64 (by omega)
 have b:(Lib.uvarint f).length<=10:=Lib.uvarint_length64 (by omega)
 unfold X6;simp only [length_cons,length_append];omega
theorem ZoR {d:List Rec} (g:∀ r ∈ d,Qw r) {r:Rec} (e:Qw r):(Ys d r).length<=60:=by
 have f:=Zem g e;have i:=ZaQ e;obtain⟨c,_,_,_,_,t,j,_⟩:=e;have p:(Lib.uvarint r.proc.toNat).length<=10:=Lib.uvarint_length64 (by omega)
 have l:(Lib.uvarint (Lib.zigzag (r.seq-Qy d r.proc))).length<=10:=Lib.uvarint_length64 (ZbH f);have m:(Lib.uvarint r.op.code.toNat).length<=10:=Lib.uvarint_length64 (by have:=c.1;have:=c.2.1;omega)
 have n:(Lib.uvarint (Lib.zigzag r.op.a)).length<=10:=Lib.uvarint_length64 (ZbH (ZaG c).1);have k:(Lib.uvarint (Lib.zigzag r.op.b)).length<=10:=Lib.uvarint_length64 (ZbH (ZaG c).2);have q:(Lib.uvarint (Lib.zigzag r.resp)).length<=10:=Lib.uvarint_length64 (ZbH i);unfold Ys Xo;simp only [length_append];omega
theorem ZfB:∀ (l a:List Rec),(∀ r ∈ a,Qw r)->(∀ r ∈ l,Qw r)->(Xw a l).length<=60*l.length
 | [],_,_,_=>by simp[Xw]
 | r::t,a,hp,hl=>by
  have c:=hl r (by simp)
  have d:=ZoR hp c
  have e:=ZfB t (a++[r]) (fun s b=>by
   rcases List.mem_append.1 b with h | h
   ·exact hp s h
   ·rw[List.mem_singleton.1 h];exact c) (fun s b=>hl s (by simp[b]))
  rw[Xw,length_append,length_cons];omega
theorem Zck {d:List UInt8} {v:Nat} (h:Za d=.ok (v,k,f)):d=X6 v k f∧1<=v∧v<=3∧k<6∧f<4611686018427387904:=by
 unfold Za at h;simp only at h;split at h
 ·cases h
 rename_i n
 split at h
 ·cases h
 rename_i z
 split at h
 ·cases h
 rename_i D
 split at h
 ·cases h
 rename_i w
 simp only [Except.ok.injEq,Prod.mk.injEq] at h;obtain⟨u,B,g⟩:=h;have b:=Zc (l:=d.drop 1) (by omega)
 have e:=Zc (l:=d.drop (1+(Qb (d.drop 1)).2)) (by omega)
 have a:=Zc (l:=d.drop (1+(Qb (d.drop 1)).2+(Qb (d.drop (1+(Qb (d.drop 1)).2))).2)) (by omega)
 have C:f<4611686018427387904:=by
  rw[<-g];rcases Q4 (d.drop (1+(Qb (d.drop 1)).2+(Qb (d.drop (1+(Qb (d.drop 1)).2))).2)) with h | h
  ·rw[h];decide
  ·exact h.1
 rw[u] at b D;rw[B] at e w;rw[g] at a;generalize (Qb (d.drop 1)).2=i at *;generalize (Qb (d.drop (1+i))).2=j at *;generalize (Qb (d.drop (1+i+j))).2=m at *;refine⟨?_,by omega,by omega,by omega,C⟩
 cases d with
 | nil=>exact absurd (.inl rfl) n
 | cons c t=>
  have x:c=108:=by
   have:=fun h=>n (.inr h)
   simpa using Decidable.not_not.1 this
  have y:(c::t).drop 1=t:=rfl;have p:(c::t).drop (1+i)=t.drop i:=by rw[Nat.add_comm,List.drop_succ_cons]
  have A:(c::t).drop (1+i+j)=(t.drop i).drop j:=by rw[<-drop_drop,p]
  rw[y] at b;rw[p] at e;rw[A] at a
  have q:m=((t.drop i).drop j).length:=by
   have:1+i+j+m=(c::t).length:=Decidable.not_not.1 (fun h=>z (.inr (.inr (.inr h))))
   rw[length_cons] at this;rw[length_drop,length_drop];omega
  rw[q,take_length] at a;unfold X6;rw[x,b,e,a,List.take_append_drop,List.take_append_drop]
def Zgb (k f:Int):Prop:=0<=k∧k<6∧0<=f∧f<4611686018427387904
instance (k f:Int):Decidable (Zgb k f):=by unfold Zgb;infer_instance
def Zr (v k f:Int):Int:=if 1<=v∧v<=3 then(if Zgb k f then 0 else 1) else 6
def Zgr (v k f:Int):List UInt8:=if 1<=v∧v<=3 then(if Zgb k f then Qe (X6 v.toNat k.toNat f.toNat) else[]) else[]
def Zqk (w:World) (v k f:Int) (e:Ending) (w':World):Prop:=
 ∃ v',e=.returned (.tuple #[v',.int .i64 (Zr v k f)])∧Own w' w.heap.size v' (Zgr v k f)∧Below w.heap.size w w'
theorem Rd.byte (w:World) (c:UInt8):Rd (w.alloc (.cells #[.int .u8 c.toNat] 5)) (.slice (some ⟨w.heap.size,0,none⟩) 1 1) [c]:=by
 refine⟨some ⟨w.heap.size,0,none⟩,1,rfl,Nat.le_refl _,by unfold maxLen;omega,(fun h=>by cases h),.inr ⟨w.heap.size,0,rfl,fun j a=>?_⟩⟩
 have e:j=0:=by simpa using a
 subst e;rw[cell_of_row _ w.heap.size 0 _ 5 (0,0) (heap_alloc_new w _)];rfl
theorem Zlk {l:List UInt8} (h:l.length<=1048576):ZwX l=(Qe l,0):=by
 unfold ZwX;rw[if_pos h]
theorem ZrO (h:q<L.length):L.take (q+1)=L.take q++[L.getD q []]:=by
 rw[take_add_one];simp[List.getD,h]
theorem RdL.at {ao:Option Addr} {cap:Nat} (h:RdL w (.slice ao n cap) L) (k:Nat) (d:k<L.length):
 ∃ b a x,ao=some ⟨b,a,none⟩∧(∀ W,Below w.heap.size w W->W.cell? ⟨b,a+k,none⟩=some x)∧∀ W,Below w.heap.size w W->Rd W x (L.getD k []):=by
 obtain⟨t,u,e,_,_,_,q⟩:=h;simp only [Value.slice.injEq] at e;obtain⟨rfl,_,rfl⟩:=e;rcases q with m | ⟨b,a,l,i⟩
 ·rw[m] at d;simp at d
 ·obtain⟨x,f,g⟩:=i k d
  have j:b<w.heap.size:=World.block_lt_of_cell? w ⟨b,a+k,none⟩ f;exact⟨b,a,x,l,fun W c=>(c.cell (p:=⟨b,a+k,none⟩) j).trans f,fun W c=>g.below c zL⟩
theorem Zcs:∀ (L:List (List UInt8)) (k:Nat),(L.take k).flatten.length<=L.flatten.length
 | [],k=>by simp
 | x::L,0=>by simp
 | x::L,k+1=>by
  have:=Zcs L k;rw[List.take_succ_cons,List.flatten_cons,List.flatten_cons,length_append,length_append];omega
theorem Zql (h:q<L.length):L.getD q [] ∈ L:=by
 have e:L.getD q []=L[q]:=by simp[List.getD,h]
 rw[e];exact getElem_mem h
theorem Zds (B:List (List UInt8)):(B.map Qe).flatten=Qf B:=by
 unfold Qf;rw[List.flatMap_def]
theorem Zwp (l:List UInt8):(Qb l).1<4611686018427387904:=by
 rcases Q4 l with h | h
 ·rw[h];decide
 ·exact h.1
theorem Zwq (W:World) (ao:Option Addr) (cap:Nat) (l:List UInt8) (b:Rd W (.slice ao l.length cap) l) (n:Nat) (d:n<=l.length):Rd W (.slice (if cap=n then ao else Option.map (fun x=>x.add n) ao) (l.length-n) (cap-n)) (l.drop n):=by
 have f:l.length<=cap:=by
  obtain⟨a,c,e,h,-⟩:=b;simp only [Value.slice.injEq] at e;omega
 have h:=b.mid n l.length cap (by omega) (by omega) (by omega) (by omega)
 rw[List.take_of_length_le (by rw[length_drop];omega)] at h
 simpa[sliced] using h
theorem ZoS (W:World) (ao:Option Addr) (l:List UInt8) (cap:Nat) (_hlc:l.length<=cap) (i:Int) (n:Nat) (a:i=(n:Int)) (b:n<=l.length):
 (Instr.sliceAt 53 (.slice ao l.length cap) (some (.int .i64 i)) none none).run prog W=.ok (sliced ao n l.length cap 1) W:=by
 subst a;rw[run_sliceAt_slice W 53 _ _ _ _ Xf,run_slice_l W 53 ao l.length cap Xf .i64 (n:Int) (by omega) (by omega),Zw,Zcd]
 rfl
def ZaJ (w:World) (b:List UInt8) (e:Ending) (w':World):Prop:=
 ∃ (vl:Value) (l:List Rec) (n:Int),e=.returned (.tuple #[vl,.int .i64 n])∧RdR w' vl l∧DecB b l n∧Below w.heap.size w w'
theorem ZaJ.none (h:∀ a,Yc a->Y2 a≠b) (c:Below w.heap.size w w'):ZaJ w b (.returned (.tuple #[.slice none 0 0,.int .i64 3])) w':=
 ⟨_,[],3,rfl,RdR.nil _,.inr ⟨rfl,rfl,h⟩,c⟩
theorem ZrP (h:Yc l):Qw (l.headD Qi):=by
 obtain⟨a,_,b,_⟩:=h
 match l,a with
 | r::u,_=>exact b r (by simp)
theorem ZoT (h:Yc l) {b:List UInt8} (d:Y2 l=b):
 ((Qb b).1:Int)=(l.headD Qi).idx∧(Qb b).2≠0∧(Qb (b.drop (Qb b).2)).1=l.length∧(Qb (b.drop (Qb b).2)).2≠0∧b.drop ((Qb b).2+(Qb (b.drop (Qb b).2)).2)=Xw [] l:=by
 obtain⟨_,i,f,_⟩:=ZrP h;have g:=h.2.1;subst d;have c:Qb (Y2 l)=((l.headD Qi).idx.toNat,(Lib.uvarint (l.headD Qi).idx.toNat).length):=X3 _ _ (by omega)
 have a:(Y2 l).drop (Lib.uvarint (l.headD Qi).idx.toNat).length=Lib.uvarint l.length++Xw [] l:=by
  unfold Y2;rw[drop_left]
 have e:=X3 l.length (Xw [] l) (by omega)
 rw[c];simp only;rw[a,e];refine⟨by omega,Zej _,rfl,Zej _,?_⟩
 rw[<-drop_drop,a,drop_left]
theorem ZwZ (w:World) (ao:Option Addr) (l:List UInt8) (cap:Nat) (d:Rd w (.slice ao l.length cap) l) (n:Nat) (b:n<=l.length):
 ∃ a c,Rd w (.slice a (l.drop n).length c) (l.drop n)∧∀ i:Int,i=(n:Int)->∀ W,(Instr.sliceAt 53 (.slice ao l.length cap) (some (.int .i64 i)) none none).run prog W=.ok (.slice a (l.drop n).length c) W:=by
 have h:=Zwq w ao cap l d n b
 have g:l.length<=cap:=by
  obtain⟨a,c,e,h,-⟩:=d;simp only [Value.slice.injEq] at e;omega
 refine⟨_,_,by rw[length_drop];exact h,fun i f W=>?_⟩
 rw[ZoS W ao l cap g i n f b,length_drop];simp[sliced]
theorem ZjY {d:List UInt8} (h:d=[]∨d.getD 0 0≠108):Za d=.error 3:=by
 unfold Za;rw[if_pos h]
theorem ZrQ {d:List UInt8} (h:¬ (d=[]∨d.getD 0 0≠108)) {v i k j f m:Nat} (a:Qb (d.drop 1)=(v,i)) (b:Qb (d.drop (1+i))=(k,j)) (c:Qb (d.drop (1+i+j))=(f,m)):
 Za d=if i=0∨j=0∨m=0∨1+i+j+m≠d.length then .error 3 else if v<1∨3<v then .error 6 else if 6<=k then .error 1 else .ok (v,k,f):=by
 unfold Za;rw[if_neg h,a];simp only;rw[b];simp only;rw[c]
theorem Zcl {r:Rec} (h:Qw r):ZcK r:=by
 have c:=ZaQ h;obtain⟨a,i,j,d,e,f,g,_,_⟩:=h;have b:=ZaG a;exact⟨⟨by omega,by omega⟩,⟨by omega,by omega⟩,⟨by omega,by omega⟩,⟨⟨by have:=a.1;omega,by have:=a.2.1;omega⟩,b.1,b.2⟩,c⟩
def ZoU (L:List (List UInt8)) (v k f:Nat):Seg × Nat × Int:=(⟨k,f,(Z9 v f L.tail [] 16).1⟩,1+(Z9 v f L.tail [] 16).2.1,(Z9 v f L.tail [] 16).2.2)
theorem Q9.set (h:Q9 w C v l) (R i:Nat) (a:R<C) (x:Value):Q9 (w.setCell ⟨R,i,none⟩ x) C v l:=ownsRow_setCell_below h a x
theorem Zd {b:World} (h:Below C b w) (R:Nat) (a:C<=R) (d e c:Value):Below C b (((w.setCell ⟨R,0,none⟩ d).setCell ⟨R,1,none⟩ e).setCell ⟨R,2,none⟩ c):=
 ((h.setCell a _).setCell a _).setCell a _
theorem ZrR (v:Nat) (first:Int) (d:List UInt8) (b:List (List UInt8)) (a:List Rec) (last:Nat):
 Z9 v first (d::b) a last=match ZpP v d (first+a.length) with
  | none=>(a,0,3)
  | some r=>if last<16 then(a,0,3) else if 4096<a.length+r.length then(a,0,5)
   else((Z9 v first b (a++r) r.length).1,(Z9 v first b (a++r) r.length).2.1+1,(Z9 v first b (a++r) r.length).2.2):=by
 rw[Z9]
 cases ZpP v d (first+a.length) <;> rfl
theorem drop_one {j:Nat} (a:j<L.length):L.drop j=L.getD j []::L.drop (j+1):=by
 rw[List.drop_eq_getElem_cons a];simp[List.getD,a]
theorem Zcm:∀ (n:Nat) (b:List UInt8),b.length<=n->Qf (Qm b).1=b.take (Qm b).2.1∧∀ x ∈ (Qm b).1,x.length<=1048576
 | 0,b,hn=>by
  have e:b=[]:=List.eq_nil_of_length_eq_zero (by omega)
  subst e;rw[ZbJ];exact⟨rfl,by simp⟩
 | n+1,b,hn=>by
  by_cases e:b=[]
  ·subst e
   rw[ZbJ];exact⟨rfl,by simp⟩
  by_cases a:(Xp b).2.2=0
  ·obtain⟨c,k,j,g⟩:=Zkz a
   have i:=ZbI a;rw[ZbY e a];obtain⟨f,d⟩:=Zcm n (b.drop (Xp b).2.1) (by rw[length_drop];omega)
   refine⟨?_,fun x hx=>?_⟩
   ·show Qf ((Xp b).1::(Qm (b.drop (Xp b).2.1)).1)=b.take ((Xp b).2.1+(Qm (b.drop (Xp b).2.1)).2.1)
    rw[X4,f,<-g,List.take_add]
   ·rcases List.mem_cons.1 hx with hx | hx
    ·rw[hx];exact c
    ·exact d x hx
  ·rw[ZbX e a]
   exact⟨rfl,by simp⟩
theorem Zgc:∀ (L:List (List UInt8)) (x:List UInt8),x ∈ L->x.length+5<=(Qf L).length
 | y::L,x,hx=>by
  rw[X4,length_append];rcases List.mem_cons.1 hx with h | h
  ·rw[h,Qz]
   have:=Lib.uvarint_pos y.length;omega
  ·have:=Zgc L x h
   omega
theorem ZeG:∀ (L:List (List UInt8)),5*L.length<=(Qf L).length
 | []=>by simp
 | y::L=>by
  have:=ZeG L;have:=ZnP y;rw[X4,length_append,length_cons];omega
theorem ZeH (b:List UInt8):(∀ x ∈ (Qm b).1,x.length<=1048576∧x.length<=b.length)∧5*(Qm b).1.length<=b.length:=by
 obtain⟨c,d⟩:=Zcm _ b zL
 have e:(Qf (Qm b).1).length<=b.length:=by
  rw[c,List.length_take];omega
 refine⟨fun x a=>⟨d x a,?_⟩,?_⟩
 ·have:=Zgc _ x a
  omega
 ·have:=ZeG (Qm b).1
  omega
theorem Zuv (h:2<=L.length):(L.take (L.length-1)).headD []=L.headD []∧(L.take (L.length-1)).tail=L.tail.dropLast∧L.getLastD []=L.getD (L.length-1) []∧L.headD []=(L.take (L.length-1)).getD 0 []:=by
 match L,h with
 | x::y::t,_=>
  refine⟨rfl,?_,?_,rfl⟩
  ·show((x::y::t).take (t.length+1)).tail=(y::t).dropLast
   rw[List.take_succ_cons,List.tail_cons,List.dropLast_eq_take,length_cons];rfl
  ·rw[List.getLastD_eq_getLast?,List.getLast?_eq_getElem?]
   simp[List.getD]
theorem Zyd (c:2<=L.length):Zyo L=match Za ((L.take (L.length-1)).headD []) with
 | .error e=>(Zen,e)
 | .ok (v,k,f)=>if(ZoU (L.take (L.length-1)) v k f).2.2≠0 then(Zen,(ZoU (L.take (L.length-1)) v k f).2.2)
  else if Zyn ((L.take (L.length-1)).headD []) (L.take (L.length-1)).tail=L.getD (L.length-1) [] then((ZoU (L.take (L.length-1)) v k f).1,0) else(Zen,16):=by
 obtain⟨b,a,d,_⟩:=Zuv c;unfold Zyo ZoU;rw[if_neg (by omega),b,a,d]
 cases Za (L.headD []) <;> rfl
theorem Zuw (w:World) (ao:Option Addr) (L:List (List UInt8)) (m cap:Nat) (j:m=L.length) (b:RdL w (.slice ao m cap) L) (n:Nat) (d:n<=L.length):
 ∃ a c,RdL w (.slice a (L.drop n).length c) (L.drop n)∧∀ i:Int,i=(n:Int)->∀ W,(Instr.sliceAt 144 (.slice ao m cap) (some (.int .i64 i)) none none).run prog W=.ok (.slice a (L.drop n).length c) W:=by
 subst j
 have g:L.length<=cap:=by
  obtain⟨a,c,e,h,-⟩:=b;simp only [Value.slice.injEq] at e;omega
 have h:=b.mid n L.length cap d zL g zL;rw[List.take_of_length_le (by rw[length_drop];omega)] at h
 unfold sliced at h;refine⟨_,_,by rw[length_drop];exact h,fun i f W=>?_⟩
 subst f;rw[run_sliceAt_slice W 144 _ _ _ _ Zde,run_slice_l W 144 ao L.length cap Zde .i64 (n:Int) (by omega) (by omega),ZhN,ZjO,length_drop]
 rfl
theorem ZrS (w:World) (ao:Option Addr) (L:List (List UInt8)) (m cap:Nat) (g:m=L.length) (b:RdL w (.slice ao m cap) L) (n:Nat) (d:n<=L.length):
 RdL w (.slice ao n cap) (L.take n)∧∀ i:Int,i=(n:Int)->∀ W,(Instr.sliceAt 144 (.slice ao m cap) none (some (.int .i64 i)) none).run prog W=.ok (.slice ao n cap) W:=by
 subst g
 have j:L.length<=cap:=by
  obtain⟨a,c,e,h,-⟩:=b;simp only [Value.slice.injEq] at e;omega
 refine⟨b.front n d,fun i f W=>?_⟩
 subst f;rw[run_sliceAt_slice W 144 _ _ _ _ Zde,run_slice_h W 144 ao L.length cap Zde .i64 (n:Int) (by omega) (by omega),ZhN,ZjO]
 show Result.ok (sliced ao 0 n cap 1) W=_;unfold sliced
 have e:(if cap=0 then ao else ao.map (·.add (0*1)))=ao:=by
  split
  ·rfl
  ·cases ao <;> simp[Addr.add]
 rw[e,Nat.sub_zero,Nat.sub_zero]
theorem Zwr {d:List UInt8} (h:Za d=.error x):x≠0:=by
 intro a;rw[a] at h;unfold Za at h;simp only at h
 repeat' split at h
 all_goals simp at h
def ZaS (w:World) (b:List UInt8) (e:Ending) (w':World):Prop:=
 ∃ vl,e=.returned (.tuple #[.agg #[.int .i64 (Ju b).1.kind,.int .i64 (Ju b).1.first,vl],.int .i64 ((Ju b).2.1:Nat),.bool (Ju b).2.2])∧RdR w' vl (Ju b).1.recs∧Below w.heap.size w w'
theorem ZaS.fail (h:Ju b=(Zen,0,false)) (a:Below w.heap.size w w'):ZaS w b (.returned (.tuple #[.agg #[.int .i64 0,.int .i64 0,.slice none 0 0],.int .i64 0,.bool false])) w':=by
 refine⟨.slice none 0 0,?_,?_,a⟩
 ·rw[h]
  rfl
 ·rw[h]
  exact RdR.nil _
theorem Zih (v:Nat) (first:Int):∀ (B:List (List UInt8)) (a:List Rec) (last:Nat),(Z9 v first B a last).2.1<=B.length
 | [],a,last=>by rw[Z9];simp
 | d::ds,a,last=>by
  rw[ZrR,length_cons]
  cases ZpP v d (first+a.length) with
  | none=>simp
  | some r=>
   simp only;split
   ·simp
   split
   ·simp
   have b:=Zih v first ds (a++r) r.length;simp only;omega
theorem ZeI (L:List (List UInt8)) (c:Nat):(Qf (L.take c)).length<=(Qf L).length:=by
 have h:=Zcs (L.map Qe) c;rw[Zds,<-List.map_take,Zds] at h;exact h
theorem ZrT (h:(Qm b).1≠[]):Ju b=match Za ((Qm b).1.headD []) with
 | .error _=>(Zen,0,false)
 | .ok (v,k,f)=>((ZoU (Qm b).1 v k f).1,(Qf ((Qm b).1.take (ZoU (Qm b).1 v k f).2.1)).length,true):=by
 unfold Ju ZvE;rw[if_neg h]
 cases Za ((Qm b).1.headD []) <;> rfl
theorem Rd.drewN {l:List UInt8} (h:Rd w v l) (n:Nat):Rd (w.drewN n) v l:=h.below (Xn (Below.refl _ w) n) zL
theorem Zzc (w:World) (v:Value) (l:List UInt8) (d:Rd w v l) (K N:Int) (k n:Nat) (j:K=k) (p:N=n) (h:k+n+4<=l.length):
 ∃ f e c,(∀ q,(Instr.sliceAt 53 v none (some (.int .i64 (K+N))) (some (.int .i64 (K+N)))).run prog (w.drewN q)=.ok f (w.drewN q))∧
  (∀ q,(Instr.sliceAt 53 v (some (.int .i64 K)) (some (.int .i64 (K+N))) (some (.int .i64 (K+N)))).run prog (w.drewN q)=.ok e (w.drewN q))∧
  (∀ q,(Instr.sliceAt 53 v (some (.int .i64 (K+N))) (some (.int .i64 (K+N+4))) (some (.int .i64 (K+N+4)))).run prog (w.drewN q)=.ok c (w.drewN q))∧
  Rd w f (l.take (k+n))∧Rd w e ((l.drop k).take n)∧Rd w c ((l.drop (k+n)).take 4):=by
 have b:=d;obtain⟨ao,cap,rfl,m,_⟩:=d;have a:(K+N).toNat=k+n:=by omega
 have i:K.toNat=k:=by omega
 have g:(K+N+4).toNat=k+n+4:=by omega
 refine⟨sliced ao 0 (k+n) (k+n) 1,sliced ao k (k+n) (k+n) 1,sliced ao (k+n) (k+n+4) (k+n+4) 1,?_,?_,?_,?_,?_,?_⟩
 ·intro q
  rw[run_sliceAt_slice _ 53 _ _ _ _ Xf,run_slice_hm _ 53 ao l.length cap Xf .i64 .i64 (K+N) (K+N) (by omega) (by omega) (by omega),Zw,Zcd,a]
  rfl
 ·intro q
  rw[run_sliceAt_slice _ 53 _ _ _ _ Xf,run_slice_lhm _ 53 ao l.length cap Xf .i64 .i64 .i64 K (K+N) (K+N) (by omega) (by omega) (by omega) (by omega),Zw,Zcd,a,i]
  rfl
 ·intro q
  rw[run_sliceAt_slice _ 53 _ _ _ _ Xf,run_slice_lhm _ 53 ao l.length cap Xf .i64 .i64 .i64 (K+N) (K+N+4) (K+N+4) (by omega) (by omega) (by omega) (by omega),Zw,Zcd,a,g]
  rfl
 ·have:=b.mid 0 (k+n) (k+n) (by omega) (by omega) (by omega) (by omega)
  simpa using this
 ·have:=b.mid k (k+n) (k+n) (by omega) (by omega) (by omega) (by omega)
  rwa [show k+n-k=n by omega] at this
 ·have:=b.mid (k+n) (k+n+4) (k+n+4) (by omega) (by omega) (by omega) (by omega)
  rwa [show k+n+4-(k+n)=4 by omega] at this
theorem ZdQ {b:Array Oper} {C:World->Prop} {Q:Act->Prop} {rest:List Oper} {o:Oper} {a:Act} (e:o.guard=none) (x:Operand) (lo c d:Option Operand)
 (k:o.op=.slice 53 x lo c d) (j:∀ w',C w'->∃ q,w'=w.drewN q) (v:Value)
 (g:∀ q,(Instr.sliceAt 53 (a.eval x) (lo.map a.eval) (c.map a.eval) (d.map a.eval)).run prog (w.drewN q)=.ok v (w.drewN q))
 (h:wpQuiet prog b C Q rest (a.put o.dst v)):wpQuiet prog b C Q (o::rest) a:=
 wpQuiet_step fun _ f=>by
  rw[if_pos (by simp[Region.wanted,e])]
  refine⟨v,fun w' i=>?_,f _ h⟩
  obtain⟨q,rfl⟩:=j w' i;unfold Oper.quietAt execOp;simp only [k,g,Sem.run_bind,Sem.run_pure,Result.andThen_ok,Oper.quietUpon,and_self]
theorem ZrU (v:Value) (l:List UInt8) (w:World) (u:Rd w v l):
 Calls prog 199 #[v] w fun e w'=>ZdO w l e w':=by
 have HR:=ZZ u;have b:=ZZ (ZxG v l w u);have c:=ZZ (ZcI v l w u);obtain⟨ao,cap,rfl,Y,I,aC,aD⟩:=u;clear aC aD;have aG:(l.length:Int)<=9223372036854775807:=by unfold maxLen at I;omega
 have aF:=ZZ Y;have aI:=ZZ I;clear Y I;by_cases m:Jp l
 ·have a:=ZZ (Zys m)
  have O:Hid (decide (Jp l)=true):=decide_eq_true m;rw[O.o] at b;clear m c
  go_enter func199,ntmps199
  go_wp2_with fail
  refine b.o.mono ?_;rintro e d ⟨rfl,rfl⟩;clear b;go_wp2
  go_ret3
  exact ZdO.refused a.o
 have O:Hid (decide (Jp l)=false):=decide_eq_false m;rw[O.o] at b;have p:=ZZ m;clear m;have Q:=Q4 l;obtain⟨n,A⟩:∃ n,n=(Qb l).1:=⟨_,rfl⟩;obtain⟨k,t⟩:∃ k,k=(Qb l).2:=⟨_,rfl⟩;rw[<-A,<-t] at Q c;have i:=ZZ A;have j:=ZZ t;have H:=ZrC l
 have al:(n:Int)<4611686018427387904∧(k:Int)<=l.length∧(k:Int)<=9:=by
  rw[<-t] at H;rcases Q with h | h
  ·have J:n=0:=by rw[A,h]
   have h2:k=0:=by rw[t,h]
   omega
  ·omega
 clear H;obtain⟨N,B⟩:∃ N:Int,N=(n:Int):=⟨_,rfl⟩;obtain⟨K,R⟩:∃ K:Int,K=(k:Int):=⟨_,rfl⟩;rw[<-B,<-R] at al c;obtain⟨aL,aH,H⟩:=al;have aE:0<=N:=by omega
 have aJ:0<=K:=by omega
 have f:=ZZ B;have g:=ZZ R;clear B R;clear Q A t;by_cases L:K=0
 ·have a:=ZZ (Zyt p.out (by rw[<-j.o];have:=g.o;omega))
  subst L
  go_enter func199,ntmps199
  go_wp2_with fail
  refine b.o.mono ?_;rintro e d ⟨rfl,rfl⟩;clear b
  go_wp2_with fail
  refine c.o.mono ?_;rintro e d ⟨rfl,rfl⟩;clear c;go_wp2
  go_ret3
  exact ZdO.refused a.o
 have ez:(K == 0)=false:=beq_eq_false_iff_ne.2 L;have aM:1<=K:=by omega
 have y:=ZZ (show(Qb l).2≠0 by rw[<-j.o];have:=g.o;omega)
 clear L;by_cases c3:1048576<N
 ·have a:=ZZ (Zyu p.out y.out (by rw[<-i.o];have:=f.o;omega))
  go_enter func199,ntmps199
  go_wp2_with fail
  refine b.o.mono ?_;rintro e d ⟨rfl,rfl⟩;clear b
  go_wp2_with fail
  refine c.o.mono ?_;rintro e d ⟨rfl,rfl⟩;clear c;go_wp2
  go_ret3
  exact ZdO.refused a.o
 have P:=ZZ (show ¬ 1048576<(Qb l).1 by rw[<-i.o];have:=f.o;omega)
 by_cases c4:(l.length:Int)<K+N+4
 ·have a:=ZZ (Zyv p.out y.out P.out (by rw[<-i.o,<-j.o];have:=f.o;have:=g.o;omega))
  go_enter func199,ntmps199
  go_wp2_with fail
  refine b.o.mono ?_;rintro e d ⟨rfl,rfl⟩;clear b
  go_wp2_with fail
  refine c.o.mono ?_;rintro e d ⟨rfl,rfl⟩;clear c;go_wp2
  go_ret3
  exact ZdO.refused a.o
 have C4:=ZZ (show ¬ l.length<(Qb l).2+4+(Qb l).1 by rw[<-i.o,<-j.o];have:=f.o;have:=g.o;omega)
 have C:Hid (∀ v w,Rd w v (l.take (k+n))->Calls prog 136 #[v] w fun e w'=>e=.returned (.int .u32 (Q2 0 (l.take (k+n)):Nat))∧Below w.heap.size w w'):=fun v w h=>Zle v _ w h
 have F:Hid (∀ v w,Rd w v ((l.drop (k+n)).take 4)->Calls prog 161 #[v] w fun e w'=>e=.returned (.int .u64 (Lib.leNat ((l.drop (k+n)).take 4):Nat))∧w'=w):=by
  intro v w h;have:=Zmo v _ w h
  rwa [List.take_of_length_le (by simp;omega)] at this
 have M:Hid (Lib.leNat ((l.drop (k+n)).take 4)≠Q2 0 (l.take (k+n))->Xp l=([],0,4)):=fun h=>by
  rw[i.o,j.o] at h;exact Zyw p.out y.out P.out C4.out h
 have E:Hid (Lib.leNat ((l.drop (k+n)).take 4)=Q2 0 (l.take (k+n))->Xp l=((l.drop k).take n,k+4+n,0)):=fun h=>by
  rw[i.o,j.o] at h ⊢;exact Zyx p.out y.out P.out C4.out h
 have hs:=ZpM (l.take (k+n))
 have hq:Lib.leNat ((l.drop (k+n)).take 4)<4294967296:=by
  have J:=Zhd ((l.drop (k+n)).take 4);have e4:((l.drop (k+n)).take 4).length=4:=by have:=f.o;have:=g.o;simp;omega
  rw[e4] at J;exact J
 generalize Q2 0 (l.take (k+n))=s at *;generalize Lib.leNat ((l.drop (k+n)).take 4)=q at *;obtain⟨S,V⟩:∃ S:Int,S=(s:Int):=⟨_,rfl⟩;obtain⟨T,U⟩:∃ T:Int,T=(q:Int):=⟨_,rfl⟩;rw[<-V] at C;rw[<-U] at F;have aK:0<=S:=by omega
 have aN:S<4294967296:=by omega
 have ag:=ZZ V;have ak:=ZZ U;obtain⟨v1,v2,v3,ac,an,aw,ad,aq,ap⟩:=Zzc w _ l HR.o K N k n g.o f.o (by have:=f.o;have:=g.o;omega)
 have am:=ZZ ad;have ar:=ZZ aq;have aj:=ZZ ap;have X:=ZZ ac;have av:=ZZ an;have ab:=ZZ aw;clear ad aq ap ac an aw;clear V U hs hq
 go_enter func199,ntmps199
 go_wp2_with fail
 refine b.o.mono ?_;rintro e d ⟨rfl,rfl⟩;clear b
 go_wp2_with fail
 refine c.o.mono ?_;rintro e d ⟨rfl,rfl⟩;clear c;go_wp2;refine wp_region_quiet_lit (by kernel_rfl) (by kernel_rfl) ?_
 repeat (go_big_quiet_step (fail))
 refine ZdQ rfl _ _ _ _ rfl (fun _ h=>h) v1 X.o ?_
 simp only [Act.put,List.setIfInBounds_toArray,set_cons_succ,set_cons_zero]
 repeat (go_big_quiet_step (fail))
 refine ZdQ rfl _ _ _ _ rfl (fun _ h=>h) v2 av.o ?_
 simp only [Act.put,List.setIfInBounds_toArray,set_cons_succ,set_cons_zero]
 repeat (go_big_quiet_step (fail))
 refine ZdQ rfl _ _ _ _ rfl (fun _ h=>h) v3 ab.o ?_
 simp only [Act.put,List.setIfInBounds_toArray,set_cons_succ,set_cons_zero]
 repeat (go_big_quiet_step (fail))
 refine wpQuiet_nil ?_;rintro _ ⟨nq,rfl⟩;have ae:=ZZ (Xn (Below.refl d.heap.size d) nq);have W:=ZZ (am.o.drewN nq);have af:=ZZ (ar.o.drewN nq);have ai:=ZZ (aj.o.drewN nq);clear am ar aj X av ab
 go_wp2_with fail
 refine(F.o _ _ ai.o).mono ?_;rintro e w2 ⟨rfl,rfl⟩;clear F ai
 go_wp2_with fail
 refine(C.o _ _ W.o).mono ?_;rintro e w2 ⟨rfl,D⟩;have G:=ZZ (ae.o.trans D);have ax:=ZZ (af.o.below D zL);clear C W af D ae;by_cases z:T=S
 ·have ay:(T != S)=false:=by rw[bne_eq_false_iff_eq];exact z
  have a:=ZZ (E.o (by have:=ag.o;have:=ak.o;omega))
  clear z M E;have aA:=ZZ (show((l.drop k).take n).length<=1048576 by have:=f.o;simp;omega)
  have HC:=ZZ (Zur _ _ w2 ax.o (by have:=aA.o;omega))
  generalize (l.drop k).take n=x at *
  go_wp2_with fail
  refine HC.o.mono ?_;rintro e w4 ⟨v4,rfl,Z,aa⟩;have au:=G.o.size;have aB:=ZZ (Z.mono au);have az:=ZZ (G.o.trans (aa.mono au));clear Z aa HC;go_wp2
  go_ret3
  refine⟨v4,?_,by rw[a.o];exact aB.o,az.o⟩
  rw[a.o];exact Zwf (by show K+N+4=((k+4+n:Nat):Int);have:=f.o;have:=g.o;omega) rfl
 ·have ay:(T != S)=true:=by rw[bne_iff_ne];exact z
  have a:=ZZ (M.o (by have:=ag.o;have:=ak.o;omega))
  clear z M E;go_wp2
  go_ret3
  refine⟨.slice none 0 0,?_,?_,G.o⟩
  ·rw[a.o];rfl
  ·rw[a.o];exact Own.nil _ _
theorem ZmW (v:Value) (l:List UInt8) (w:World) (y:Rd w v l) (ac:l.length<=1000000):
 Calls prog 159 #[v] w fun e w'=>∃ v',e=.returned (.tuple #[v',.int .i64 ((Qm l).2.1:Nat),.int .i64 ((Qm l).2.2:Nat)])∧ZhL w' w.heap.size v' (Qm l).1∧Below w.heap.size w w':=by
 have M:=ZZ y;obtain⟨ao,cap,rfl,P,O,R,T⟩:=y;clear R T P O;have Q:=ZZ (fun v k w h=>ZrU v (l.drop k) w h)
 go_enter func159,ntmps159
 go_wp2
 go_loopw[5,6] (fun N i wr=>∃ (A:Nat) (L:List (List UInt8)),i=.int .i64 (A:Int)∧Hid (ZtV l A L)∧Hid (ZhL wr w.heap.size N L)∧Hid (Below w.heap.size w wr)) (fun _ i _=>l.length-(intOf i).toNat)
 case atStart=>exact⟨0,[],rfl,ZtV.start l,ZhL.nil _ _,Below.refl _ _⟩
 case round=>
  obtain⟨A,L,rfl,d,C,f⟩:=hrel;have ab:=d.out.2.2;by_cases n:A<l.length
  ·have u:Hid (∃ v',(Instr.sliceAt 53 (.slice ao l.length cap) (some (.int .i64 (A:Int))) none none).run prog wr=.ok v' wr∧Rd wr v' (l.drop A)):=by
    have:=Zhz wr _ l (M.o.below f.out zL) .i64 (A:Int) (by omega) (by omega)
    rwa [Int.toNat_natCast] at this
   have B:=f.out.size
   go_wp2_with(refine Zfo _ rfl _ _ _ _ rfl _ u.o ?_)
   intro v1 D;have F:=ZZ D;clear D u
   go_wp2_with fail
   refine(Q.o _ A _ F.o).mono ?_;rintro e w2 ⟨Z,rfl,t,j⟩;have G:=ZZ (t.mono B);have q:=ZZ (C.out.below j zL);have g:=ZZ (f.out.trans (j.mono B));have I:=g.o.size;clear t j F;have p:=ZZ (fun h=>ZbI (l:=l.drop A) h)
   have J:=Ztd (l.drop A);rw[length_drop] at J;by_cases a:(Xp (l.drop A)).2.2=0
   ·have S:=ZZ (d.out.step n a)
    have h5:=p.o a;have aa:=d.out.2.1;rw[a];generalize (Xp (l.drop A)).2.1=m at *;generalize (Xp (l.drop A)).1=x at *;clear a p;obtain⟨V,W,rfl,_⟩:=G.o.rd
    go_wp2_with(at_builtin;refine Zez _ rfl _ _ rfl w.heap.size _ L rfl q.o _ x rfl G.o (by omega) I ?_)
    intro U Y z E;have H:=ZZ z;have K:=ZZ (g.o.trans E);clear z E;go_wp2;go_roundw
    case rel=>exact⟨A+m,L++[x],by go_num,S,H,K⟩
    case measure=>simp[intOf];omega
   ·have b:=ZZ (d.out.stop n a)
    clear p;generalize (Xp (l.drop A)).2.2=c at *;have X:((c:Int) != 0)=true:=by rw[bne_iff_ne];omega
    clear a;go_wp2
    go_ret3
    refine⟨_,?_,by rw[b.o];exact q.o,g.o⟩
    rw[b.o];rfl
  ·have b:=ZZ (d.out.whole n)
   go_wp2
   go_ret3
   refine⟨_,?_,by rw[b.o];exact C.out,f.out⟩
   rw[b.o];rfl
theorem ZxH (v:Value) (l:List UInt8) (w:World) (i:Rd w v l) (k:l.length<=1000000):
 Calls prog 114 #[v] w fun e w'=>∃ v',e=.returned (.tuple #[v',.int .i64 ((ZwY l).2:Nat)])∧RdL w' v' (ZwY l).1∧Below w.heap.size w w':=by
 have j:=ZZ (ZmW v l w i k);clear i
 go_enter func114,ntmps114
 go_wp2_with fail
 refine j.o.mono ?_;rintro e t ⟨q,rfl,f,g⟩;have n:=ZZ f;have d:=ZZ g;clear f g j;by_cases b:(Qm l).2.2=0
 ·have a:Hid (ZwY l=((Qm l).1,0)):=if_pos b
  rw[b];clear b;generalize (Qm l).2.1=m at *;go_wp2;go_ret2;refine⟨_,?_,by rw[a.o];exact n.o.rd,d.o⟩
  rw[a.o];rfl
 ·have a:Hid (ZwY l=([],(Qm l).2.2)):=if_neg b
  generalize (Qm l).2.1=m at *;generalize (Qm l).2.2=c at *;have p:((c:Int) != 0)=true:=by rw[bne_iff_ne];omega
  clear b;go_wp2;go_ret2;refine⟨_,?_,by rw[a.o];exact RdL.nil _,d.o⟩
  rw[a.o];rfl
end Go.Proofs.YtnahjngbneicaaaGreatDoor
