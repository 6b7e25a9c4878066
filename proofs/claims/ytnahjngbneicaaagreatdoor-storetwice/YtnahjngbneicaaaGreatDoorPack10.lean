import Derived.Test.YtnahjngbneicaaaGreatDoorPack9
namespace Go.Proofs.YtnahjngbneicaaaGreatDoor
open _root_.Go.Proofs.Tryz
open List (drop_drop drop_left getElem_mem length_append length_cons length_drop set_cons_succ set_cons_zero take_add_one take_length)
set_option maxHeartbeats 4000000
set_option maxRecDepth 100000
open Go.RowKit
variable {w w':World} {C N R T f k n p pd q:Nat} {v:Value} {K:Nat->Prop} {s:Sto} {d:Dk} {l:List Rec} {x:Int} {b:List UInt8} {L:List (List UInt8)}
theorem Zlg {B B':Nat} {e:TypeId} {xs:List Value} (h:w.ownsRow B e k v n xs) (c:Below B' w w') (l:w.heap.size<=B'):w'.ownsRow B e k v n xs:=by
 obtain⟨d,a⟩:=h;refine⟨d,?_⟩;rcases a with a | ⟨g,cap,cur,f,i,b,r⟩
 ·exact .inl a
 ·have j:g<w.heap.size:=(Array.getElem?_eq_some_iff.1 b).1
  exact .inr ⟨g,cap,cur,f,i,by rw[c.block g (by omega)];exact b,r⟩
theorem Zlh (P:List (List UInt8)) (q:Nat) (a:q<P.length):Qf (P.take (q+1))=Qf (P.take q)++Qe (P.getD q []):=by
 have b:P.take (q+1)=P.take q++[P.getD q []]:=by
  rw[take_add_one,List.getElem?_eq_getElem a];simp[List.getD,a]
 rw[b,ZcC,X4];simp[Qf]
theorem Zcr (P:List (List UInt8)) (q:Nat):(Qf (P.take q)).length<=(Qf P).length:=by
 have h:Qf P=Qf (P.take q)++Qf (P.drop q):=by rw[<-ZcC,List.take_append_drop]
 rw[h,length_append];omega
theorem ZoM (s:Qv):ZaV s=Zfe s.idx.toNat (Xt s)::Xu (Xt s):=rfl
theorem Zus (s:Qv):Xt s≠[]:=by
 unfold Xt;intro h;have b:=(List.append_eq_nil_iff.1 h).1;have a:=congrArg List.length b;have:=Zej (Zgz s.st).length;rw[List.length_nil] at a;omega
theorem ZoN (v:Value) (s:Qv) (w:World) (hs:SnV w v s):
 Calls prog 56 #[v] w fun e w'=>Zqi w s e w':=by
 have av:=ZZ hs;obtain⟨vl,vt,rfl,hl,hk,he,ht,hi⟩:=hs;obtain⟨la,lc,a9,-⟩:=id hl;obtain⟨ta,tc,a6⟩:=ht.shape;subst a9 a6;have J:=ZZ (fun W (h:Below w.heap.size w W)=>Zqh _ s W (av.o.below h zL))
 obtain⟨Q,p⟩:∃ Q,Q=w.alloc (.cells #[.int .i64 s.idx,.int .i64 s.st.kind,.slice la s.st.L.length lc,.bool s.st.shut,.int .i64 s.st.eng,.slice ta s.tab.length tc] 41):=⟨_,rfl⟩;have l:Hid (Below w.heap.size w Q):=ZZ (by rw[p];exact(Below.refl _ _).alloc zL _)
 have j:Hid (Bn Q w.heap.size #[.int .i64 s.idx,.int .i64 s.st.kind,.slice la s.st.L.length lc,.bool s.st.shut,.int .i64 s.st.eng,.slice ta s.tab.length tc]):=ZZ (by rw[p];exact heap_alloc_new w _)
 obtain⟨I,-⟩:=j.o.cell 0;obtain⟨Z,-⟩:=j.o.cell 1;obtain⟨p2,-⟩:=j.o.cell 2;obtain⟨p3,-⟩:=j.o.cell 3;obtain⟨p4,-⟩:=j.o.cell 4;obtain⟨p5,-⟩:=j.o.cell 5;unfold Zqi;clear hl hk he ht hi;by_cases d:Zdk s
 case neg=>
  rw[if_neg d,if_neg d];rw[decide_eq_false d] at J;clear d
  go_enter func56,ntmps56
  go_upto_region 1 with fail
  rw[<-p];clear p
  go_wp2_with fail
  refine(J.o _ l.o).mono ?_;rintro x W1 ⟨rfl,A⟩;have u:=ZZ (l.o.trans (A.mono l.o.size));clear A;go_wp2;go_ret2;exact⟨_,rfl,Own.nil _ _,u.o⟩
 rw[if_pos d,if_pos d];rw[decide_eq_true d] at J;have aC:=ZZ (fun W (h:Below w.heap.size w W)=>ZoL _ s W (av.o.below h zL) d)
 have a1:=ZbM d;have aO:=d.1;have X:=ZZ (fun v1 W h=>Zjg s.idx v1 (Xt s) W h)
 have P:=ZZ (fun W=>Zwm s.idx ((Xt s).length:Int) (Q2 0 (Xt s)) W aO ⟨by omega,by omega⟩ (ZpM _))
 rw[Int.toNat_natCast,Zwl] at P;have aL:=ZZ (fun v1 W h=>ZjU v1 (Xt s) W h (by omega))
 have E:Hid (ZaV s=Zfe s.idx.toNat (Xt s)::Xu (Xt s)):=ZZ (ZoM s);have al:Hid (∀ x ∈ ZaV s,x.length<=1048576):=ZZ (ZqR d);have an:Hid ((Qf (ZaV s)).length<=80000):=ZZ (Zwn d);have aT:Hid (Zvo s=Qf (ZaV s)):=ZZ rfl;rw[aT.o]
 have aq:Hid (0<(Xu (Xt s)).length∧(Xu (Xt s)).length<=5000):=ZZ (by
  constructor
  ·rw[Y7 (Zus s)]
   simp
  ·have h1:=Zcr (ZaV s) (ZaV s).length
   have h2:∀ (L:List (List UInt8)),(∀ x ∈ L,1<=x.length)->L.length<=L.flatten.length:=fun L hL=>by
    induction L with
    | nil=>simp
    | cons x t ih=>
     have S:=hL x (by simp)
     have h4:=ih (fun y hy=>hL y (by simp[hy]))
     rw[length_cons,List.flatten_cons,length_append];omega
   have S:=h2 (Xu (Xt s)) (fun x hx=>(Zff _ _ x zL hx).2)
   rw[Zhf _ _ zL] at S
   omega)
 generalize Xt s=M at *;generalize Zfe s.idx.toNat M=m at *;generalize Xu M=PW at *;generalize Q2 0 M=CR at *;obtain⟨b,aB⟩:∃ b,b=ZaV s:=⟨_,rfl⟩;rw[<-aB] at E al an ⊢;clear aB aT d;obtain⟨CI,aK⟩:∃ CI:Int,CI=(CR:Int):=⟨_,rfl⟩;rw[<-aK] at X P;clear aK av
 go_enter func56,ntmps56
 go_upto_region 1 with fail
 rw[<-p];clear p
 go_wp2_with fail
 refine(J.o _ l.o).mono ?_;rintro x W1 ⟨rfl,A⟩;have u:=ZZ (l.o.trans (A.mono l.o.size));have i:=ZZ (j.o.below A zL);clear A J I Z p2 p3 p4 p5 j l;obtain⟨I,-⟩:=i.o.cell 0;obtain⟨Z,-⟩:=i.o.cell 1;obtain⟨p2,-⟩:=i.o.cell 2;obtain⟨p3,-⟩:=i.o.cell 3;obtain⟨p4,-⟩:=i.o.cell 4;obtain⟨p5,-⟩:=i.o.cell 5
 go_wp2_with fail
 refine(aC.o _ u.o).mono ?_;rintro x W2 ⟨v2,rfl,aw,ae⟩;have ai:=ZZ (u.o.trans (ae.mono u.o.size));have aY:=ZZ (i.o.below ae zL);have am:=ZZ aw.rd;obtain⟨a2,c2,bf⟩:∃ a c,v2=.slice a M.length c:=by obtain⟨a,c,h,-⟩:=aw.rd;exact⟨a,c,h⟩
 subst bf;clear aw ae aC I Z p2 p3 p4 p5 i u;obtain⟨I,-⟩:=aY.o.cell 0
 go_wp2_with fail
 refine(X.o _ _ am.o).mono ?_;rintro x W3 ⟨rfl,Y⟩;have ad:=ZZ (ai.o.trans (Y.mono ai.o.size));have aU:=ZZ (am.o.below Y zL);clear Y X aY I ai am
 go_wp2_with fail
 refine(P.o _).mono ?_;rintro x f ⟨v4,rfl,ag,V⟩;have aE:=ZZ (ad.o.trans (V.mono ad.o.size));have ax:=ZZ (aU.o.below V zL);have aA:=ZZ ag.rd;obtain⟨n,C,bg⟩:∃ a c,v4=.slice a m.length c:=by obtain⟨a,c,h,-⟩:=ag.rd;exact⟨a,c,h⟩
 subst bg;clear ag V P ad aU;have U:Hid (Below f.heap.size f (f.alloc (.cells #[.slice n m.length C] 53))):=ZZ ((Below.refl _ _).alloc zL _);have aG:Hid ((f.alloc (.cells #[.slice n m.length C] 53)).ownsRow f.heap.size 53 1 (.slice (some ⟨f.heap.size,0,none⟩) 1 1) 1 [.slice n m.length C]):=ZZ (World.ownsRow_lit f #[.slice n m.length C] 1 zL (by unfold maxLen;omega) rfl)
 go_wp2_with fail
 refine(aL.o _ _ (ax.o.below U.o zL)).mono ?_;rintro x W6 ⟨v6,xs,rfl,ap,R,ay⟩;have ao:=ZZ (U.o.trans (ay.mono U.o.size));have aV:=ZZ (Zlg aG.o ay zL);have K:=ZZ R;have aN:=ZZ ap;clear ay R aG U aL;rcases ap.2 with ⟨-,hn⟩ | ⟨g6,a7,bq,R,-⟩
 ·have:=aq.o
  omega
 subst R;clear ap;have aQ:=ao.o.size;have bi:=aq.o
 go_wp2_with(at_builtin;refine Zal _ rfl _ _ rfl f.heap.size _ 1 [.slice n m.length C] rfl aV.o _ PW.length a7 xs rfl K.o.1 (World.ownsRow.cells aN.o rfl) K.o.one (by omega) aQ ?_)
 intro v7 k aj aM;have O:=ZZ (ao.o.trans aM);have au:=ZZ (aE.o.trans (O.o.mono aE.o.size));have aJ:=ZZ (aA.o.below O.o zL);have aZ:=ZZ (ax.o.below O.o zL);have aR:=ZZ aj;have ac:b.length=1+PW.length:=by rw[E.o,length_cons];omega
 have bm:(b.length:Int)<=100000:=by omega
 have be:Hid (∀ q,q<b.length->∃ x,([Value.slice n m.length C]++xs)[q]?=some x∧Rd k x (b.getD q [])):=ZZ (fun q z=>by
  cases q with
  | zero=>
   refine⟨_,rfl,?_⟩;rw[E.o];exact aJ.o
  | succ q=>
   obtain⟨x,h1,h2,S⟩:=K.o.2 q (by omega)
   refine⟨x,by simpa using h1,?_⟩
   rw[E.o]
   exact S k aZ.o)
 rcases aj.2 with ⟨-,hn⟩ | ⟨g7,bo,bp,ba,-⟩
 ·omega
 subst ba;rw[<-ac] at aR;clear aj aM aJ aZ aV K aA ax ao O aq bi aQ aN;have bc:Hid (∀ q,q<b.length->Qf (b.take (q+1))=Qf (b.take q)++Qe (b.getD q [])):=ZZ (fun q z=>Zlh b q z)
 have aS:Hid (∀ q,(Qf (b.take q)).length<=80000):=ZZ (fun q=>Nat.le_trans (Zcr b q) an.o)
 have bb:Hid (∀ q,q<b.length->(b.getD q []).length<=1048576):=ZZ (fun q z=>al.o _ (by rw[show b.getD q []=b[q] by simp[List.getD,z]];exact getElem_mem z))
 rw[<-ac];clear ac E al a1 aO an;go_wp2
 go_loopw[6,27] (fun vo vi wr=>∃ q:Nat,vi=.int .i64 (q:Int)∧q<=b.length∧Hid (Own wr k.heap.size vo (Qf (b.take q)))∧Hid (Below k.heap.size k wr)) (fun _ vi _=>b.length-(intOf vi).toNat)
 case atStart=>exact⟨0,rfl,Nat.zero_le _,ZZ (Own.nil _ _),Below.refl _ _⟩
 case round=>
  obtain⟨q,rfl,z,H,B⟩:=hrel;by_cases ab:q<b.length
  case neg=>
   obtain rfl:q=b.length:=by omega
   rw[take_length] at H;go_wp2;go_ret2;exact⟨_,rfl,H.out.mono au.o.size,au.o.trans (B.out.mono au.o.size)⟩
  have bn:(q:Int)<(b.length:Int):=by omega
  obtain⟨x,aX,af⟩:=be.o q ab;have N:=World.ownsRow.cells aR.o (g:=g7) rfl q x aX;rw[Addr.add_lit] at N;have aI:wr.cell? ⟨g7,0+q,none⟩=some x:=(B.out.cell (World.block_lt_of_cell? k ⟨g7,0+q,none⟩ N)).trans N;rw[Nat.zero_add] at aI;have az:=ZZ (af.below B.out zL)
  have aP:Hid (ZwX (b.getD q [])=(Qe (b.getD q []),0)):=ZZ (by
   unfold ZwX
   rw[if_pos (bb.o q ab)])
  have aa:=ZZ (bc.o q ab);have a3:=ZZ (aS.o q);have ak:=ZZ (aS.o (q+1));have T:=ZZ (Zdg x (b.getD q []) wr az.o);rw[aP.o] at T;rw[aa.o] at ak
  dsimp only at T
  obtain⟨xa,xc,bd⟩:∃ a c,x=.slice a (b.getD q []).length c:=by obtain⟨a,c,h,-⟩:=af;exact⟨a,c,h⟩
  subst bd;clear aX af N aP az;generalize Qe (b.getD q [])=F at *;generalize b.getD q []=D at *;obtain⟨G,hG⟩:∃ G,G=Qf (b.take q):=⟨_,rfl⟩;rw[<-hG] at H aa a3 ak;clear hG
  go_wp2_with fail
  refine T.o.mono ?_;rintro e W8 ⟨v8,rfl,aD,ar⟩;have bl:=ZZ aD.rd;have a0:=ZZ (H.out.below ar zL);have aH:=ZZ (B.out.trans (ar.mono B.out.size));have bk:=ZZ aH.o.size;have a8:Hid (G.length+F.length<=70368744177664):=ZZ (by have:=ak.o;rw[length_append] at this;omega)
  clear aD ar T H B aI
  go_wp2_with(at_builtin;refine Xi _ rfl _ _ rfl k.heap.size _ G rfl a0.o _ F rfl bl.o a8.o bk.o ?_)
  intro v9 W9 aW aF;have bj:=ZZ aW;have a5:=ZZ (aH.o.trans aF);clear aW aF a0;go_wp2;go_roundw
  case rel=>exact⟨q+1,by go_num,by omega,ZZ (by rw[aa.o];exact bj.o),a5⟩
  case measure=>simp[intOf];omega
theorem ZoO (w:World) (h:SD K w pd p s d N T) (g:∀ k,K k->k<w.heap.size) (q:ZoJ s):
 Calls prog 26 #[ptr p] w fun e w'=>Z6 K w pd p (Zbx (s,d)) (N+4) T e w':=by
 have b:=ZZ (ZeE w h g q);unfold Zbx;obtain⟨r,n⟩:∃ r,r=Zf (s,d):=⟨_,rfl⟩;rw[<-n] at b ⊢;have z:=ZZ g;obtain⟨R,l⟩:∃ R,R=if r.2=0 then(({ r.1.1 with cur:=0 },r.1.2),(0:Int)) else r:=⟨_,rfl⟩
 rw[<-l];have a:=ZZ l;clear h g n l q;obtain⟨⟨t,F⟩,c⟩:=r
 dsimp only at a
 unfold Z6 at b
 dsimp only at b
 go_enter func26,ntmps26
 go_wp2_with fail
 refine b.o.mono ?_;rintro e A ⟨rfl,j,i⟩;have v:=ZZ j;have u:=ZZ i;have y:Hid (∀ k,K k->k<A.heap.size):=ZZ (fun k x=>Nat.lt_of_lt_of_le (z.o k x) i.size)
 obtain⟨⟨-,-,E,-⟩,fz⟩:=j.cells;have D:=fz 12;clear j i b fz;by_cases f:c=0
 ·subst f
  rw[if_pos rfl] at a;have m:=ZZ (v.o.setHead (s':={ t with cur:=0 }) y.o 12 (.int .i64 0) rfl rfl rfl (fun _=>rfl))
  generalize t.cur=B at *;go_wp2;go_ret;rw[a.o];exact⟨rfl,m.o.1,u.o.trans m.o.2 (fun _ _ h=>h)⟩
 ·rw[if_neg f] at a
  have C:(c != 0)=true:=by rw[bne_iff_ne];exact f
  clear f;go_wp2;go_ret;rw[a.o];exact⟨rfl,v.o,u.o⟩
theorem Zut {l:List Int} (a:k<l.length) (b:l.getD k 0=x):x ∈ l:=by
 rw[<-b];exact ZhS a
theorem ZrK (v:Value) (l:List Int) (x:Int) (w:World) (C:RdI w v l):
 Calls prog 144 #[v,.int .i64 x] w fun e w'=>(∃ k:Int,e=.returned (.int .i64 k)∧((0<=k∧x ∈ l)∨(k=-1∧x ∉ l)))∧w'=w:=by
 obtain⟨ao,cap,rfl,E,t,-,-,p⟩:=C;have F:(l.length:Int)<=9223372036854775807:=by unfold maxLen at t;omega
 have D:=ZZ p;clear p t E
 go_enter func144,ntmps144
 go_wp2
 go_loop [8] (fun i=>∃ k:Nat,i=.int .i64 k∧k<=l.length∧Hid (∀ j,j<k->l.getD j 0≠x)) (fun i=>l.length-(intOf i).toNat)
 case atStart=>exact⟨0,rfl,Nat.zero_le _,fun j c=>by omega⟩
 case round=>
  obtain⟨k,rfl,G,q⟩:=hrel;by_cases a:k<l.length
  ·rcases D.o with A | ⟨g,I,rfl,m⟩
   ·rw[A] at a;simp at a
   have z:=m k a;clear m;have B:=ZZ a;obtain⟨y,d⟩:∃ y,y=l.getD k 0:=⟨_,rfl⟩;rw[<-d] at z;have n:=ZZ d;clear d;by_cases b:x=y
   ·subst b
    go_wp2;go_ret;exact⟨⟨(k:Int),rfl,.inl ⟨by omega,Zut B.o n.o.symm⟩⟩,rfl⟩
   ·have H:(x == y)=false:=beq_eq_false_iff_ne.2 b
    have f:=ZZ b;clear b;go_wp2
    go_round
    case rel=>
     refine⟨k+1,by go_num,by omega,fun j c=>?_⟩
     by_cases e:j=k
     ·rw[e,<-n.o];exact fun h=>f.o h.symm
     ·exact q.out j (by omega)
    case measure=>simp[intOf];omega
  ·have f:Hid (x ∉ l):=ZZ (fun u=>by
    obtain⟨j,c,e⟩:=List.getElem_of_mem u
    exact q.out j (by omega) (by simp[List.getD,c,e]))
   go_wp2;go_ret;exact⟨⟨-1,rfl,.inr ⟨rfl,f.o⟩⟩,rfl⟩
theorem Zli (v:Value) (l:List Int) (x:Int) (w:World) (g:RdI w v l):
 Calls prog 106 #[v,.int .i64 x] w fun e w'=>e=.returned (.bool (decide (x ∈ l)))∧w'=w:=by
 have f:=ZZ (ZrK v l x w g);obtain⟨ao,cap,rfl,-⟩:=g;obtain⟨b,d⟩:∃ b,b=decide (x ∈ l):=⟨_,rfl⟩;rw[<-d];have c:=ZZ d;clear d
 go_enter func106,ntmps106
 go_wp2_with fail
 refine f.o.mono ?_;rintro e m ⟨⟨k,rfl,i⟩,rfl⟩;clear f;rcases i with ⟨j,a⟩ | ⟨rfl,a⟩
 ·rw[decide_eq_true a] at c
  clear a;go_wp2;go_ret;rw[c.o];exact⟨rfl,rfl⟩
 ·rw[decide_eq_false a] at c
  clear a;go_wp2;go_ret;rw[c.o];exact⟨rfl,rfl⟩
theorem ZrL (w:World) (h:SD K w pd p s d N T) (z:∀ k,K k->k<w.heap.size) (G:N<=1000000) (hT:T<=1000000000):
 Calls prog 63 #[ptr p] w fun e w'=>Z6 K w pd p (Z4 (s,d)) (N+2) T e w':=by
 obtain⟨⟨c0,-⟩,-⟩:=h.cells
 have P:Hid (Calls prog 28 #[ptr pd] w fun e w'=>∃ v,e=.returned v∧Qo w' w.heap.size v (Ql d)∧Below w.heap.size w w'):=ZZ (by
  obtain⟨F,M,I,L,⟨X,A,m,-⟩,-⟩:=h
  exact Zet w A m G)
 have S:Hid (∀ n ∈ Ql d,I64 n):=ZZ (by
  obtain⟨F,M,I,L,⟨X,A,m,-⟩,-⟩:=h;intro n V;have:=ZaZ m n V
  exact⟨by omega,by omega⟩)
 have l:=ZZ h;have HK:=ZZ z;have t:Hid (∀ W,Below w.heap.size w W->Calls prog 69 #[ptr pd,.int .i64 1] W fun e w'=>Z6 K W pd p (X0 (fun d=>Qp d 1) (s,d)) (N+2) T e w'):=ZZ (fun W B=>(l.o.below B).step (fun d=>Qp d 1) (fun k Q=>Nat.lt_of_lt_of_le (HK.o k Q) B.size) (fun F Z _=>ZjD 1 ⟨by decide,by decide⟩ _ Z G hT))
 obtain⟨R,u⟩:∃ R,R=Z4 (s,d):=⟨_,rfl⟩;rw[<-u];have f:=ZZ u;clear h z u
 go_enter func63,ntmps63
 go_wp2_with fail
 refine P.o.mono ?_;rintro e x ⟨E,rfl,q,i⟩;have y:=ZZ i;have g:=ZZ (Zli E (Ql d) 1 x (q.rd S.o))
 obtain⟨a1,n1,c1,U⟩:∃ a n c,E=.slice a n c:=by
  obtain⟨a,c,hh⟩:=q.shape;exact⟨a,_,c,hh⟩
 subst U;have C:Hid (Qj (fun k=>¬ K k) w x):=ZZ (Qj.ofBelow i)
 obtain⟨⟨d0,-⟩,-⟩:=(l.o.below i).cells;clear q i P c0;by_cases b:1 ∈ Ql d
 ·rw[decide_eq_true b] at g
  have j:Hid (R=X0 (fun d=>Qp d 1) (s,d)):=ZZ (by rw[f.o];unfold Z4;rw[if_pos b])
  have H:=ZZ (t.o x y.o);rw[<-j.o] at H;clear b f t
  go_wp2_with fail
  refine g.o.mono ?_;rintro e Y ⟨rfl,rfl⟩
  go_wp2_with fail
  refine H.o.mono ?_;rintro e W3 ⟨rfl,J,O⟩;have D:=ZZ (And.intro J O);clear J O;go_wp2;go_ret;exact⟨rfl,D.o.1,C.o.trans D.o.2 (fun _ _ h=>h)⟩
 ·rw[decide_eq_false b] at g
  have j:Hid (R=((s,d),0)):=ZZ (by rw[f.o];unfold Z4;rw[if_neg b])
  clear b f t
  go_wp2_with fail
  refine g.o.mono ?_;rintro e Y ⟨rfl,rfl⟩;go_wp2;go_ret;rw[j.o];exact⟨rfl,(l.o.below y.o).mono (by omega) zL,C.o⟩
theorem ZoP (w:World) (h:SD K w pd p s d N T) (a:∀ k,K k->k<w.heap.size) (l:w.cell? ⟨R,0,none⟩=some (ptr p)):
 Calls prog 58 #[.pointer (some ⟨R,0,none⟩)] w fun e w'=>Z6 K w pd p (X0 (fun d=>Jf d 1) (s,d)) (N+2) T e w':=by
 have b:=ZZ (h.step (fun d=>Jf d 1) a (fun F i _=>ZpV 1 ⟨by decide,by decide⟩ _ i))
 obtain⟨⟨m,-⟩,-⟩:=h.cells;obtain⟨r,f⟩:∃ r,r=X0 (fun d=>Jf d 1) (s,d):=⟨_,rfl⟩
 rw[<-f] at b ⊢;clear h a f
 go_enter func58,ntmps58
 go_wp2_with fail
 refine b.o.mono ?_;rintro e n ⟨rfl,g,c⟩;have j:=ZZ (And.intro g c);clear g c;go_wp2;go_ret;exact⟨rfl,j.o⟩
theorem ZoQ (w:World) (h:SD K w pd p s d N T) (y:∀ k,K k->k<w.heap.size) (H:w.cell? ⟨R,0,none⟩=some (ptr p)) (z:K R) (G:N<=1000000) (hT:T<=1000000000):
 Calls prog 60 #[.pointer (some ⟨R,0,none⟩)] w fun e w'=>Z6 K w pd p (ZaX (s,d)) (N+2) T e w':=by
 have i:=ZZ h;have v:=ZZ y;have j:=ZZ z
 have aa:Hid (∀ W,Below w.heap.size w W->Calls prog 50 #[ptr p,.int .i64 3] W fun e w'=>e=.returned (.int .i64 (Ya d 3))∧Below w.heap.size w w'):=ZZ (fun W b=>by
  obtain⟨F,M,I,L,Q,O,-⟩:=i.o.below b;refine(ZfX 3 W O Q G (by decide) (by decide)).mono ?_
  rintro e w' ⟨rfl,c⟩
  exact⟨rfl,b.trans (c.mono b.size)⟩)
 have D:Hid (I64 (Ya d 3)):=ZZ (by
  obtain⟨F,M,I,L,⟨L1,g1,X,-⟩,-⟩:=h;have c:∀ n ∈ Xg (Ql d) 3,0<=n∧n<1048576:=fun n t=>ZaZ X n (List.mem_filter.1 t).1
  unfold Ya;generalize Xg (Ql d) 3=l at c ⊢;by_cases V:l.length=0
  ·rw[List.eq_nil_of_length_eq_zero V]
   exact⟨by decide,by decide⟩
  ·have e:l.getD (l.length-1) (3-2)=l[l.length-1]'(by omega):=by simp[List.getD,show l.length-1<l.length by omega]
   have:=c _ (getElem_mem (show l.length-1<l.length by omega))
   rw[e]
   exact⟨by omega,by omega⟩)
 have x:Hid (∀ W,Below w.heap.size w W->Calls prog 61 #[ptr pd,.int .i64 1,.int .i64 (Ya d 3)] W fun e w'=>Z6 K W pd p (ZaX (s,d)) (N+2) T e w'):=ZZ (fun W b=>(i.o.below b).step (fun d=>Zam d 1 (Ya d 3)) (fun k P=>Nat.lt_of_lt_of_le (v.o k P) b.size) (fun F Y _=>Zrc 1 (Ya d 3) ⟨by decide,by decide⟩ D.o _ Y G hT))
 have g:Hid (∀ W,Below w.heap.size w W->W.cell? ⟨R,0,none⟩=some (ptr p)∧W.cell? ⟨p,0,none⟩=some (ptr pd)):=ZZ (fun W b=>by
  obtain⟨⟨q,-⟩,-⟩:=(i.o.below b).cells
  exact⟨(b.cell (p:=⟨R,0,none⟩) (v.o R j.o)).trans H,q⟩)
 have U:Hid (∀ W W' (r:SDk × Int),Below w.heap.size w W->SD K W' pd p r.1.1 r.1.2 (N+2) T->Qj (fun k=>¬ K k) W W'->W'.cell? ⟨R,0,none⟩=some (ptr p)∧W'.cell? ⟨p,0,none⟩=some (ptr pd)):=ZZ (fun W W' (r:SDk × Int) b hs ho=>by
  obtain⟨⟨q,-⟩,-⟩:=hs.cells
  exact⟨(World.cell?_of_block (a:=⟨R,0,none⟩) (ho.block R (Nat.lt_of_lt_of_le (v.o R j.o) b.size) (fun t=>t j.o))).trans (g.o W b).1,q⟩)
 have B:Hid (Below w.heap.size w w.drew):=ZZ (Below.refl _ _).drew;obtain⟨c9,c0⟩:=g.o w (Below.refl _ _);obtain⟨r,C⟩:∃ r,r=ZaX (s,d):=⟨_,rfl⟩;rw[<-C] at x ⊢;generalize Ya d 3=nn at *;clear h y C H z D
 go_enter func60,ntmps60
 go_upto_region 1 with fail
 go_region_held(fun W=>W.cell? ⟨R,0,none⟩=some (ptr p)∧W.cell? ⟨p,0,none⟩=some (ptr pd))
  (first | (with_reducible exact g.o _ B.o) | (with_reducible exact g.o _ f.o) | (with_reducible exact S.o))
  (first
   | (go_at_call 50;refine(aa.o _ B.o).mono ?_;rintro e J ⟨rfl,E⟩;have f:=ZZ E;clear E)
   | (go_at_call 61;refine(x.o J f.o).mono ?_;rintro e Z ⟨rfl,u,m⟩;have A:=ZZ (And.intro u m);have S:=ZZ (U.o J Z r f.o u m);clear u m))
 all_goals
  go_wp2;go_ret;exact⟨rfl,A.o.1,(Qj.ofBelow f.o).trans A.o.2 (fun _ _ h=>h)⟩
theorem Zfz (h:q<l.length):l.take (q+1)=l.take q++[l.getD q Qi]:=by
 rw[take_add_one];simp[List.getD,h]
theorem ZmU:∀ (l:List Rec) (i:Int) (j:Nat),Xq i l->j<l.length->(l.getD j Qi).idx=i+j
 | r::t,i,0,h,_=>by
  have:=h.1;simp[List.getD,this]
 | r::t,i,j+1,h,hj=>by
  have:=ZmU t (i+1) j h.2 (by simpa using hj)
  simp only [List.getD,List.getElem?_cons_succ] at this ⊢;rw[this];omega
theorem ZfA:∀ (l:List Rec) (i:Int) (r:Rec),Xq i (l++[r])↔Xq i l∧r.idx=i+l.length
 | [],i,r=>by simp[Xq]
 | s::t,i,r=>by
  rw[List.cons_append,Xq,Xq,ZfA t (i+1) r,length_cons,and_assoc];constructor
  ·rintro⟨h1,h2,h3⟩
   exact⟨h1,h2,by omega⟩
  ·rintro⟨h1,h2,h3⟩
   exact⟨h1,h2,by omega⟩
theorem ZjV:∀ (l:List Rec) (i:Int) (k:Nat),Xq i l->Xq i (l.take k)
 | _,_,0,_=>by simp[Xq]
 | [],_,k+1,_=>by simp[Xq]
 | r::t,i,k+1,h=>by
  rw[List.take_succ_cons];exact⟨h.1,ZjV t (i+1) k h.2⟩
def Zji (l:List Rec) (k:Nat):Prop:=(∀ r ∈ l.take k,Qw r)∧Xq (l.headD Qi).idx (l.take k)
theorem ZrM (l:List Rec):Zji l 0:=⟨fun r h=>by simp at h,by simp[Xq]⟩
theorem ZrN (c:k<l.length):Zji l (k+1)↔Zji l k∧Qw (l.getD k Qi)∧(l.getD k Qi).idx=(l.headD Qi).idx+k:=by
 unfold Zji;rw[Zfz c,ZfA];have b:(l.take k).length=k:=by simp;omega
 rw[b];constructor
 ·rintro⟨h1,h2,h3⟩
  exact⟨⟨fun r a=>h1 r (by simp[a]),h2⟩,h1 _ (by simp),h3⟩
 ·rintro⟨⟨h1,h2⟩,h3,h4⟩
  refine⟨fun r a=>?_,h2,h4⟩
  rcases List.mem_append.1 a with h | h
  ·exact h1 r h
  ·simp only [List.mem_singleton] at h
   rw[h];exact h3
theorem Zuu (h:Zji l l.length) (b:1<=l.length) (a:l.length<=256):Yc l:=by
 unfold Zji at h;rw[take_length] at h;exact⟨b,a,h.1,h.2⟩
theorem Yc.part (h:Yc l) (k:Nat):Zji l k:=⟨fun r a=>h.2.2.1 r (List.mem_of_mem_take a),ZjV l _ k h.2.2.2⟩
theorem Zga {o:Opn} (h:Jg o):(Xo o).length<=30:=by
 have b:=Zvq (ZaG h).1;have c:=Zvq (ZaG h).2;have e:0<=o.code:=h.1;have a:o.code<=10:=h.2.1;have d:=Ji (n:=o.code.toNat) (by omega)
 unfold Xo;rw[length_append,length_append];omega
theorem ZjW {b:List Rec} (d:∀ r ∈ b,Qw r) {r:Rec} (a:Qw r):(Ys b r).length<=60:=by
 have e:=Zem d a;have c:=ZaQ a;have f:=Zga a.1;obtain⟨_,_,_,_,_,g,l,_⟩:=a;have i:=Ji (n:=r.proc.toNat) (by omega)
 have j:=Zvq e;have k:=Zvq c;unfold Ys;simp only [length_append];omega
theorem ZmV:∀ (l a:List Rec),(∀ r ∈ a,Qw r)->(∀ r ∈ l,Qw r)->(Xw a l).length<=60*l.length
 | [],_,_,_=>by simp[Xw]
 | r::t,a,hp,hl=>by
  have c:=ZjW hp (hl r (by simp))
  have d:=ZmV t (a++[r]) (fun s b=>by
   rcases List.mem_append.1 b with h | h
   ·exact hp s h
   ·simp at h;rw[h];exact hl r (by simp)) (fun s b=>hl s (by simp[b]))
  rw[Xw,length_append,length_cons];omega
def Zlj (w:World) (l:List Rec) (e:Ending) (w':World):Prop:=
 ∃ v',e=.returned (.tuple #[v',.int .i64 (if Yc l then 0 else 1)])∧Own w' w.heap.size v' (if Yc l then Y2 l else[])∧Below w.heap.size w w'
theorem Below.allocs {a:World} (h:Below a.heap.size a w) (X:Obj):Below a.heap.size a (w.alloc X):=h.alloc h.size X
theorem Zwo (h:n<128):Lib.uvarint n=[n.toUInt8]:=Lib.uvarint_small h
theorem ZjX {v:Nat} (j:1<=v) (p:v<=3) (n:k<6) (b:f<4611686018427387904):Za (X6 v k f)=.ok (v,k,f):=by
 have i:=Lib.uvarint_pos v;have l:=Lib.uvarint_pos k;have q:=Lib.uvarint_pos f
 have c:Qb ((X6 v k f).drop 1)=(v,(Lib.uvarint v).length):=by
  unfold X6;rw[List.drop_succ_cons,List.drop_zero];exact X3 _ _ (by omega)
 have a:(X6 v k f).drop (1+(Lib.uvarint v).length)=Lib.uvarint k++Lib.uvarint f:=by
  unfold X6;rw[Nat.add_comm,List.drop_succ_cons,drop_left]
 have g:Qb ((X6 v k f).drop (1+(Lib.uvarint v).length))=(k,(Lib.uvarint k).length):=by
  rw[a];exact X3 _ _ (by omega)
 have d:(X6 v k f).drop (1+(Lib.uvarint v).length+(Lib.uvarint k).length)=Lib.uvarint f:=by
  rw[<-drop_drop,a,drop_left]
 have e:Qb ((X6 v k f).drop (1+(Lib.uvarint v).length+(Lib.uvarint k).length))=(f,(Lib.uvarint f).length):=by
  rw[d];have:=X3 f [] b;rw[List.append_nil] at this;exact this
 have m:(X6 v k f).length=1+(Lib.uvarint v).length+(Lib.uvarint k).length+(Lib.uvarint f).length:=by
  unfold X6;simp only [length_cons,length_append];omega
 unfold Za;simp only [c,g,e];rw[if_neg (by rintro(h | h);exact absurd h (by unfold X6;simp);exact h rfl),if_neg (by omega),if_neg (by omega),if_neg (by omega)]
theorem ZeF {v:Nat} (e:v<=3) (d:k<6) (a:f<4611686018427387904):(X6 v k f).length<=40:=by
 have b:(Lib.uvarint v).length<=10:=Lib.uvarint_length64 (by omega)
 have c:(Lib.uvarint k).length<=10:=Lib.uvarint_length64 (by omega)
 have g:(Lib.uvarint f).length<=10:=Lib.uvarint_length64 (by omega)
 unfold X6;simp only [length_cons,length_append];omega
theorem ZoR {e:List Rec} (g:∀ r ∈ e,Qw r) {r:Rec} (d:Qw r):(Ys e r).length<=60:=by
 have i:=Zem g d;have f:=ZaQ d;obtain⟨c,_,_,_,_,j,q,_⟩:=d;have k:(Lib.uvarint r.proc.toNat).length<=10:=Lib.uvarint_length64 (by omega)
 have l:(Lib.uvarint (Lib.zigzag (r.seq-Qy e r.proc))).length<=10:=Lib.uvarint_length64 (ZbH i);have t:(Lib.uvarint r.op.code.toNat).length<=10:=Lib.uvarint_length64 (by have:=c.1;have:=c.2.1;omega)
 have p:(Lib.uvarint (Lib.zigzag r.op.a)).length<=10:=Lib.uvarint_length64 (ZbH (ZaG c).1);have m:(Lib.uvarint (Lib.zigzag r.op.b)).length<=10:=Lib.uvarint_length64 (ZbH (ZaG c).2);have n:(Lib.uvarint (Lib.zigzag r.resp)).length<=10:=Lib.uvarint_length64 (ZbH f);unfold Ys Xo;simp only [length_append];omega
theorem ZfB:∀ (l a:List Rec),(∀ r ∈ a,Qw r)->(∀ r ∈ l,Qw r)->(Xw a l).length<=60*l.length
 | [],_,_,_=>by simp[Xw]
 | r::t,a,hp,hl=>by
  have c:=hl r (by simp)
  have d:=ZoR hp c
  have e:=ZfB t (a++[r]) (fun s b=>by
   rcases List.mem_append.1 b with h | h
   ·exact hp s h
   ·rw[List.mem_singleton.1 h];exact c) (fun s b=>hl s (by simp[b]))
  rw[Xw,length_append,length_cons];omega
theorem Zck {d:List UInt8} {v:Nat} (h:Za d=.ok (v,k,f)):d=X6 v k f∧1<=v∧v<=3∧k<6∧f<4611686018427387904:=by
 unfold Za at h;simp only at h;split at h
 ·cases h
 rename_i g
 split at h
 ·cases h
 rename_i z
 split at h
 ·cases h
 rename_i u
 split at h
 ·cases h
 rename_i D
 simp only [Except.ok.injEq,Prod.mk.injEq] at h;obtain⟨y,q,p⟩:=h;have e:=Zc (l:=d.drop 1) (by omega)
 have b:=Zc (l:=d.drop (1+(Qb (d.drop 1)).2)) (by omega)
 have a:=Zc (l:=d.drop (1+(Qb (d.drop 1)).2+(Qb (d.drop (1+(Qb (d.drop 1)).2))).2)) (by omega)
 have B:f<4611686018427387904:=by
  rw[<-p];rcases Q4 (d.drop (1+(Qb (d.drop 1)).2+(Qb (d.drop (1+(Qb (d.drop 1)).2))).2)) with h | h
  ·rw[h];decide
  ·exact h.1
 rw[y] at e u;rw[q] at b D;rw[p] at a;generalize (Qb (d.drop 1)).2=i at *;generalize (Qb (d.drop (1+i))).2=j at *;generalize (Qb (d.drop (1+i+j))).2=m at *;refine⟨?_,by omega,by omega,by omega,B⟩
 cases d with
 | nil=>exact absurd (.inl rfl) g
 | cons c t=>
  have x:c=108:=by
   have:=fun h=>g (.inr h)
   simpa using Decidable.not_not.1 this
  have A:(c::t).drop 1=t:=rfl;have n:(c::t).drop (1+i)=t.drop i:=by rw[Nat.add_comm,List.drop_succ_cons]
  have C:(c::t).drop (1+i+j)=(t.drop i).drop j:=by rw[<-drop_drop,n]
  rw[A] at e;rw[n] at b;rw[C] at a
  have w:m=((t.drop i).drop j).length:=by
   have:1+i+j+m=(c::t).length:=Decidable.not_not.1 (fun h=>z (.inr (.inr (.inr h))))
   rw[length_cons] at this;rw[length_drop,length_drop];omega
  rw[w,take_length] at a;unfold X6;rw[x,e,b,a,List.take_append_drop,List.take_append_drop]
def Zgb (k f:Int):Prop:=0<=k∧k<6∧0<=f∧f<4611686018427387904
instance (k f:Int):Decidable (Zgb k f):=by unfold Zgb;infer_instance
def Zr (v k f:Int):Int:=if 1<=v∧v<=3 then(if Zgb k f then 0 else 1) else 6
def Zgr (v k f:Int):List UInt8:=if 1<=v∧v<=3 then(if Zgb k f then Qe (X6 v.toNat k.toNat f.toNat) else[]) else[]
def Zqk (w:World) (v k f:Int) (e:Ending) (w':World):Prop:=
 ∃ v',e=.returned (.tuple #[v',.int .i64 (Zr v k f)])∧Own w' w.heap.size v' (Zgr v k f)∧Below w.heap.size w w'
theorem Rd.byte (w:World) (c:UInt8):Rd (w.alloc (.cells #[.int .u8 c.toNat] 5)) (.slice (some ⟨w.heap.size,0,none⟩) 1 1) [c]:=by
 refine⟨some ⟨w.heap.size,0,none⟩,1,rfl,Nat.le_refl _,by unfold maxLen;omega,(fun h=>by cases h),.inr ⟨w.heap.size,0,rfl,fun j a=>?_⟩⟩
 have e:j=0:=by simpa using a
 subst e;rw[cell_of_row _ w.heap.size 0 _ 5 (0,0) (heap_alloc_new w _)];rfl
theorem Zlk {l:List UInt8} (h:l.length<=1048576):ZwX l=(Qe l,0):=by
 unfold ZwX;rw[if_pos h]
theorem ZrO (h:q<L.length):L.take (q+1)=L.take q++[L.getD q []]:=by
 rw[take_add_one];simp[List.getD,h]
theorem RdL.at {ao:Option Addr} {cap:Nat} (h:RdL w (.slice ao n cap) L) (k:Nat) (d:k<L.length):
 ∃ b a x,ao=some ⟨b,a,none⟩∧(∀ W,Below w.heap.size w W->W.cell? ⟨b,a+k,none⟩=some x)∧∀ W,Below w.heap.size w W->Rd W x (L.getD k []):=by
 obtain⟨t,u,e,_,_,_,l⟩:=h;simp only [Value.slice.injEq] at e;obtain⟨rfl,_,rfl⟩:=e;rcases l with j | ⟨b,a,m,i⟩
 ·rw[j] at d;simp at d
 ·obtain⟨x,f,q⟩:=i k d
  have g:b<w.heap.size:=World.block_lt_of_cell? w ⟨b,a+k,none⟩ f;exact⟨b,a,x,m,fun W c=>(c.cell (p:=⟨b,a+k,none⟩) g).trans f,fun W c=>q.below c zL⟩
theorem Zcs:∀ (L:List (List UInt8)) (k:Nat),(L.take k).flatten.length<=L.flatten.length
 | [],k=>by simp
 | x::L,0=>by simp
 | x::L,k+1=>by
  have:=Zcs L k;rw[List.take_succ_cons,List.flatten_cons,List.flatten_cons,length_append,length_append];omega
theorem Zql (h:q<L.length):L.getD q [] ∈ L:=by
 have e:L.getD q []=L[q]:=by simp[List.getD,h]
 rw[e];exact getElem_mem h
theorem Zds (B:List (List UInt8)):(B.map Qe).flatten=Qf B:=by
 unfold Qf;rw[List.flatMap_def]
theorem Zwp (l:List UInt8):(Qb l).1<4611686018427387904:=by
 rcases Q4 l with h | h
 ·rw[h];decide
 ·exact h.1
theorem Zwq (W:World) (ao:Option Addr) (cap:Nat) (l:List UInt8) (b:Rd W (.slice ao l.length cap) l) (n:Nat) (f:n<=l.length):Rd W (.slice (if cap=n then ao else Option.map (fun x=>x.add n) ao) (l.length-n) (cap-n)) (l.drop n):=by
 have d:l.length<=cap:=by
  obtain⟨a,c,e,h,-⟩:=b;simp only [Value.slice.injEq] at e;omega
 have h:=b.mid n l.length cap (by omega) (by omega) (by omega) (by omega)
 rw[List.take_of_length_le (by rw[length_drop];omega)] at h
 simpa[sliced] using h
theorem ZoS (W:World) (ao:Option Addr) (l:List UInt8) (cap:Nat) (_hlc:l.length<=cap) (i:Int) (n:Nat) (a:i=(n:Int)) (b:n<=l.length):
 (Instr.sliceAt 53 (.slice ao l.length cap) (some (.int .i64 i)) none none).run prog W=.ok (sliced ao n l.length cap 1) W:=by
 subst a;rw[run_sliceAt_slice W 53 _ _ _ _ Xf,run_slice_l W 53 ao l.length cap Xf .i64 (n:Int) (by omega) (by omega),Zw,Zcd]
 rfl
def ZaJ (w:World) (b:List UInt8) (e:Ending) (w':World):Prop:=
 ∃ (vl:Value) (l:List Rec) (n:Int),e=.returned (.tuple #[vl,.int .i64 n])∧RdR w' vl l∧DecB b l n∧Below w.heap.size w w'
theorem ZaJ.none (h:∀ a,Yc a->Y2 a≠b) (c:Below w.heap.size w w'):ZaJ w b (.returned (.tuple #[.slice none 0 0,.int .i64 3])) w':=
 ⟨_,[],3,rfl,RdR.nil _,.inr ⟨rfl,rfl,h⟩,c⟩
theorem ZrP (h:Yc l):Qw (l.headD Qi):=by
 obtain⟨b,_,a,_⟩:=h
 match l,b with
 | r::u,_=>exact a r (by simp)
theorem ZoT (h:Yc l) {b:List UInt8} (d:Y2 l=b):
 ((Qb b).1:Int)=(l.headD Qi).idx∧(Qb b).2≠0∧(Qb (b.drop (Qb b).2)).1=l.length∧(Qb (b.drop (Qb b).2)).2≠0∧b.drop ((Qb b).2+(Qb (b.drop (Qb b).2)).2)=Xw [] l:=by
 obtain⟨_,i,g,_⟩:=ZrP h;have f:=h.2.1;subst d;have c:Qb (Y2 l)=((l.headD Qi).idx.toNat,(Lib.uvarint (l.headD Qi).idx.toNat).length):=X3 _ _ (by omega)
 have a:(Y2 l).drop (Lib.uvarint (l.headD Qi).idx.toNat).length=Lib.uvarint l.length++Xw [] l:=by
  unfold Y2;rw[drop_left]
 have e:=X3 l.length (Xw [] l) (by omega)
 rw[c];simp only;rw[a,e];refine⟨by omega,Zej _,rfl,Zej _,?_⟩
 rw[<-drop_drop,a,drop_left]
theorem ZwZ (w:World) (ao:Option Addr) (l:List UInt8) (cap:Nat) (b:Rd w (.slice ao l.length cap) l) (n:Nat) (d:n<=l.length):
 ∃ a c,Rd w (.slice a (l.drop n).length c) (l.drop n)∧∀ i:Int,i=(n:Int)->∀ W,(Instr.sliceAt 53 (.slice ao l.length cap) (some (.int .i64 i)) none none).run prog W=.ok (.slice a (l.drop n).length c) W:=by
 have h:=Zwq w ao cap l b n d
 have f:l.length<=cap:=by
  obtain⟨a,c,e,h,-⟩:=b;simp only [Value.slice.injEq] at e;omega
 refine⟨_,_,by rw[length_drop];exact h,fun i g W=>?_⟩
 rw[ZoS W ao l cap f i n g d,length_drop];simp[sliced]
theorem ZjY {d:List UInt8} (h:d=[]∨d.getD 0 0≠108):Za d=.error 3:=by
 unfold Za;rw[if_pos h]
theorem ZrQ {d:List UInt8} (h:¬ (d=[]∨d.getD 0 0≠108)) {v i k j f m:Nat} (a:Qb (d.drop 1)=(v,i)) (b:Qb (d.drop (1+i))=(k,j)) (c:Qb (d.drop (1+i+j))=(f,m)):
 Za d=if i=0∨j=0∨m=0∨1+i+j+m≠d.length then .error 3 else if v<1∨3<v then .error 6 else if 6<=k then .error 1 else .ok (v,k,f):=by
 unfold Za;rw[if_neg h,a];simp only;rw[b];simp only;rw[c]
theorem Zcl {r:Rec} (h:Qw r):ZcK r:=by
 have c:=ZaQ h;obtain⟨a,f,i,j,g,e,d,_,_⟩:=h;have b:=ZaG a;exact⟨⟨by omega,by omega⟩,⟨by omega,by omega⟩,⟨by omega,by omega⟩,⟨⟨by have:=a.1;omega,by have:=a.2.1;omega⟩,b.1,b.2⟩,c⟩
def ZoU (L:List (List UInt8)) (v k f:Nat):Seg × Nat × Int:=(⟨k,f,(Z9 v f L.tail [] 16).1⟩,1+(Z9 v f L.tail [] 16).2.1,(Z9 v f L.tail [] 16).2.2)
theorem Q9.set (h:Q9 w C v l) (R i:Nat) (a:R<C) (x:Value):Q9 (w.setCell ⟨R,i,none⟩ x) C v l:=ownsRow_setCell_below h a x
theorem Zd {b:World} (h:Below C b w) (R:Nat) (a:C<=R) (d e c:Value):Below C b (((w.setCell ⟨R,0,none⟩ d).setCell ⟨R,1,none⟩ e).setCell ⟨R,2,none⟩ c):=
 ((h.setCell a _).setCell a _).setCell a _
theorem ZrR (v:Nat) (first:Int) (d:List UInt8) (b:List (List UInt8)) (a:List Rec) (last:Nat):
 Z9 v first (d::b) a last=match ZpP v d (first+a.length) with
  | none=>(a,0,3)
  | some r=>if last<16 then(a,0,3) else if 4096<a.length+r.length then(a,0,5)
   else((Z9 v first b (a++r) r.length).1,(Z9 v first b (a++r) r.length).2.1+1,(Z9 v first b (a++r) r.length).2.2):=by
 rw[Z9]
 cases ZpP v d (first+a.length) <;> rfl
theorem drop_one {j:Nat} (a:j<L.length):L.drop j=L.getD j []::L.drop (j+1):=by
 rw[List.drop_eq_getElem_cons a];simp[List.getD,a]
theorem Zcm:∀ (n:Nat) (b:List UInt8),b.length<=n->Qf (Qm b).1=b.take (Qm b).2.1∧∀ x ∈ (Qm b).1,x.length<=1048576
 | 0,b,hn=>by
  have e:b=[]:=List.eq_nil_of_length_eq_zero (by omega)
  subst e;rw[ZbJ];exact⟨rfl,by simp⟩
 | n+1,b,hn=>by
  by_cases e:b=[]
  ·subst e
   rw[ZbJ];exact⟨rfl,by simp⟩
  by_cases a:(Xp b).2.2=0
  ·obtain⟨c,k,i,g⟩:=Zkz a
   have j:=ZbI a;rw[ZbY e a];obtain⟨f,d⟩:=Zcm n (b.drop (Xp b).2.1) (by rw[length_drop];omega)
   refine⟨?_,fun x hx=>?_⟩
   ·show Qf ((Xp b).1::(Qm (b.drop (Xp b).2.1)).1)=b.take ((Xp b).2.1+(Qm (b.drop (Xp b).2.1)).2.1)
    rw[X4,f,<-g,List.take_add]
   ·rcases List.mem_cons.1 hx with hx | hx
    ·rw[hx];exact c
    ·exact d x hx
  ·rw[ZbX e a]
   exact⟨rfl,by simp⟩
theorem Zgc:∀ (L:List (List UInt8)) (x:List UInt8),x ∈ L->x.length+5<=(Qf L).length
 | y::L,x,hx=>by
  rw[X4,length_append];rcases List.mem_cons.1 hx with h | h
  ·rw[h,Qz]
   have:=Lib.uvarint_pos y.length;omega
  ·have:=Zgc L x h
   omega
theorem ZeG:∀ (L:List (List UInt8)),5*L.length<=(Qf L).length
 | []=>by simp
 | y::L=>by
  have:=ZeG L;have:=ZnP y;rw[X4,length_append,length_cons];omega
theorem ZeH (b:List UInt8):(∀ x ∈ (Qm b).1,x.length<=1048576∧x.length<=b.length)∧5*(Qm b).1.length<=b.length:=by
 obtain⟨c,d⟩:=Zcm _ b zL
 have e:(Qf (Qm b).1).length<=b.length:=by
  rw[c,List.length_take];omega
 refine⟨fun x a=>⟨d x a,?_⟩,?_⟩
 ·have:=Zgc _ x a
  omega
 ·have:=ZeG (Qm b).1
  omega
theorem Zuv (h:2<=L.length):(L.take (L.length-1)).headD []=L.headD []∧(L.take (L.length-1)).tail=L.tail.dropLast∧L.getLastD []=L.getD (L.length-1) []∧L.headD []=(L.take (L.length-1)).getD 0 []:=by
 match L,h with
 | x::y::t,_=>
  refine⟨rfl,?_,?_,rfl⟩
  ·show((x::y::t).take (t.length+1)).tail=(y::t).dropLast
   rw[List.take_succ_cons,List.tail_cons,List.dropLast_eq_take,length_cons];rfl
  ·rw[List.getLastD_eq_getLast?,List.getLast?_eq_getElem?]
   simp[List.getD]
theorem Zyd (c:2<=L.length):Zyo L=match Za ((L.take (L.length-1)).headD []) with
 | .error e=>(Zen,e)
 | .ok (v,k,f)=>if(ZoU (L.take (L.length-1)) v k f).2.2≠0 then(Zen,(ZoU (L.take (L.length-1)) v k f).2.2)
  else if Zyn ((L.take (L.length-1)).headD []) (L.take (L.length-1)).tail=L.getD (L.length-1) [] then((ZoU (L.take (L.length-1)) v k f).1,0) else(Zen,16):=by
 obtain⟨b,a,d,_⟩:=Zuv c;unfold Zyo ZoU;rw[if_neg (by omega),b,a,d]
 cases Za (L.headD []) <;> rfl
theorem Zuw (w:World) (ao:Option Addr) (L:List (List UInt8)) (m cap:Nat) (j:m=L.length) (b:RdL w (.slice ao m cap) L) (n:Nat) (f:n<=L.length):
 ∃ a c,RdL w (.slice a (L.drop n).length c) (L.drop n)∧∀ i:Int,i=(n:Int)->∀ W,(Instr.sliceAt 144 (.slice ao m cap) (some (.int .i64 i)) none none).run prog W=.ok (.slice a (L.drop n).length c) W:=by
 subst j
 have d:L.length<=cap:=by
  obtain⟨a,c,e,h,-⟩:=b;simp only [Value.slice.injEq] at e;omega
 have h:=b.mid n L.length cap f zL d zL;rw[List.take_of_length_le (by rw[length_drop];omega)] at h
 unfold sliced at h;refine⟨_,_,by rw[length_drop];exact h,fun i g W=>?_⟩
 subst g;rw[run_sliceAt_slice W 144 _ _ _ _ Zde,run_slice_l W 144 ao L.length cap Zde .i64 (n:Int) (by omega) (by omega),ZhN,ZjO,length_drop]
 rfl
theorem ZrS (w:World) (ao:Option Addr) (L:List (List UInt8)) (m cap:Nat) (g:m=L.length) (b:RdL w (.slice ao m cap) L) (n:Nat) (d:n<=L.length):
 RdL w (.slice ao n cap) (L.take n)∧∀ i:Int,i=(n:Int)->∀ W,(Instr.sliceAt 144 (.slice ao m cap) none (some (.int .i64 i)) none).run prog W=.ok (.slice ao n cap) W:=by
 subst g
 have j:L.length<=cap:=by
  obtain⟨a,c,e,h,-⟩:=b;simp only [Value.slice.injEq] at e;omega
 refine⟨b.front n d,fun i f W=>?_⟩
 subst f;rw[run_sliceAt_slice W 144 _ _ _ _ Zde,run_slice_h W 144 ao L.length cap Zde .i64 (n:Int) (by omega) (by omega),ZhN,ZjO]
 show Result.ok (sliced ao 0 n cap 1) W=_;unfold sliced
 have e:(if cap=0 then ao else ao.map (·.add (0*1)))=ao:=by
  split
  ·rfl
  ·cases ao <;> simp[Addr.add]
 rw[e,Nat.sub_zero,Nat.sub_zero]
theorem Zwr {d:List UInt8} (h:Za d=.error x):x≠0:=by
 intro a;rw[a] at h;unfold Za at h;simp only at h
 repeat' split at h
 all_goals simp at h
def ZaS (w:World) (b:List UInt8) (e:Ending) (w':World):Prop:=
 ∃ vl,e=.returned (.tuple #[.agg #[.int .i64 (Ju b).1.kind,.int .i64 (Ju b).1.first,vl],.int .i64 ((Ju b).2.1:Nat),.bool (Ju b).2.2])∧RdR w' vl (Ju b).1.recs∧Below w.heap.size w w'
theorem ZaS.fail (h:Ju b=(Zen,0,false)) (a:Below w.heap.size w w'):ZaS w b (.returned (.tuple #[.agg #[.int .i64 0,.int .i64 0,.slice none 0 0],.int .i64 0,.bool false])) w':=by
 refine⟨.slice none 0 0,?_,?_,a⟩
 ·rw[h]
  rfl
 ·rw[h]
  exact RdR.nil _
theorem Zih (v:Nat) (first:Int):∀ (B:List (List UInt8)) (a:List Rec) (last:Nat),(Z9 v first B a last).2.1<=B.length
 | [],a,last=>by rw[Z9];simp
 | d::ds,a,last=>by
  rw[ZrR,length_cons]
  cases ZpP v d (first+a.length) with
  | none=>simp
  | some r=>
   simp only;split
   ·simp
   split
   ·simp
   have b:=Zih v first ds (a++r) r.length;simp only;omega
theorem ZeI (L:List (List UInt8)) (c:Nat):(Qf (L.take c)).length<=(Qf L).length:=by
 have h:=Zcs (L.map Qe) c;rw[Zds,<-List.map_take,Zds] at h;exact h
theorem ZrT (h:(Qm b).1≠[]):Ju b=match Za ((Qm b).1.headD []) with
 | .error _=>(Zen,0,false)
 | .ok (v,k,f)=>((ZoU (Qm b).1 v k f).1,(Qf ((Qm b).1.take (ZoU (Qm b).1 v k f).2.1)).length,true):=by
 unfold Ju ZvE;rw[if_neg h]
 cases Za ((Qm b).1.headD []) <;> rfl
theorem Rd.drewN {l:List UInt8} (h:Rd w v l) (n:Nat):Rd (w.drewN n) v l:=h.below (Xn (Below.refl _ w) n) zL
theorem Zzc (w:World) (v:Value) (l:List UInt8) (f:Rd w v l) (K N:Int) (k n:Nat) (j:K=k) (m:N=n) (h:k+n+4<=l.length):
 ∃ e c d,(∀ q,(Instr.sliceAt 53 v none (some (.int .i64 (K+N))) (some (.int .i64 (K+N)))).run prog (w.drewN q)=.ok e (w.drewN q))∧
  (∀ q,(Instr.sliceAt 53 v (some (.int .i64 K)) (some (.int .i64 (K+N))) (some (.int .i64 (K+N)))).run prog (w.drewN q)=.ok c (w.drewN q))∧
  (∀ q,(Instr.sliceAt 53 v (some (.int .i64 (K+N))) (some (.int .i64 (K+N+4))) (some (.int .i64 (K+N+4)))).run prog (w.drewN q)=.ok d (w.drewN q))∧
  Rd w e (l.take (k+n))∧Rd w c ((l.drop k).take n)∧Rd w d ((l.drop (k+n)).take 4):=by
 have b:=f;obtain⟨ao,cap,rfl,p,_⟩:=f;have a:(K+N).toNat=k+n:=by omega
 have g:K.toNat=k:=by omega
 have i:(K+N+4).toNat=k+n+4:=by omega
 refine⟨sliced ao 0 (k+n) (k+n) 1,sliced ao k (k+n) (k+n) 1,sliced ao (k+n) (k+n+4) (k+n+4) 1,?_,?_,?_,?_,?_,?_⟩
 ·intro q
  rw[run_sliceAt_slice _ 53 _ _ _ _ Xf,run_slice_hm _ 53 ao l.length cap Xf .i64 .i64 (K+N) (K+N) (by omega) (by omega) (by omega),Zw,Zcd,a]
  rfl
 ·intro q
  rw[run_sliceAt_slice _ 53 _ _ _ _ Xf,run_slice_lhm _ 53 ao l.length cap Xf .i64 .i64 .i64 K (K+N) (K+N) (by omega) (by omega) (by omega) (by omega),Zw,Zcd,a,g]
  rfl
 ·intro q
  rw[run_sliceAt_slice _ 53 _ _ _ _ Xf,run_slice_lhm _ 53 ao l.length cap Xf .i64 .i64 .i64 (K+N) (K+N+4) (K+N+4) (by omega) (by omega) (by omega) (by omega),Zw,Zcd,a,i]
  rfl
 ·have:=b.mid 0 (k+n) (k+n) (by omega) (by omega) (by omega) (by omega)
  simpa using this
 ·have:=b.mid k (k+n) (k+n) (by omega) (by omega) (by omega) (by omega)
  rwa [show k+n-k=n by omega] at this
 ·have:=b.mid (k+n) (k+n+4) (k+n+4) (by omega) (by omega) (by omega) (by omega)
  rwa [show k+n+4-(k+n)=4 by omega] at this
theorem ZdQ {b:Array Oper} {C:World->Prop} {Q:Act->Prop} {rest:List Oper} {o:Oper} {a:Act} (g:o.guard=none) (x:Operand) (lo c d:Option Operand)
 (j:o.op=.slice 53 x lo c d) (k:∀ w',C w'->∃ q,w'=w.drewN q) (v:Value)
 (i:∀ q,(Instr.sliceAt 53 (a.eval x) (lo.map a.eval) (c.map a.eval) (d.map a.eval)).run prog (w.drewN q)=.ok v (w.drewN q))
 (h:wpQuiet prog b C Q rest (a.put o.dst v)):wpQuiet prog b C Q (o::rest) a:=
 wpQuiet_step fun _ e=>by
  rw[if_pos (by simp[Region.wanted,g])]
  refine⟨v,fun w' f=>?_,e _ h⟩
  obtain⟨q,rfl⟩:=k w' f;unfold Oper.quietAt execOp;simp only [j,i,Sem.run_bind,Sem.run_pure,Result.andThen_ok,Oper.quietUpon,and_self]
theorem ZrU (v:Value) (l:List UInt8) (w:World) (A:Rd w v l):
 Calls prog 199 #[v] w fun e w'=>ZdO w l e w':=by
 have HR:=ZZ A;have b:=ZZ (ZxG v l w A);have c:=ZZ (ZcI v l w A);obtain⟨ao,cap,rfl,aq,Q,aD,aA⟩:=A;clear aD aA;have aE:(l.length:Int)<=9223372036854775807:=by unfold maxLen at Q;omega
 have aK:=ZZ aq;have aH:=ZZ Q;clear aq Q;by_cases j:Jp l
 ·have a:=ZZ (Zys j)
  have B:Hid (decide (Jp l)=true):=decide_eq_true j;rw[B.o] at b;clear j c
  go_enter func199,ntmps199
  go_wp2_with fail
  refine b.o.mono ?_;rintro e d ⟨rfl,rfl⟩;clear b;go_wp2
  go_ret3
  exact ZdO.refused a.o
 have B:Hid (decide (Jp l)=false):=decide_eq_false j;rw[B.o] at b;have t:=ZZ j;clear j;have G:=Q4 l;obtain⟨n,y⟩:∃ n,n=(Qb l).1:=⟨_,rfl⟩;obtain⟨k,p⟩:∃ k,k=(Qb l).2:=⟨_,rfl⟩;rw[<-y,<-p] at G c;have i:=ZZ y;have m:=ZZ p;have R:=ZrC l
 have ab:(n:Int)<4611686018427387904∧(k:Int)<=l.length∧(k:Int)<=9:=by
  rw[<-p] at R;rcases G with h | h
  ·have I:n=0:=by rw[y,h]
   have h2:k=0:=by rw[p,h]
   omega
  ·omega
 clear R;obtain⟨N,D⟩:∃ N:Int,N=(n:Int):=⟨_,rfl⟩;obtain⟨K,V⟩:∃ K:Int,K=(k:Int):=⟨_,rfl⟩;rw[<-D,<-V] at ab c;obtain⟨aG,aJ,R⟩:=ab;have aN:0<=N:=by omega
 have aF:0<=K:=by omega
 have f:=ZZ D;have g:=ZZ V;clear D V;clear G y p;by_cases M:K=0
 ·have a:=ZZ (Zyt t.out (by rw[<-m.o];have:=g.o;omega))
  subst M
  go_enter func199,ntmps199
  go_wp2_with fail
  refine b.o.mono ?_;rintro e d ⟨rfl,rfl⟩;clear b
  go_wp2_with fail
  refine c.o.mono ?_;rintro e d ⟨rfl,rfl⟩;clear c;go_wp2
  go_ret3
  exact ZdO.refused a.o
 have ez:(K == 0)=false:=beq_eq_false_iff_ne.2 M;have aL:1<=K:=by omega
 have u:=ZZ (show(Qb l).2≠0 by rw[<-m.o];have:=g.o;omega)
 clear M;by_cases c3:1048576<N
 ·have a:=ZZ (Zyu t.out u.out (by rw[<-i.o];have:=f.o;omega))
  go_enter func199,ntmps199
  go_wp2_with fail
  refine b.o.mono ?_;rintro e d ⟨rfl,rfl⟩;clear b
  go_wp2_with fail
  refine c.o.mono ?_;rintro e d ⟨rfl,rfl⟩;clear c;go_wp2
  go_ret3
  exact ZdO.refused a.o
 have F:=ZZ (show ¬ 1048576<(Qb l).1 by rw[<-i.o];have:=f.o;omega)
 by_cases c4:(l.length:Int)<K+N+4
 ·have a:=ZZ (Zyv t.out u.out F.out (by rw[<-i.o,<-m.o];have:=f.o;have:=g.o;omega))
  go_enter func199,ntmps199
  go_wp2_with fail
  refine b.o.mono ?_;rintro e d ⟨rfl,rfl⟩;clear b
  go_wp2_with fail
  refine c.o.mono ?_;rintro e d ⟨rfl,rfl⟩;clear c;go_wp2
  go_ret3
  exact ZdO.refused a.o
 have C4:=ZZ (show ¬ l.length<(Qb l).2+4+(Qb l).1 by rw[<-i.o,<-m.o];have:=f.o;have:=g.o;omega)
 have H:Hid (∀ v w,Rd w v (l.take (k+n))->Calls prog 136 #[v] w fun e w'=>e=.returned (.int .u32 (Q2 0 (l.take (k+n)):Nat))∧Below w.heap.size w w'):=fun v w h=>Zle v _ w h
 have E:Hid (∀ v w,Rd w v ((l.drop (k+n)).take 4)->Calls prog 161 #[v] w fun e w'=>e=.returned (.int .u64 (Lib.leNat ((l.drop (k+n)).take 4):Nat))∧w'=w):=by
  intro v w h;have:=Zmo v _ w h
  rwa [List.take_of_length_le (by simp;omega)] at this
 have L:Hid (Lib.leNat ((l.drop (k+n)).take 4)≠Q2 0 (l.take (k+n))->Xp l=([],0,4)):=fun h=>by
  rw[i.o,m.o] at h;exact Zyw t.out u.out F.out C4.out h
 have C:Hid (Lib.leNat ((l.drop (k+n)).take 4)=Q2 0 (l.take (k+n))->Xp l=((l.drop k).take n,k+4+n,0)):=fun h=>by
  rw[i.o,m.o] at h ⊢;exact Zyx t.out u.out F.out C4.out h
 have hs:=ZpM (l.take (k+n))
 have hq:Lib.leNat ((l.drop (k+n)).take 4)<4294967296:=by
  have I:=Zhd ((l.drop (k+n)).take 4);have e4:((l.drop (k+n)).take 4).length=4:=by have:=f.o;have:=g.o;simp;omega
  rw[e4] at I;exact I
 generalize Q2 0 (l.take (k+n))=s at *;generalize Lib.leNat ((l.drop (k+n)).take 4)=q at *;obtain⟨S,U⟩:∃ S:Int,S=(s:Int):=⟨_,rfl⟩;obtain⟨T,O⟩:∃ T:Int,T=(q:Int):=⟨_,rfl⟩;rw[<-U] at H;rw[<-O] at E;have aI:0<=S:=by omega
 have aM:S<4294967296:=by omega
 have Y:=ZZ U;have af:=ZZ O;obtain⟨v1,v2,v3,ak,ad,aa,ac,am,au⟩:=Zzc w _ l HR.o K N k n g.o f.o (by have:=f.o;have:=g.o;omega)
 have ae:=ZZ ac;have an:=ZZ am;have W:=ZZ au;have Z:=ZZ ak;have aw:=ZZ ad;have ar:=ZZ aa;clear ac am au ak ad aa;clear U O hs hq
 go_enter func199,ntmps199
 go_wp2_with fail
 refine b.o.mono ?_;rintro e d ⟨rfl,rfl⟩;clear b
 go_wp2_with fail
 refine c.o.mono ?_;rintro e d ⟨rfl,rfl⟩;clear c;go_wp2;refine wp_region_quiet_lit (by kernel_rfl) (by kernel_rfl) ?_
 repeat (go_big_quiet_step (fail))
 refine ZdQ rfl _ _ _ _ rfl (fun _ h=>h) v1 Z.o ?_
 simp only [Act.put,List.setIfInBounds_toArray,set_cons_succ,set_cons_zero]
 repeat (go_big_quiet_step (fail))
 refine ZdQ rfl _ _ _ _ rfl (fun _ h=>h) v2 aw.o ?_
 simp only [Act.put,List.setIfInBounds_toArray,set_cons_succ,set_cons_zero]
 repeat (go_big_quiet_step (fail))
 refine ZdQ rfl _ _ _ _ rfl (fun _ h=>h) v3 ar.o ?_
 simp only [Act.put,List.setIfInBounds_toArray,set_cons_succ,set_cons_zero]
 repeat (go_big_quiet_step (fail))
 refine wpQuiet_nil ?_;rintro _ ⟨nq,rfl⟩;have av:=ZZ (Xn (Below.refl d.heap.size d) nq);have al:=ZZ (ae.o.drewN nq);have aj:=ZZ (an.o.drewN nq);have ai:=ZZ (W.o.drewN nq);clear ae an W Z aw ar
 go_wp2_with fail
 refine(E.o _ _ ai.o).mono ?_;rintro e w2 ⟨rfl,rfl⟩;clear E ai
 go_wp2_with fail
 refine(H.o _ _ al.o).mono ?_;rintro e w2 ⟨rfl,J⟩;have P:=ZZ (av.o.trans J);have aB:=ZZ (aj.o.below J zL);clear H al aj J av;by_cases z:T=S
 ·have aC:(T != S)=false:=by rw[bne_eq_false_iff_eq];exact z
  have a:=ZZ (C.o (by have:=Y.o;have:=af.o;omega))
  clear z L C;have ax:=ZZ (show((l.drop k).take n).length<=1048576 by have:=f.o;simp;omega)
  have HC:=ZZ (Zur _ _ w2 aB.o (by have:=ax.o;omega))
  generalize (l.drop k).take n=x at *
  go_wp2_with fail
  refine HC.o.mono ?_;rintro e w4 ⟨v4,rfl,ag,X⟩;have ap:=P.o.size;have az:=ZZ (ag.mono ap);have ay:=ZZ (P.o.trans (X.mono ap));clear ag X HC;go_wp2
  go_ret3
  refine⟨v4,?_,by rw[a.o];exact az.o,ay.o⟩
  rw[a.o];exact Zwf (by show K+N+4=((k+4+n:Nat):Int);have:=f.o;have:=g.o;omega) rfl
 ·have aC:(T != S)=true:=by rw[bne_iff_ne];exact z
  have a:=ZZ (L.o (by have:=Y.o;have:=af.o;omega))
  clear z L C;go_wp2
  go_ret3
  refine⟨.slice none 0 0,?_,?_,P.o⟩
  ·rw[a.o];rfl
  ·rw[a.o];exact Own.nil _ _
theorem ZmW (v:Value) (l:List UInt8) (w:World) (E:Rd w v l) (aa:l.length<=1000000):
 Calls prog 159 #[v] w fun e w'=>∃ v',e=.returned (.tuple #[v',.int .i64 ((Qm l).2.1:Nat),.int .i64 ((Qm l).2.2:Nat)])∧ZhL w' w.heap.size v' (Qm l).1∧Below w.heap.size w w':=by
 have J:=ZZ E;obtain⟨ao,cap,rfl,T,Q,R,P⟩:=E;clear R P T Q;have H:=ZZ (fun v k w h=>ZrU v (l.drop k) w h)
 go_enter func159,ntmps159
 go_wp2
 go_loopw[5,6] (fun O i wr=>∃ (A:Nat) (L:List (List UInt8)),i=.int .i64 (A:Int)∧Hid (ZtV l A L)∧Hid (ZhL wr w.heap.size O L)∧Hid (Below w.heap.size w wr)) (fun _ i _=>l.length-(intOf i).toNat)
 case atStart=>exact⟨0,[],rfl,ZtV.start l,ZhL.nil _ _,Below.refl _ _⟩
 case round=>
  obtain⟨A,L,rfl,d,G,f⟩:=hrel;have ac:=d.out.2.2;by_cases g:A<l.length
  ·have t:Hid (∃ v',(Instr.sliceAt 53 (.slice ao l.length cap) (some (.int .i64 (A:Int))) none none).run prog wr=.ok v' wr∧Rd wr v' (l.drop A)):=by
    have:=Zhz wr _ l (J.o.below f.out zL) .i64 (A:Int) (by omega) (by omega)
    rwa [Int.toNat_natCast] at this
   have B:=f.out.size
   go_wp2_with(refine Zfo _ rfl _ _ _ _ rfl _ t.o ?_)
   intro Z y;have D:=ZZ y;clear y t
   go_wp2_with fail
   refine(H.o _ A _ D.o).mono ?_;rintro e U ⟨W,rfl,u,j⟩;have C:=ZZ (u.mono B);have F:=ZZ (G.out.below j zL);have n:=ZZ (f.out.trans (j.mono B));have S:=n.o.size;clear u j D;have p:=ZZ (fun h=>ZbI (l:=l.drop A) h)
   have M:=Ztd (l.drop A);rw[length_drop] at M;by_cases a:(Xp (l.drop A)).2.2=0
   ·have N:=ZZ (d.out.step g a)
    have V:=p.o a;have ab:=d.out.2.1;rw[a];generalize (Xp (l.drop A)).2.1=m at *;generalize (Xp (l.drop A)).1=x at *;clear a p;obtain⟨a2,c2,rfl,_⟩:=C.o.rd
    go_wp2_with(at_builtin;refine Zez _ rfl _ _ rfl w.heap.size _ L rfl F.o _ x rfl C.o (by omega) S ?_)
    intro Y w3 q z;have I:=ZZ q;have K:=ZZ (n.o.trans z);clear q z;go_wp2;go_roundw
    case rel=>exact⟨A+m,L++[x],by go_num,N,I,K⟩
    case measure=>simp[intOf];omega
   ·have b:=ZZ (d.out.stop g a)
    clear p;generalize (Xp (l.drop A)).2.2=c at *;have X:((c:Int) != 0)=true:=by rw[bne_iff_ne];omega
    clear a;go_wp2
    go_ret3
    refine⟨_,?_,by rw[b.o];exact F.o,n.o⟩
    rw[b.o];rfl
  ·have b:=ZZ (d.out.whole g)
   go_wp2
   go_ret3
   refine⟨_,?_,by rw[b.o];exact G.out,f.out⟩
   rw[b.o];rfl
theorem ZxH (v:Value) (l:List UInt8) (w:World) (g:Rd w v l) (n:l.length<=1000000):
 Calls prog 114 #[v] w fun e w'=>∃ v',e=.returned (.tuple #[v',.int .i64 ((ZwY l).2:Nat)])∧RdL w' v' (ZwY l).1∧Below w.heap.size w w':=by
 have j:=ZZ (ZmW v l w g n);clear g
 go_enter func114,ntmps114
 go_wp2_with fail
 refine j.o.mono ?_;rintro e p ⟨q,rfl,d,f⟩;have k:=ZZ d;have i:=ZZ f;clear d f j;by_cases b:(Qm l).2.2=0
 ·have a:Hid (ZwY l=((Qm l).1,0)):=if_pos b
  rw[b];clear b;generalize (Qm l).2.1=m at *;go_wp2;go_ret2;refine⟨_,?_,by rw[a.o];exact k.o.rd,i.o⟩
  rw[a.o];rfl
 ·have a:Hid (ZwY l=([],(Qm l).2.2)):=if_neg b
  generalize (Qm l).2.1=m at *;generalize (Qm l).2.2=c at *;have t:((c:Int) != 0)=true:=by rw[bne_iff_ne];omega
  clear b;go_wp2;go_ret2;refine⟨_,?_,by rw[a.o];exact RdL.nil _,i.o⟩
  rw[a.o];rfl
end Go.Proofs.YtnahjngbneicaaaGreatDoor
