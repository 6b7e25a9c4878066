import Derived.Test.YtnahjngbneicaaaGreatDoorPack9
namespace Go.Proofs.YtnahjngbneicaaaGreatDoor
open _root_.Go.Proofs.Tryz
open List (drop_drop drop_left getElem_mem length_append length_cons length_drop set_cons_succ set_cons_zero take_add_one take_length)
set_option maxHeartbeats 4000000
set_option maxRecDepth 100000
open Go.RowKit
variable {w w':World} {C N R T f k n p pd q:Nat} {v:Value} {K:Nat->Prop} {s:Sto} {d:Dk} {l:List Rec} {x:Int} {b:List UInt8} {L:List (List UInt8)}
theorem Zow {B B':Nat} {e:TypeId} {xs:List Value} (h:w.ownsRow B e k v n xs) (f:Below B' w w') (j:w.heap.size<=B'):w'.ownsRow B e k v n xs:=by
 obtain⟨i,a⟩:=h;refine⟨i,?_⟩;rcases a with a | ⟨g,cap,cur,c,d,b,r⟩
 ·exact .inl a
 ·have l:g<w.heap.size:=(Array.getElem?_eq_some_iff.1 b).1
  exact .inr ⟨g,cap,cur,c,d,by rw[f.block g (by omega)];exact b,r⟩
theorem Zox (P:List (List UInt8)) (q:Nat) (a:q<P.length):Zaf (P.take (q+1))=Zaf (P.take q)++Zad (P.getD q []):=by
 have b:P.take (q+1)=P.take q++[P.getD q []]:=by
  rw[take_add_one,List.getElem?_eq_getElem a];simp[List.getD,a]
 rw[b,ZfS,ZaV];simp[Zaf]
theorem ZfG (P:List (List UInt8)) (q:Nat):(Zaf (P.take q)).length<=(Zaf P).length:=by
 have h:Zaf P=Zaf (P.take q)++Zaf (P.drop q):=by rw[<-ZfS,List.take_append_drop]
 rw[h,length_append];omega
theorem Zsc (s:ZaW):Zee s=Ziu s.idx.toNat (Zbc s)::Zbd (Zbc s):=rfl
theorem ZxI (s:ZaW):Zbc s≠[]:=by
 unfold Zbc;intro h;have a:=(List.append_eq_nil_iff.1 h).1;have b:=congrArg List.length a;have:=Zhz (ZjP s.st).length;rw[List.length_nil] at b;omega
theorem Zsd (v:Value) (s:ZaW) (w:World) (hs:SnV w v s):
 Calls prog 56 #[v] w fun e w'=>Zty w s e w':=by
 have av:=ZZ hs;obtain⟨vl,vt,rfl,hl,hk,he,ht,hi⟩:=hs;obtain⟨la,lc,aZ,-⟩:=id hl;obtain⟨ta,tc,a9⟩:=ht.shape;subst aZ a9;have H:=ZZ (fun W (h:Below w.heap.size w W)=>Ztx _ s W (av.o.below h zL))
 obtain⟨N,u⟩:∃ N,N=w.alloc (.cells #[.int .i64 s.idx,.int .i64 s.st.kind,.slice la s.st.L.length lc,.bool s.st.shut,.int .i64 s.st.eng,.slice ta s.tab.length tc] 41):=⟨_,rfl⟩;have m:Hid (Below w.heap.size w N):=ZZ (by rw[u];exact(Below.refl _ _).alloc zL _)
 have i:Hid (Bn N w.heap.size #[.int .i64 s.idx,.int .i64 s.st.kind,.slice la s.st.L.length lc,.bool s.st.shut,.int .i64 s.st.eng,.slice ta s.tab.length tc]):=ZZ (by rw[u];exact heap_alloc_new w _)
 obtain⟨E,-⟩:=i.o.cell 0;obtain⟨p1,-⟩:=i.o.cell 1;obtain⟨p2,-⟩:=i.o.cell 2;obtain⟨p3,-⟩:=i.o.cell 3;obtain⟨p4,-⟩:=i.o.cell 4;obtain⟨p5,-⟩:=i.o.cell 5;unfold Zty;clear hl hk he ht hi;by_cases d:ZgA s
 case neg=>
  rw[if_neg d,if_neg d];rw[decide_eq_false d] at H;clear d
  go_enter func56,ntmps56
  go_upto_region 1 with fail
  rw[<-u];clear u
  go_wp2_with fail
  refine(H.o _ m.o).mono ?_;rintro x W1 ⟨rfl,A⟩;have C:=ZZ (m.o.trans (A.mono m.o.size));clear A;go_wp2;go_ret2;exact⟨_,rfl,Own.nil _ _,C.o⟩
 rw[if_pos d,if_pos d];rw[decide_eq_true d] at H;have aT:=ZZ (fun W (h:Below w.heap.size w W)=>Zsb _ s W (av.o.below h zL) d)
 have bi:=Zfa d;have aR:=d.1;have ar:=ZZ (fun v1 W h=>Zmw s.idx v1 (Zbc s) W h)
 have Q:=ZZ (fun W=>ZzC s.idx ((Zbc s).length:Int) (Zaz 0 (Zbc s)) W aR ⟨by omega,by omega⟩ (Ztc _))
 rw[Int.toNat_natCast,ZzB] at Q;have aN:=ZZ (fun v1 W h=>Znk v1 (Zbc s) W h (by omega))
 have J:Hid (Zee s=Ziu s.idx.toNat (Zbc s)::Zbd (Zbc s)):=ZZ (Zsc s);have am:Hid (∀ x ∈ Zee s,x.length<=1048576):=ZZ (Zuh d);have ak:Hid ((Zaf (Zee s)).length<=80000):=ZZ (ZzD d);have aK:Hid (ZyE s=Zaf (Zee s)):=ZZ rfl;rw[aK.o]
 have aw:Hid (0<(Zbd (Zbc s)).length∧(Zbd (Zbc s)).length<=5000):=ZZ (by
  constructor
  ·rw[Zbx (ZxI s)]
   simp
  ·have h1:=ZfG (Zee s) (Zee s).length
   have h2:∀ (L:List (List UInt8)),(∀ x ∈ L,1<=x.length)->L.length<=L.flatten.length:=fun L hL=>by
    induction L with
    | nil=>simp
    | cons x t ih=>
     have S:=hL x (by simp)
     have h4:=ih (fun y hy=>hL y (by simp[hy]))
     rw[length_cons,List.flatten_cons,length_append];omega
   have S:=h2 (Zbd (Zbc s)) (fun x hx=>(Ziv _ _ x zL hx).2)
   rw[Zkv _ _ zL] at S
   omega)
 generalize Zbc s=T at *;generalize Ziu s.idx.toNat T=l at *;generalize Zbd T=PW at *;generalize Zaz 0 T=CR at *;obtain⟨b,aQ⟩:∃ b,b=Zee s:=⟨_,rfl⟩;rw[<-aQ] at J am ak ⊢;clear aQ aK d;obtain⟨CI,aU⟩:∃ CI:Int,CI=(CR:Int):=⟨_,rfl⟩;rw[<-aU] at ar Q;clear aU av
 go_enter func56,ntmps56
 go_upto_region 1 with fail
 rw[<-u];clear u
 go_wp2_with fail
 refine(H.o _ m.o).mono ?_;rintro x W1 ⟨rfl,A⟩;have C:=ZZ (m.o.trans (A.mono m.o.size));have j:=ZZ (i.o.below A zL);clear A H E p1 p2 p3 p4 p5 i m;obtain⟨E,-⟩:=j.o.cell 0;obtain⟨p1,-⟩:=j.o.cell 1;obtain⟨p2,-⟩:=j.o.cell 2;obtain⟨p3,-⟩:=j.o.cell 3;obtain⟨p4,-⟩:=j.o.cell 4;obtain⟨p5,-⟩:=j.o.cell 5
 go_wp2_with fail
 refine(aT.o _ C.o).mono ?_;rintro x W2 ⟨v2,rfl,ac,au⟩;have aq:=ZZ (C.o.trans (au.mono C.o.size));have az:=ZZ (j.o.below au zL);have Y:=ZZ ac.rd;obtain⟨a2,c2,bh⟩:∃ a c,v2=.slice a T.length c:=by obtain⟨a,c,h,-⟩:=ac.rd;exact⟨a,c,h⟩
 subst bh;clear ac au aT E p1 p2 p3 p4 p5 j C;obtain⟨E,-⟩:=az.o.cell 0
 go_wp2_with fail
 refine(ar.o _ _ Y.o).mono ?_;rintro x W3 ⟨rfl,X⟩;have al:=ZZ (aq.o.trans (X.mono aq.o.size));have aG:=ZZ (Y.o.below X zL);clear X ar az E aq Y
 go_wp2_with fail
 refine(Q.o _).mono ?_;rintro x f ⟨v4,rfl,ad,ao⟩;have aE:=ZZ (al.o.trans (ao.mono al.o.size));have V:=ZZ (aG.o.below ao zL);have aS:=ZZ ad.rd;obtain⟨z,p,bc⟩:∃ a c,v4=.slice a l.length c:=by obtain⟨a,c,h,-⟩:=ad.rd;exact⟨a,c,h⟩
 subst bc;clear ad ao Q al aG;have O:Hid (Below f.heap.size f (f.alloc (.cells #[.slice z l.length p] 53))):=ZZ ((Below.refl _ _).alloc zL _);have aB:Hid ((f.alloc (.cells #[.slice z l.length p] 53)).ownsRow f.heap.size 53 1 (.slice (some ⟨f.heap.size,0,none⟩) 1 1) 1 [.slice z l.length p]):=ZZ (World.ownsRow_lit f #[.slice z l.length p] 1 zL (by unfold maxLen;omega) rfl)
 go_wp2_with fail
 refine(aN.o _ _ (V.o.below O.o zL)).mono ?_;rintro x W6 ⟨v6,xs,rfl,an,P,ap⟩;have ag:=ZZ (O.o.trans (ap.mono O.o.size));have aD:=ZZ (Zow aB.o ap zL);have M:=ZZ P;have aL:=ZZ an;clear ap P aB O aN;rcases an.2 with ⟨-,hn⟩ | ⟨g6,bd,bn,P,-⟩
 ·have:=aw.o
  omega
 subst P;clear an;have aV:=ag.o.size;have bg:=aw.o
 go_wp2_with(at_builtin;refine ZcY _ rfl _ _ rfl f.heap.size _ 1 [.slice z l.length p] rfl aD.o _ PW.length bd xs rfl M.o.1 (World.ownsRow.cells aL.o rfl) M.o.one (by omega) aV ?_)
 intro v7 k af ax;have U:=ZZ (ag.o.trans ax);have ah:=ZZ (aE.o.trans (U.o.mono aE.o.size));have aA:=ZZ (aS.o.below U.o zL);have aY:=ZZ (V.o.below U.o zL);have aC:=ZZ af;have Z:b.length=1+PW.length:=by rw[J.o,length_cons];omega
 have bl:(b.length:Int)<=100000:=by omega
 have a7:Hid (∀ q,q<b.length->∃ x,([Value.slice z l.length p]++xs)[q]?=some x∧Rd k x (b.getD q [])):=ZZ (fun q n=>by
  cases q with
  | zero=>
   refine⟨_,rfl,?_⟩;rw[J.o];exact aA.o
  | succ q=>
   obtain⟨x,h1,h2,S⟩:=M.o.2 q (by omega)
   refine⟨x,by simpa using h1,?_⟩
   rw[J.o]
   exact S k aY.o)
 rcases af.2 with ⟨-,hn⟩ | ⟨g7,bj,bm,a6,-⟩
 ·omega
 subst a6;rw[<-Z] at aC;clear af ax aA aY aD M aS V ag U aw bg aV aL;have ba:Hid (∀ q,q<b.length->Zaf (b.take (q+1))=Zaf (b.take q)++Zad (b.getD q [])):=ZZ (fun q n=>Zox b q n)
 have aH:Hid (∀ q,(Zaf (b.take q)).length<=80000):=ZZ (fun q=>Nat.le_trans (ZfG b q) ak.o)
 have a5:Hid (∀ q,q<b.length->(b.getD q []).length<=1048576):=ZZ (fun q n=>am.o _ (by rw[show b.getD q []=b[q] by simp[List.getD,n]];exact getElem_mem n))
 rw[<-Z];clear Z J am bi aR ak;go_wp2
 go_loopw[6,27] (fun vo vi wr=>∃ q:Nat,vi=.int .i64 (q:Int)∧q<=b.length∧Hid (Own wr k.heap.size vo (Zaf (b.take q)))∧Hid (Below k.heap.size k wr)) (fun _ vi _=>b.length-(intOf vi).toNat)
 case atStart=>exact⟨0,rfl,Nat.zero_le _,ZZ (Own.nil _ _),Below.refl _ _⟩
 case round=>
  obtain⟨q,rfl,n,I,B⟩:=hrel;by_cases ai:q<b.length
  case neg=>
   obtain rfl:q=b.length:=by omega
   rw[take_length] at I;go_wp2;go_ret2;exact⟨_,rfl,I.out.mono ah.o.size,ah.o.trans (B.out.mono ah.o.size)⟩
  have bk:(q:Int)<(b.length:Int):=by omega
  obtain⟨x,aF,aj⟩:=a7.o q ai;have R:=World.ownsRow.cells aC.o (g:=g7) rfl q x aF;rw[Addr.add_lit] at R;have aM:wr.cell? ⟨g7,0+q,none⟩=some x:=(B.out.cell (World.block_lt_of_cell? k ⟨g7,0+q,none⟩ R)).trans R;rw[Nat.zero_add] at aM;have aW:=ZZ (aj.below B.out zL)
  have aO:Hid (ZAn (b.getD q [])=(Zad (b.getD q []),0)):=ZZ (by
   unfold ZAn
   rw[if_pos (a5.o q ai)])
  have aa:=ZZ (ba.o q ai);have a0:=ZZ (aH.o q);have ab:=ZZ (aH.o (q+1));have K:=ZZ (Zgw x (b.getD q []) wr aW.o);rw[aO.o] at K;rw[aa.o] at ab
  dsimp only at K
  obtain⟨xa,xc,a1⟩:∃ a c,x=.slice a (b.getD q []).length c:=by obtain⟨a,c,h,-⟩:=aj;exact⟨a,c,h⟩
  subst a1;clear aF aj R aO aW;generalize Zad (b.getD q [])=F at *;generalize b.getD q []=D at *;obtain⟨G,hG⟩:∃ G,G=Zaf (b.take q):=⟨_,rfl⟩;rw[<-hG] at I aa a0 ab;clear hG
  go_wp2_with fail
  refine K.o.mono ?_;rintro e W8 ⟨v8,rfl,ay,ae⟩;have a3:=ZZ ay.rd;have aP:=ZZ (I.out.below ae zL);have aJ:=ZZ (B.out.trans (ae.mono B.out.size));have bf:=ZZ aJ.o.size;have be:Hid (G.length+F.length<=70368744177664):=ZZ (by have:=ab.o;rw[length_append] at this;omega)
  clear ay ae K I B aM
  go_wp2_with(at_builtin;refine ZaE _ rfl _ _ rfl k.heap.size _ G rfl aP.o _ F rfl a3.o be.o bf.o ?_)
  intro v9 W9 aI aX;have bb:=ZZ aI;have a8:=ZZ (aJ.o.trans aX);clear aI aX aP;go_wp2;go_roundw
  case rel=>exact⟨q+1,by go_num,by omega,ZZ (by rw[aa.o];exact bb.o),a8⟩
  case measure=>simp[intOf];omega
theorem Zse (w:World) (h:SD K w pd p s d N T) (g:∀ k,K k->k<w.heap.size) (q:ZrZ s):
 Calls prog 26 #[ptr p] w fun e w'=>Zff K w pd p (ZeK (s,d)) (N+4) T e w':=by
 have b:=ZZ (ZhU w h g q);unfold ZeK;obtain⟨r,t⟩:∃ r,r=ZcE (s,d):=⟨_,rfl⟩;rw[<-t] at b ⊢;have A:=ZZ g;obtain⟨R,i⟩:∃ R,R=if r.2=0 then(({ r.1.1 with cur:=0 },r.1.2),(0:Int)) else r:=⟨_,rfl⟩
 rw[<-i];have a:=ZZ i;clear h g t i q;obtain⟨⟨u,F⟩,c⟩:=r
 dsimp only at a
 unfold Zff at b
 dsimp only at b
 go_enter func26,ntmps26
 go_wp2_with fail
 refine b.o.mono ?_;rintro e y ⟨rfl,l,j⟩;have n:=ZZ l;have v:=ZZ j;have x:Hid (∀ k,K k->k<y.heap.size):=ZZ (fun k z=>Nat.lt_of_lt_of_le (A.o k z) j.size)
 obtain⟨⟨-,-,C,-⟩,fz⟩:=l.cells;have E:=fz 12;clear l j b fz;by_cases f:c=0
 ·subst f
  rw[if_pos rfl] at a;have m:=ZZ (n.o.setHead (s':={ u with cur:=0 }) x.o 12 (.int .i64 0) rfl rfl rfl (fun _=>rfl))
  generalize u.cur=D at *;go_wp2;go_ret;rw[a.o];exact⟨rfl,m.o.1,v.o.trans m.o.2 (fun _ _ h=>h)⟩
 ·rw[if_neg f] at a
  have B:(c != 0)=true:=by rw[bne_iff_ne];exact f
  clear f;go_wp2;go_ret;rw[a.o];exact⟨rfl,n.o,v.o⟩
theorem ZxJ {l:List Int} (b:k<l.length) (a:l.getD k 0=x):x ∈ l:=by
 rw[<-a];exact Zli b
theorem Zva (v:Value) (l:List Int) (x:Int) (w:World) (D:RdI w v l):
 Calls prog 144 #[v,.int .i64 x] w fun e w'=>(∃ k:Int,e=.returned (.int .i64 k)∧((0<=k∧x ∈ l)∨(k=-1∧x ∉ l)))∧w'=w:=by
 obtain⟨ao,cap,rfl,E,p,-,-,n⟩:=D;have I:(l.length:Int)<=9223372036854775807:=by unfold maxLen at p;omega
 have C:=ZZ n;clear n p E
 go_enter func144,ntmps144
 go_wp2
 go_loop [8] (fun i=>∃ k:Nat,i=.int .i64 k∧k<=l.length∧Hid (∀ j,j<k->l.getD j 0≠x)) (fun i=>l.length-(intOf i).toNat)
 case atStart=>exact⟨0,rfl,Nat.zero_le _,fun j c=>by omega⟩
 case round=>
  obtain⟨k,rfl,F,t⟩:=hrel;by_cases a:k<l.length
  ·rcases C.o with A | ⟨g,G,rfl,q⟩
   ·rw[A] at a;simp at a
   have u:=q k a;clear q;have z:=ZZ a;obtain⟨y,f⟩:∃ y,y=l.getD k 0:=⟨_,rfl⟩;rw[<-f] at u;have m:=ZZ f;clear f;by_cases b:x=y
   ·subst b
    go_wp2;go_ret;exact⟨⟨(k:Int),rfl,.inl ⟨by omega,ZxJ z.o m.o.symm⟩⟩,rfl⟩
   ·have H:(x == y)=false:=beq_eq_false_iff_ne.2 b
    have d:=ZZ b;clear b;go_wp2
    go_round
    case rel=>
     refine⟨k+1,by go_num,by omega,fun j c=>?_⟩
     by_cases e:j=k
     ·rw[e,<-m.o];exact fun h=>d.o h.symm
     ·exact t.out j (by omega)
    case measure=>simp[intOf];omega
  ·have d:Hid (x ∉ l):=ZZ (fun B=>by
    obtain⟨j,c,e⟩:=List.getElem_of_mem B
    exact t.out j (by omega) (by simp[List.getD,c,e]))
   go_wp2;go_ret;exact⟨⟨-1,rfl,.inr ⟨rfl,d.o⟩⟩,rfl⟩
theorem Zoy (v:Value) (l:List Int) (x:Int) (w:World) (g:RdI w v l):
 Calls prog 106 #[v,.int .i64 x] w fun e w'=>e=.returned (.bool (decide (x ∈ l)))∧w'=w:=by
 have f:=ZZ (Zva v l x w g);obtain⟨ao,cap,rfl,-⟩:=g;obtain⟨b,d⟩:∃ b,b=decide (x ∈ l):=⟨_,rfl⟩;rw[<-d];have c:=ZZ d;clear d
 go_enter func106,ntmps106
 go_wp2_with fail
 refine f.o.mono ?_;rintro e i ⟨⟨k,rfl,h⟩,rfl⟩;clear f;rcases h with ⟨j,a⟩ | ⟨rfl,a⟩
 ·rw[decide_eq_true a] at c
  clear a;go_wp2;go_ret;rw[c.o];exact⟨rfl,rfl⟩
 ·rw[decide_eq_false a] at c
  clear a;go_wp2;go_ret;rw[c.o];exact⟨rfl,rfl⟩
theorem Zvb (w:World) (h:SD K w pd p s d N T) (z:∀ k,K k->k<w.heap.size) (O:N<=1000000) (Y:T<=1000000000):
 Calls prog 63 #[ptr p] w fun e w'=>Zff K w pd p (ZcG (s,d)) (N+2) T e w':=by
 obtain⟨⟨c0,-⟩,-⟩:=h.cells
 have D:Hid (Calls prog 28 #[ptr pd] w fun e w'=>∃ v,e=.returned v∧ZaB w' w.heap.size v (Zak d)∧Below w.heap.size w w'):=ZZ (by
  obtain⟨F,M,I,L,⟨U,A,m,-⟩,-⟩:=h
  exact ZhJ w A m O)
 have S:Hid (∀ n ∈ Zak d,I64 n):=ZZ (by
  obtain⟨F,M,I,L,⟨U,A,m,-⟩,-⟩:=h;intro n hn;have:=Zej m n hn
  exact⟨by omega,by omega⟩)
 have t:=ZZ h;have HK:=ZZ z;have q:Hid (∀ W,Below w.heap.size w W->Calls prog 69 #[ptr pd,.int .i64 1] W fun e w'=>Zff K W pd p (Zbv (fun d=>Zam d 1) (s,d)) (N+2) T e w'):=ZZ (fun W y=>(t.o.below y).step (fun d=>Zam d 1) (fun k X=>Nat.lt_of_lt_of_le (HK.o k X) y.size) (fun F hF _=>ZmT 1 ⟨by decide,by decide⟩ _ hF O Y))
 obtain⟨R,j⟩:∃ R,R=ZcG (s,d):=⟨_,rfl⟩;rw[<-j];have f:=ZZ j;clear h z j
 go_enter func63,ntmps63
 go_wp2_with fail
 refine D.o.mono ?_;rintro e l ⟨J,rfl,u,i⟩;have B:=ZZ i;have g:=ZZ (Zoy J (Zak d) 1 l (u.rd S.o))
 obtain⟨a1,n1,c1,Z⟩:∃ a n c,J=.slice a n c:=by
  obtain⟨a,c,Q⟩:=u.shape;exact⟨a,_,c,Q⟩
 subst Z;have C:Hid (Zap (fun k=>¬ K k) w l):=ZZ (Zap.ofBelow i)
 obtain⟨⟨d0,-⟩,-⟩:=(t.o.below i).cells;clear u i D c0;by_cases b:1 ∈ Zak d
 ·rw[decide_eq_true b] at g
  have x:Hid (R=Zbv (fun d=>Zam d 1) (s,d)):=ZZ (by rw[f.o];unfold ZcG;rw[if_pos b])
  have E:=ZZ (q.o l B.o);rw[<-x.o] at E;clear b f q
  go_wp2_with fail
  refine g.o.mono ?_;rintro e V ⟨rfl,rfl⟩
  go_wp2_with fail
  refine E.o.mono ?_;rintro e W3 ⟨rfl,G,H⟩;have P:=ZZ (And.intro G H);clear G H;go_wp2;go_ret;exact⟨rfl,P.o.1,C.o.trans P.o.2 (fun _ _ h=>h)⟩
 ·rw[decide_eq_false b] at g
  have x:Hid (R=((s,d),0)):=ZZ (by rw[f.o];unfold ZcG;rw[if_neg b])
  clear b f q
  go_wp2_with fail
  refine g.o.mono ?_;rintro e V ⟨rfl,rfl⟩;go_wp2;go_ret;rw[x.o];exact⟨rfl,(t.o.below B.o).mono (by omega) zL,C.o⟩
theorem Zsf (w:World) (h:SD K w pd p s d N T) (a:∀ k,K k->k<w.heap.size) (l:w.cell? ⟨R,0,none⟩=some (ptr p)):
 Calls prog 58 #[.pointer (some ⟨R,0,none⟩)] w fun e w'=>Zff K w pd p (Zbv (fun d=>Zdx d 1) (s,d)) (N+2) T e w':=by
 have b:=ZZ (h.step (fun d=>Zdx d 1) a (fun F j _=>Ztl 1 ⟨by decide,by decide⟩ _ j))
 obtain⟨⟨n,-⟩,-⟩:=h.cells;obtain⟨r,f⟩:∃ r,r=Zbv (fun d=>Zdx d 1) (s,d):=⟨_,rfl⟩
 rw[<-f] at b ⊢;clear h a f
 go_enter func58,ntmps58
 go_wp2_with fail
 refine b.o.mono ?_;rintro e m ⟨rfl,g,c⟩;have i:=ZZ (And.intro g c);clear g c;go_wp2;go_ret;exact⟨rfl,i.o⟩
theorem Zsg (w:World) (h:SD K w pd p s d N T) (x:∀ k,K k->k<w.heap.size) (y:w.cell? ⟨R,0,none⟩=some (ptr p)) (H:K R) (G:N<=1000000) (Q:T<=1000000000):
 Calls prog 60 #[.pointer (some ⟨R,0,none⟩)] w fun e w'=>Zff K w pd p (Zeg (s,d)) (N+2) T e w':=by
 have i:=ZZ h;have v:=ZZ x;have j:=ZZ H
 have S:Hid (∀ W,Below w.heap.size w W->Calls prog 50 #[ptr p,.int .i64 3] W fun e w'=>e=.returned (.int .i64 (Zbf d 3))∧Below w.heap.size w w'):=ZZ (fun W b=>by
  obtain⟨F,M,I,L,h1,X,-⟩:=i.o.below b;refine(Zjn 3 W X h1 G (by decide) (by decide)).mono ?_
  rintro e w' ⟨rfl,f⟩
  exact⟨rfl,b.trans (f.mono b.size)⟩)
 have C:Hid (I64 (Zbf d 3)):=ZZ (by
  obtain⟨F,M,I,L,⟨L1,g1,U,-⟩,-⟩:=h;have f:∀ n ∈ ZaY (Zak d) 3,0<=n∧n<1048576:=fun n u=>Zej U n (List.mem_filter.1 u).1
  unfold Zbf;generalize ZaY (Zak d) 3=l at f ⊢;by_cases V:l.length=0
  ·rw[List.eq_nil_of_length_eq_zero V]
   exact⟨by decide,by decide⟩
  ·have e:l.getD (l.length-1) (3-2)=l[l.length-1]'(by omega):=by simp[List.getD,show l.length-1<l.length by omega]
   have:=f _ (getElem_mem (show l.length-1<l.length by omega))
   rw[e]
   exact⟨by omega,by omega⟩)
 have B:Hid (∀ W,Below w.heap.size w W->Calls prog 61 #[ptr pd,.int .i64 1,.int .i64 (Zbf d 3)] W fun e w'=>Zff K W pd p (Zeg (s,d)) (N+2) T e w'):=ZZ (fun W b=>(i.o.below b).step (fun d=>Zdg d 1 (Zbf d 3)) (fun k P=>Nat.lt_of_lt_of_le (v.o k P) b.size) (fun F Y _=>Zus 1 (Zbf d 3) ⟨by decide,by decide⟩ C.o _ Y G Q))
 have g:Hid (∀ W,Below w.heap.size w W->W.cell? ⟨R,0,none⟩=some (ptr p)∧W.cell? ⟨p,0,none⟩=some (ptr pd)):=ZZ (fun W b=>by
  obtain⟨⟨t,-⟩,-⟩:=(i.o.below b).cells
  exact⟨(b.cell (p:=⟨R,0,none⟩) (v.o R j.o)).trans y,t⟩)
 have Z:Hid (∀ W W' (r:SDk × Int),Below w.heap.size w W->SD K W' pd p r.1.1 r.1.2 (N+2) T->Zap (fun k=>¬ K k) W W'->W'.cell? ⟨R,0,none⟩=some (ptr p)∧W'.cell? ⟨p,0,none⟩=some (ptr pd)):=ZZ (fun W W' (r:SDk × Int) b hs ho=>by
  obtain⟨⟨t,-⟩,-⟩:=hs.cells
  exact⟨(World.cell?_of_block (a:=⟨R,0,none⟩) (ho.block R (Nat.lt_of_lt_of_le (v.o R j.o) b.size) (fun u=>u j.o))).trans (g.o W b).1,t⟩)
 have D:Hid (Below w.heap.size w w.drew):=ZZ (Below.refl _ _).drew;obtain⟨c9,c0⟩:=g.o w (Below.refl _ _);obtain⟨r,E⟩:∃ r,r=Zeg (s,d):=⟨_,rfl⟩;rw[<-E] at B ⊢;generalize Zbf d 3=nn at *;clear h x E y H C
 go_enter func60,ntmps60
 go_upto_region 1 with fail
 go_region_held(fun W=>W.cell? ⟨R,0,none⟩=some (ptr p)∧W.cell? ⟨p,0,none⟩=some (ptr pd))
  (first | (with_reducible exact g.o _ D.o) | (with_reducible exact g.o _ c.o) | (with_reducible exact aa.o))
  (first
   | (go_at_call 50;refine(S.o _ D.o).mono ?_;rintro e A ⟨rfl,J⟩;have c:=ZZ J;clear J)
   | (go_at_call 61;refine(B.o A c.o).mono ?_;rintro e O ⟨rfl,q,m⟩;have z:=ZZ (And.intro q m);have aa:=ZZ (Z.o A O r c.o q m);clear q m))
 all_goals
  go_wp2;go_ret;exact⟨rfl,z.o.1,(Zap.ofBelow c.o).trans z.o.2 (fun _ _ h=>h)⟩
theorem ZiP (h:q<l.length):l.take (q+1)=l.take q++[l.getD q Zaj]:=by
 rw[take_add_one];simp[List.getD,h]
theorem Zqk:∀ (l:List Rec) (i:Int) (j:Nat),Zbb i l->j<l.length->(l.getD j Zaj).idx=i+j
 | r::t,i,0,h,_=>by
  have:=h.1;simp[List.getD,this]
 | r::t,i,j+1,h,hj=>by
  have:=Zqk t (i+1) j h.2 (by simpa using hj)
  simp only [List.getD,List.getElem?_cons_succ] at this ⊢;rw[this];omega
theorem ZiQ:∀ (l:List Rec) (i:Int) (r:Rec),Zbb i (l++[r])↔Zbb i l∧r.idx=i+l.length
 | [],i,r=>by simp[Zbb]
 | s::t,i,r=>by
  rw[List.cons_append,Zbb,Zbb,ZiQ t (i+1) r,length_cons,and_assoc];constructor
  ·rintro⟨h1,h2,h3⟩
   exact⟨h1,h2,by omega⟩
  ·rintro⟨h1,h2,h3⟩
   exact⟨h1,h2,by omega⟩
theorem Znl:∀ (l:List Rec) (i:Int) (k:Nat),Zbb i l->Zbb i (l.take k)
 | _,_,0,_=>by simp[Zbb]
 | [],_,k+1,_=>by simp[Zbb]
 | r::t,i,k+1,h=>by
  rw[List.take_succ_cons];exact⟨h.1,Znl t (i+1) k h.2⟩
def Zmy (l:List Rec) (k:Nat):Prop:=(∀ r ∈ l.take k,ZaA r)∧Zbb (l.headD Zaj).idx (l.take k)
theorem Zvc (l:List Rec):Zmy l 0:=⟨fun r h=>by simp at h,by simp[Zbb]⟩
theorem Zvd (c:k<l.length):Zmy l (k+1)↔Zmy l k∧ZaA (l.getD k Zaj)∧(l.getD k Zaj).idx=(l.headD Zaj).idx+k:=by
 unfold Zmy;rw[ZiP c,ZiQ];have b:(l.take k).length=k:=by simp;omega
 rw[b];constructor
 ·rintro⟨h1,h2,h3⟩
  exact⟨⟨fun r a=>h1 r (by simp[a]),h2⟩,h1 _ (by simp),h3⟩
 ·rintro⟨⟨h1,h2⟩,h3,h4⟩
  refine⟨fun r a=>?_,h2,h4⟩
  rcases List.mem_append.1 a with h | h
  ·exact h1 r h
  ·simp only [List.mem_singleton] at h
   rw[h];exact h3
theorem ZxK (h:Zmy l l.length) (b:1<=l.length) (a:l.length<=256):ZbE l:=by
 unfold Zmy at h;rw[take_length] at h;exact⟨b,a,h.1,h.2⟩
theorem ZbE.part (h:ZbE l) (k:Nat):Zmy l k:=⟨fun r a=>h.2.2.1 r (List.mem_of_mem_take a),Znl l _ k h.2.2.2⟩
theorem Zjq {o:Opn} (h:Zdy o):(ZaX o).length<=30:=by
 have e:=ZyG (ZdK h).1;have b:=ZyG (ZdK h).2;have d:0<=o.code:=h.1;have c:o.code<=10:=h.2.1;have a:=ZdD (n:=o.code.toNat) (by omega)
 unfold ZaX;rw[length_append,length_append];omega
theorem Znm {b:List Rec} (c:∀ r ∈ b,ZaA r) {r:Rec} (a:ZaA r):(ZbJ b r).length<=60:=by
 have e:=ZhC c a;have d:=ZdY a;have h:=Zjq a.1;obtain⟨_,_,_,_,_,j,i,_⟩:=a;have k:=ZdD (n:=r.proc.toNat) (by omega)
 have g:=ZyG e;have f:=ZyG d;unfold ZbJ;simp only [length_append];omega
theorem Zql:∀ (l a:List Rec),(∀ r ∈ a,ZaA r)->(∀ r ∈ l,ZaA r)->(Zbs a l).length<=60*l.length
 | [],_,_,_=>by simp[Zbs]
 | r::t,a,hp,hl=>by
  have d:=Znm hp (hl r (by simp))
  have c:=Zql t (a++[r]) (fun s b=>by
   rcases List.mem_append.1 b with h | h
   ·exact hp s h
   ·simp at h;rw[h];exact hl r (by simp)) (fun s b=>hl s (by simp[b]))
  rw[Zbs,length_append,length_cons];omega
def Zoz (w:World) (l:List Rec) (e:Ending) (w':World):Prop:=
 ∃ v',e=.returned (.tuple #[v',.int .i64 (if ZbE l then 0 else 1)])∧Own w' w.heap.size v' (if ZbE l then ZdF l else[])∧Below w.heap.size w w'
theorem Below.allocs {a:World} (h:Below a.heap.size a w) (X:Obj):Below a.heap.size a (w.alloc X):=h.alloc h.size X
theorem ZzE (h:n<128):Lib.uvarint n=[n.toUInt8]:=Lib.uvarint_small h
theorem Znn {v:Nat} (q:1<=v) (m:v<=3) (p:k<6) (g:f<4611686018427387904):Zcy (ZbC v k f)=.ok (v,k,f):=by
 have i:=Lib.uvarint_pos v;have j:=Lib.uvarint_pos k;have n:=Lib.uvarint_pos f
 have b:Zab ((ZbC v k f).drop 1)=(v,(Lib.uvarint v).length):=by
  unfold ZbC;rw[List.drop_succ_cons,List.drop_zero];exact ZaT _ _ (by omega)
 have a:(ZbC v k f).drop (1+(Lib.uvarint v).length)=Lib.uvarint k++Lib.uvarint f:=by
  unfold ZbC;rw[Nat.add_comm,List.drop_succ_cons,drop_left]
 have d:Zab ((ZbC v k f).drop (1+(Lib.uvarint v).length))=(k,(Lib.uvarint k).length):=by
  rw[a];exact ZaT _ _ (by omega)
 have c:(ZbC v k f).drop (1+(Lib.uvarint v).length+(Lib.uvarint k).length)=Lib.uvarint f:=by
  rw[<-drop_drop,a,drop_left]
 have e:Zab ((ZbC v k f).drop (1+(Lib.uvarint v).length+(Lib.uvarint k).length))=(f,(Lib.uvarint f).length):=by
  rw[c];have:=ZaT f [] g;rw[List.append_nil] at this;exact this
 have l:(ZbC v k f).length=1+(Lib.uvarint v).length+(Lib.uvarint k).length+(Lib.uvarint f).length:=by
  unfold ZbC;simp only [length_cons,length_append];omega
 unfold Zcy;simp only [b,d,e];rw[if_neg (by rintro(h | h);exact absurd h (by unfold ZbC;simp);exact h rfl),if_neg (by omega),if_neg (by omega),if_neg (by omega)]
theorem ZhV {v:Nat} (c:v<=3) (g:k<6) (e:f<4611686018427387904):(ZbC v k f).length<=40:=by
 have a:(Lib.uvarint v).length<=10:=Lib.uvarint_length64 (by omega)
 have b:(Lib.uvarint k).length<=10:=Lib.uvarint_length64 (by omega)
 have d:(Lib.uvarint f).length<=10:=Lib.uvarint_length64 (by omega)
 unfold ZbC;simp only [length_cons,length_append];omega
theorem Zsh {e:List Rec} (f:∀ r ∈ e,ZaA r) {r:Rec} (d:ZaA r):(ZbJ e r).length<=60:=by
 have g:=ZhC f d;have h:=ZdY d;obtain⟨c,_,_,_,_,m,l,_⟩:=d;have i:(Lib.uvarint r.proc.toNat).length<=10:=Lib.uvarint_length64 (by omega)
 have j:(Lib.uvarint (Lib.zigzag (r.seq-Zav e r.proc))).length<=10:=Lib.uvarint_length64 (ZeV g);have k:(Lib.uvarint r.op.code.toNat).length<=10:=Lib.uvarint_length64 (by have:=c.1;have:=c.2.1;omega)
 have n:(Lib.uvarint (Lib.zigzag r.op.a)).length<=10:=Lib.uvarint_length64 (ZeV (ZdK c).1);have q:(Lib.uvarint (Lib.zigzag r.op.b)).length<=10:=Lib.uvarint_length64 (ZeV (ZdK c).2);have p:(Lib.uvarint (Lib.zigzag r.resp)).length<=10:=Lib.uvarint_length64 (ZeV h);unfold ZbJ ZaX;simp only [length_append];omega
theorem ZiR:∀ (l a:List Rec),(∀ r ∈ a,ZaA r)->(∀ r ∈ l,ZaA r)->(Zbs a l).length<=60*l.length
 | [],_,_,_=>by simp[Zbs]
 | r::t,a,hp,hl=>by
  have c:=hl r (by simp)
  have e:=Zsh hp c
  have d:=ZiR t (a++[r]) (fun s b=>by
   rcases List.mem_append.1 b with h | h
   ·exact hp s h
   ·rw[List.mem_singleton.1 h];exact c) (fun s b=>hl s (by simp[b]))
  rw[Zbs,length_append,length_cons];omega
theorem Zfz {d:List UInt8} {v:Nat} (h:Zcy d=.ok (v,k,f)):d=ZbC v k f∧1<=v∧v<=3∧k<6∧f<4611686018427387904:=by
 unfold Zcy at h;simp only at h;split at h
 ·cases h
 rename_i g
 split at h
 ·cases h
 rename_i w
 split at h
 ·cases h
 rename_i B
 split at h
 ·cases h
 rename_i x
 simp only [Except.ok.injEq,Prod.mk.injEq] at h;obtain⟨q,u,p⟩:=h;have e:=ZbD (l:=d.drop 1) (by omega)
 have b:=ZbD (l:=d.drop (1+(Zab (d.drop 1)).2)) (by omega)
 have a:=ZbD (l:=d.drop (1+(Zab (d.drop 1)).2+(Zab (d.drop (1+(Zab (d.drop 1)).2))).2)) (by omega)
 have D:f<4611686018427387904:=by
  rw[<-p];rcases Zay (d.drop (1+(Zab (d.drop 1)).2+(Zab (d.drop (1+(Zab (d.drop 1)).2))).2)) with h | h
  ·rw[h];decide
  ·exact h.1
 rw[q] at e B;rw[u] at b x;rw[p] at a;generalize (Zab (d.drop 1)).2=i at *;generalize (Zab (d.drop (1+i))).2=j at *;generalize (Zab (d.drop (1+i+j))).2=m at *;refine⟨?_,by omega,by omega,by omega,D⟩
 cases d with
 | nil=>exact absurd (.inl rfl) g
 | cons c t=>
  have C:c=108:=by
   have:=fun h=>g (.inr h)
   simpa using Decidable.not_not.1 this
  have y:(c::t).drop 1=t:=rfl;have n:(c::t).drop (1+i)=t.drop i:=by rw[Nat.add_comm,List.drop_succ_cons]
  have z:(c::t).drop (1+i+j)=(t.drop i).drop j:=by rw[<-drop_drop,n]
  rw[y] at e;rw[n] at b;rw[z] at a
  have A:m=((t.drop i).drop j).length:=by
   have:1+i+j+m=(c::t).length:=Decidable.not_not.1 (fun h=>w (.inr (.inr (.inr h))))
   rw[length_cons] at this;rw[length_drop,length_drop];omega
  rw[A,take_length] at a;unfold ZbC;rw[C,e,b,a,List.take_append_drop,List.take_append_drop]
def Zjr (k f:Int):Prop:=0<=k∧k<6∧0<=f∧f<4611686018427387904
instance (k f:Int):Decidable (Zjr k f):=by unfold Zjr;infer_instance
def Zch (v k f:Int):Int:=if 1<=v∧v<=3 then(if Zjr k f then 0 else 1) else 6
def ZjH (v k f:Int):List UInt8:=if 1<=v∧v<=3 then(if Zjr k f then Zad (ZbC v.toNat k.toNat f.toNat) else[]) else[]
def ZtA (w:World) (v k f:Int) (e:Ending) (w':World):Prop:=
 ∃ v',e=.returned (.tuple #[v',.int .i64 (Zch v k f)])∧Own w' w.heap.size v' (ZjH v k f)∧Below w.heap.size w w'
theorem Rd.byte (w:World) (c:UInt8):Rd (w.alloc (.cells #[.int .u8 c.toNat] 5)) (.slice (some ⟨w.heap.size,0,none⟩) 1 1) [c]:=by
 refine⟨some ⟨w.heap.size,0,none⟩,1,rfl,Nat.le_refl _,by unfold maxLen;omega,(fun h=>by cases h),.inr ⟨w.heap.size,0,rfl,fun j a=>?_⟩⟩
 have e:j=0:=by simpa using a
 subst e;rw[cell_of_row _ w.heap.size 0 _ 5 (0,0) (heap_alloc_new w _)];rfl
theorem ZoA {l:List UInt8} (h:l.length<=1048576):ZAn l=(Zad l,0):=by
 unfold ZAn;rw[if_pos h]
theorem Zve (h:q<L.length):L.take (q+1)=L.take q++[L.getD q []]:=by
 rw[take_add_one];simp[List.getD,h]
theorem RdL.at {ao:Option Addr} {cap:Nat} (h:RdL w (.slice ao n cap) L) (k:Nat) (c:k<L.length):
 ∃ b a x,ao=some ⟨b,a,none⟩∧(∀ W,Below w.heap.size w W->W.cell? ⟨b,a+k,none⟩=some x)∧∀ W,Below w.heap.size w W->Rd W x (L.getD k []):=by
 obtain⟨u,t,e,_,_,_,l⟩:=h;simp only [Value.slice.injEq] at e;obtain⟨rfl,_,rfl⟩:=e;rcases l with m | ⟨b,a,g,q⟩
 ·rw[m] at c;simp at c
 ·obtain⟨x,f,i⟩:=q k c
  have j:b<w.heap.size:=World.block_lt_of_cell? w ⟨b,a+k,none⟩ f;exact⟨b,a,x,g,fun W d=>(d.cell (p:=⟨b,a+k,none⟩) j).trans f,fun W d=>i.below d zL⟩
theorem ZfH:∀ (L:List (List UInt8)) (k:Nat),(L.take k).flatten.length<=L.flatten.length
 | [],k=>by simp
 | x::L,0=>by simp
 | x::L,k+1=>by
  have:=ZfH L k;rw[List.take_succ_cons,List.flatten_cons,List.flatten_cons,length_append,length_append];omega
theorem ZtB (h:q<L.length):L.getD q [] ∈ L:=by
 have e:L.getD q []=L[q]:=by simp[List.getD,h]
 rw[e];exact getElem_mem h
theorem ZgI (B:List (List UInt8)):(B.map Zad).flatten=Zaf B:=by
 unfold Zaf;rw[List.flatMap_def]
theorem ZzF (l:List UInt8):(Zab l).1<4611686018427387904:=by
 rcases Zay l with h | h
 ·rw[h];decide
 ·exact h.1
theorem ZzG (W:World) (ao:Option Addr) (cap:Nat) (l:List UInt8) (b:Rd W (.slice ao l.length cap) l) (n:Nat) (f:n<=l.length):Rd W (.slice (if cap=n then ao else Option.map (fun x=>x.add n) ao) (l.length-n) (cap-n)) (l.drop n):=by
 have d:l.length<=cap:=by
  obtain⟨a,c,e,h,-⟩:=b;simp only [Value.slice.injEq] at e;omega
 have h:=b.mid n l.length cap (by omega) (by omega) (by omega) (by omega)
 rw[List.take_of_length_le (by rw[length_drop];omega)] at h
 simpa[sliced] using h
theorem Zsi (W:World) (ao:Option Addr) (l:List UInt8) (cap:Nat) (_hlc:l.length<=cap) (i:Int) (n:Nat) (a:i=(n:Int)) (b:n<=l.length):
 (Instr.sliceAt 53 (.slice ao l.length cap) (some (.int .i64 i)) none none).run prog W=.ok (sliced ao n l.length cap 1) W:=by
 subst a;rw[run_sliceAt_slice W 53 _ _ _ _ ZaF,run_slice_l W 53 ao l.length cap ZaF .i64 (n:Int) (by omega) (by omega),ZbU,Zfs]
 rfl
def ZdR (w:World) (b:List UInt8) (e:Ending) (w':World):Prop:=
 ∃ (vl:Value) (l:List Rec) (n:Int),e=.returned (.tuple #[vl,.int .i64 n])∧RdR w' vl l∧DecB b l n∧Below w.heap.size w w'
theorem ZdR.none (h:∀ a,ZbE a->ZdF a≠b) (c:Below w.heap.size w w'):ZdR w b (.returned (.tuple #[.slice none 0 0,.int .i64 3])) w':=
 ⟨_,[],3,rfl,RdR.nil _,.inr ⟨rfl,rfl,h⟩,c⟩
theorem Zvf (h:ZbE l):ZaA (l.headD Zaj):=by
 obtain⟨b,_,a,_⟩:=h
 match l,b with
 | r::u,_=>exact a r (by simp)
theorem Zsj (h:ZbE l) {b:List UInt8} (e:ZdF l=b):
 ((Zab b).1:Int)=(l.headD Zaj).idx∧(Zab b).2≠0∧(Zab (b.drop (Zab b).2)).1=l.length∧(Zab (b.drop (Zab b).2)).2≠0∧b.drop ((Zab b).2+(Zab (b.drop (Zab b).2)).2)=Zbs [] l:=by
 obtain⟨_,i,g,_⟩:=Zvf h;have f:=h.2.1;subst e;have c:Zab (ZdF l)=((l.headD Zaj).idx.toNat,(Lib.uvarint (l.headD Zaj).idx.toNat).length):=ZaT _ _ (by omega)
 have a:(ZdF l).drop (Lib.uvarint (l.headD Zaj).idx.toNat).length=Lib.uvarint l.length++Zbs [] l:=by
  unfold ZdF;rw[drop_left]
 have d:=ZaT l.length (Zbs [] l) (by omega)
 rw[c];simp only;rw[a,d];refine⟨by omega,Zhz _,rfl,Zhz _,?_⟩
 rw[<-drop_drop,a,drop_left]
theorem ZAp (w:World) (ao:Option Addr) (l:List UInt8) (cap:Nat) (b:Rd w (.slice ao l.length cap) l) (n:Nat) (d:n<=l.length):
 ∃ a c,Rd w (.slice a (l.drop n).length c) (l.drop n)∧∀ i:Int,i=(n:Int)->∀ W,(Instr.sliceAt 53 (.slice ao l.length cap) (some (.int .i64 i)) none none).run prog W=.ok (.slice a (l.drop n).length c) W:=by
 have h:=ZzG w ao cap l b n d
 have f:l.length<=cap:=by
  obtain⟨a,c,e,h,-⟩:=b;simp only [Value.slice.injEq] at e;omega
 refine⟨_,_,by rw[length_drop];exact h,fun i g W=>?_⟩
 rw[Zsi W ao l cap f i n g d,length_drop];simp[sliced]
theorem Zno {d:List UInt8} (h:d=[]∨d.getD 0 0≠108):Zcy d=.error 3:=by
 unfold Zcy;rw[if_pos h]
theorem Zvg {d:List UInt8} (h:¬ (d=[]∨d.getD 0 0≠108)) {v i k j f m:Nat} (c:Zab (d.drop 1)=(v,i)) (b:Zab (d.drop (1+i))=(k,j)) (a:Zab (d.drop (1+i+j))=(f,m)):
 Zcy d=if i=0∨j=0∨m=0∨1+i+j+m≠d.length then .error 3 else if v<1∨3<v then .error 6 else if 6<=k then .error 1 else .ok (v,k,f):=by
 unfold Zcy;rw[if_neg h,c];simp only;rw[b];simp only;rw[a]
theorem ZfA {r:Rec} (h:ZaA r):Zga r:=by
 have c:=ZdY h;obtain⟨a,g,j,i,d,e,f,_,_⟩:=h;have b:=ZdK a;exact⟨⟨by omega,by omega⟩,⟨by omega,by omega⟩,⟨by omega,by omega⟩,⟨⟨by have:=a.1;omega,by have:=a.2.1;omega⟩,b.1,b.2⟩,c⟩
def Zsk (L:List (List UInt8)) (v k f:Nat):Seg × Nat × Int:=(⟨k,f,(Zds v f L.tail [] 16).1⟩,1+(Zds v f L.tail [] 16).2.1,(Zds v f L.tail [] 16).2.2)
theorem Zbq.set (h:Zbq w C v l) (R i:Nat) (a:R<C) (x:Value):Zbq (w.setCell ⟨R,i,none⟩ x) C v l:=ownsRow_setCell_below h a x
theorem ZbG {b:World} (h:Below C b w) (R:Nat) (a:C<=R) (c e d:Value):Below C b (((w.setCell ⟨R,0,none⟩ c).setCell ⟨R,1,none⟩ e).setCell ⟨R,2,none⟩ d):=
 ((h.setCell a _).setCell a _).setCell a _
theorem Zvh (v:Nat) (first:Int) (d:List UInt8) (b:List (List UInt8)) (a:List Rec) (last:Nat):
 Zds v first (d::b) a last=match Ztf v d (first+a.length) with
  | none=>(a,0,3)
  | some r=>if last<16 then(a,0,3) else if 4096<a.length+r.length then(a,0,5)
   else((Zds v first b (a++r) r.length).1,(Zds v first b (a++r) r.length).2.1+1,(Zds v first b (a++r) r.length).2.2):=by
 rw[Zds]
 cases Ztf v d (first+a.length) <;> rfl
theorem drop_one {j:Nat} (a:j<L.length):L.drop j=L.getD j []::L.drop (j+1):=by
 rw[List.drop_eq_getElem_cons a];simp[List.getD,a]
theorem ZfB:∀ (n:Nat) (b:List UInt8),b.length<=n->Zaf (Zao b).1=b.take (Zao b).2.1∧∀ x ∈ (Zao b).1,x.length<=1048576
 | 0,b,hn=>by
  have e:b=[]:=List.eq_nil_of_length_eq_zero (by omega)
  subst e;rw[ZeX];exact⟨rfl,by simp⟩
 | n+1,b,hn=>by
  by_cases e:b=[]
  ·subst e
   rw[ZeX];exact⟨rfl,by simp⟩
  by_cases a:(ZbR b).2.2=0
  ·obtain⟨c,h,j,g⟩:=ZnP a
   have i:=ZeW a;rw[Zfn e a];obtain⟨f,d⟩:=ZfB n (b.drop (ZbR b).2.1) (by rw[length_drop];omega)
   refine⟨?_,fun x hx=>?_⟩
   ·show Zaf ((ZbR b).1::(Zao (b.drop (ZbR b).2.1)).1)=b.take ((ZbR b).2.1+(Zao (b.drop (ZbR b).2.1)).2.1)
    rw[ZaV,f,<-g,List.take_add]
   ·rcases List.mem_cons.1 hx with hx | hx
    ·rw[hx];exact c
    ·exact d x hx
  ·rw[Zfm e a]
   exact⟨rfl,by simp⟩
theorem Zjs:∀ (L:List (List UInt8)) (x:List UInt8),x ∈ L->x.length+5<=(Zaf L).length
 | y::L,x,hx=>by
  rw[ZaV,length_append];rcases List.mem_cons.1 hx with h | h
  ·rw[h,Zas]
   have:=Lib.uvarint_pos y.length;omega
  ·have:=Zjs L x h
   omega
theorem ZhW:∀ (L:List (List UInt8)),5*L.length<=(Zaf L).length
 | []=>by simp
 | y::L=>by
  have:=ZhW L;have:=Zrf y;rw[ZaV,length_append,length_cons];omega
theorem ZhX (b:List UInt8):(∀ x ∈ (Zao b).1,x.length<=1048576∧x.length<=b.length)∧5*(Zao b).1.length<=b.length:=by
 obtain⟨d,c⟩:=ZfB _ b zL
 have e:(Zaf (Zao b).1).length<=b.length:=by
  rw[d,List.length_take];omega
 refine⟨fun x a=>⟨c x a,?_⟩,?_⟩
 ·have:=Zjs _ x a
  omega
 ·have:=ZhW (Zao b).1
  omega
theorem ZxL (h:2<=L.length):(L.take (L.length-1)).headD []=L.headD []∧(L.take (L.length-1)).tail=L.tail.dropLast∧L.getLastD []=L.getD (L.length-1) []∧L.headD []=(L.take (L.length-1)).getD 0 []:=by
 match L,h with
 | x::y::t,_=>
  refine⟨rfl,?_,?_,rfl⟩
  ·show((x::y::t).take (t.length+1)).tail=(y::t).dropLast
   rw[List.take_succ_cons,List.tail_cons,List.dropLast_eq_take,length_cons];rfl
  ·rw[List.getLastD_eq_getLast?,List.getLast?_eq_getElem?]
   simp[List.getD]
theorem ZBt (c:2<=L.length):ZBE L=match Zcy ((L.take (L.length-1)).headD []) with
 | .error e=>(ZhD,e)
 | .ok (v,k,f)=>if(Zsk (L.take (L.length-1)) v k f).2.2≠0 then(ZhD,(Zsk (L.take (L.length-1)) v k f).2.2)
  else if ZBD ((L.take (L.length-1)).headD []) (L.take (L.length-1)).tail=L.getD (L.length-1) [] then((Zsk (L.take (L.length-1)) v k f).1,0) else(ZhD,16):=by
 obtain⟨d,b,a,_⟩:=ZxL c;unfold ZBE Zsk;rw[if_neg (by omega),d,b,a]
 cases Zcy (L.headD []) <;> rfl
theorem ZxM (w:World) (ao:Option Addr) (L:List (List UInt8)) (m cap:Nat) (d:m=L.length) (b:RdL w (.slice ao m cap) L) (n:Nat) (j:n<=L.length):
 ∃ a c,RdL w (.slice a (L.drop n).length c) (L.drop n)∧∀ i:Int,i=(n:Int)->∀ W,(Instr.sliceAt 144 (.slice ao m cap) (some (.int .i64 i)) none none).run prog W=.ok (.slice a (L.drop n).length c) W:=by
 subst d
 have f:L.length<=cap:=by
  obtain⟨a,c,e,h,-⟩:=b;simp only [Value.slice.injEq] at e;omega
 have h:=b.mid n L.length cap j zL f zL;rw[List.take_of_length_le (by rw[length_drop];omega)] at h
 unfold sliced at h;refine⟨_,_,by rw[length_drop];exact h,fun i g W=>?_⟩
 subst g;rw[run_sliceAt_slice W 144 _ _ _ _ Zgu,run_slice_l W 144 ao L.length cap Zgu .i64 (n:Int) (by omega) (by omega),Zld,Zne,length_drop]
 rfl
theorem Zvi (w:World) (ao:Option Addr) (L:List (List UInt8)) (m cap:Nat) (d:m=L.length) (b:RdL w (.slice ao m cap) L) (n:Nat) (g:n<=L.length):
 RdL w (.slice ao n cap) (L.take n)∧∀ i:Int,i=(n:Int)->∀ W,(Instr.sliceAt 144 (.slice ao m cap) none (some (.int .i64 i)) none).run prog W=.ok (.slice ao n cap) W:=by
 subst d
 have j:L.length<=cap:=by
  obtain⟨a,c,e,h,-⟩:=b;simp only [Value.slice.injEq] at e;omega
 refine⟨b.front n g,fun i f W=>?_⟩
 subst f;rw[run_sliceAt_slice W 144 _ _ _ _ Zgu,run_slice_h W 144 ao L.length cap Zgu .i64 (n:Int) (by omega) (by omega),Zld,Zne]
 show Result.ok (sliced ao 0 n cap 1) W=_;unfold sliced
 have e:(if cap=0 then ao else ao.map (·.add (0*1)))=ao:=by
  split
  ·rfl
  ·cases ao <;> simp[Addr.add]
 rw[e,Nat.sub_zero,Nat.sub_zero]
theorem ZzH {d:List UInt8} (h:Zcy d=.error x):x≠0:=by
 intro a;rw[a] at h;unfold Zcy at h;simp only at h
 repeat' split at h
 all_goals simp at h
def Zea (w:World) (b:List UInt8) (e:Ending) (w':World):Prop:=
 ∃ vl,e=.returned (.tuple #[.agg #[.int .i64 (ZdP b).1.kind,.int .i64 (ZdP b).1.first,vl],.int .i64 ((ZdP b).2.1:Nat),.bool (ZdP b).2.2])∧RdR w' vl (ZdP b).1.recs∧Below w.heap.size w w'
theorem Zea.fail (h:ZdP b=(ZhD,0,false)) (a:Below w.heap.size w w'):Zea w b (.returned (.tuple #[.agg #[.int .i64 0,.int .i64 0,.slice none 0 0],.int .i64 0,.bool false])) w':=by
 refine⟨.slice none 0 0,?_,?_,a⟩
 ·rw[h]
  rfl
 ·rw[h]
  exact RdR.nil _
theorem Zlx (v:Nat) (first:Int):∀ (B:List (List UInt8)) (a:List Rec) (last:Nat),(Zds v first B a last).2.1<=B.length
 | [],a,last=>by rw[Zds];simp
 | d::ds,a,last=>by
  rw[Zvh,length_cons]
  cases Ztf v d (first+a.length) with
  | none=>simp
  | some r=>
   simp only;split
   ·simp
   split
   ·simp
   have b:=Zlx v first ds (a++r) r.length;simp only;omega
theorem ZhY (L:List (List UInt8)) (c:Nat):(Zaf (L.take c)).length<=(Zaf L).length:=by
 have h:=ZfH (L.map Zad) c;rw[ZgI,<-List.map_take,ZgI] at h;exact h
theorem Zvj (h:(Zao b).1≠[]):ZdP b=match Zcy ((Zao b).1.headD []) with
 | .error _=>(ZhD,0,false)
 | .ok (v,k,f)=>((Zsk (Zao b).1 v k f).1,(Zaf ((Zao b).1.take (Zsk (Zao b).1 v k f).2.1)).length,true):=by
 unfold ZdP ZyU;rw[if_neg h]
 cases Zcy ((Zao b).1.headD []) <;> rfl
theorem Rd.drewN {l:List UInt8} (h:Rd w v l) (n:Nat):Rd (w.drewN n) v l:=h.below (ZaI (Below.refl _ w) n) zL
theorem ZCs (w:World) (v:Value) (l:List UInt8) (e:Rd w v l) (K N:Int) (k n:Nat) (j:K=k) (m:N=n) (h:k+n+4<=l.length):
 ∃ f c d,(∀ q,(Instr.sliceAt 53 v none (some (.int .i64 (K+N))) (some (.int .i64 (K+N)))).run prog (w.drewN q)=.ok f (w.drewN q))∧
  (∀ q,(Instr.sliceAt 53 v (some (.int .i64 K)) (some (.int .i64 (K+N))) (some (.int .i64 (K+N)))).run prog (w.drewN q)=.ok c (w.drewN q))∧
  (∀ q,(Instr.sliceAt 53 v (some (.int .i64 (K+N))) (some (.int .i64 (K+N+4))) (some (.int .i64 (K+N+4)))).run prog (w.drewN q)=.ok d (w.drewN q))∧
  Rd w f (l.take (k+n))∧Rd w c ((l.drop k).take n)∧Rd w d ((l.drop (k+n)).take 4):=by
 have a:=e;obtain⟨ao,cap,rfl,p,_⟩:=e;have b:(K+N).toNat=k+n:=by omega
 have i:K.toNat=k:=by omega
 have g:(K+N+4).toNat=k+n+4:=by omega
 refine⟨sliced ao 0 (k+n) (k+n) 1,sliced ao k (k+n) (k+n) 1,sliced ao (k+n) (k+n+4) (k+n+4) 1,?_,?_,?_,?_,?_,?_⟩
 ·intro q
  rw[run_sliceAt_slice _ 53 _ _ _ _ ZaF,run_slice_hm _ 53 ao l.length cap ZaF .i64 .i64 (K+N) (K+N) (by omega) (by omega) (by omega),ZbU,Zfs,b]
  rfl
 ·intro q
  rw[run_sliceAt_slice _ 53 _ _ _ _ ZaF,run_slice_lhm _ 53 ao l.length cap ZaF .i64 .i64 .i64 K (K+N) (K+N) (by omega) (by omega) (by omega) (by omega),ZbU,Zfs,b,i]
  rfl
 ·intro q
  rw[run_sliceAt_slice _ 53 _ _ _ _ ZaF,run_slice_lhm _ 53 ao l.length cap ZaF .i64 .i64 .i64 (K+N) (K+N+4) (K+N+4) (by omega) (by omega) (by omega) (by omega),ZbU,Zfs,b,g]
  rfl
 ·have:=a.mid 0 (k+n) (k+n) (by omega) (by omega) (by omega) (by omega)
  simpa using this
 ·have:=a.mid k (k+n) (k+n) (by omega) (by omega) (by omega) (by omega)
  rwa [show k+n-k=n by omega] at this
 ·have:=a.mid (k+n) (k+n+4) (k+n+4) (by omega) (by omega) (by omega) (by omega)
  rwa [show k+n+4-(k+n)=4 by omega] at this
theorem Zhg {d:Array Oper} {C:World->Prop} {Q:Act->Prop} {rest:List Oper} {o:Oper} {a:Act} (f:o.guard=none) (x:Operand) (lo c b:Option Operand)
 (j:o.op=.slice 53 x lo c b) (i:∀ w',C w'->∃ q,w'=w.drewN q) (v:Value)
 (g:∀ q,(Instr.sliceAt 53 (a.eval x) (lo.map a.eval) (c.map a.eval) (b.map a.eval)).run prog (w.drewN q)=.ok v (w.drewN q))
 (h:wpQuiet prog d C Q rest (a.put o.dst v)):wpQuiet prog d C Q (o::rest) a:=
 wpQuiet_step fun _ e=>by
  rw[if_pos (by simp[Region.wanted,f])]
  refine⟨v,fun w' k=>?_,e _ h⟩
  obtain⟨q,rfl⟩:=i w' k;unfold Oper.quietAt execOp;simp only [j,g,Sem.run_bind,Sem.run_pure,Result.andThen_ok,Oper.quietUpon,and_self]
theorem Zvk (v:Value) (l:List UInt8) (w:World) (y:Rd w v l):
 Calls prog 199 #[v] w fun e w'=>Zhe w l e w':=by
 have HR:=ZZ y;have b:=ZZ (ZAW v l w y);have c:=ZZ (ZfY v l w y);obtain⟨ao,cap,rfl,ah,M,aA,ay⟩:=y;clear aA ay;have aK:(l.length:Int)<=9223372036854775807:=by unfold maxLen at M;omega
 have aF:=ZZ ah;have aJ:=ZZ M;clear ah M;by_cases j:Zdf l
 ·have a:=ZZ (ZBI j)
  have D:Hid (decide (Zdf l)=true):=decide_eq_true j;rw[D.o] at b;clear j c
  go_enter func199,ntmps199
  go_wp2_with fail
  refine b.o.mono ?_;rintro e d ⟨rfl,rfl⟩;clear b;go_wp2
  go_ret3
  exact Zhe.refused a.o
 have D:Hid (decide (Zdf l)=false):=decide_eq_false j;rw[D.o] at b;have p:=ZZ j;clear j;have U:=Zay l;obtain⟨n,u⟩:∃ n,n=(Zab l).1:=⟨_,rfl⟩;obtain⟨k,t⟩:∃ k,k=(Zab l).2:=⟨_,rfl⟩;rw[<-u,<-t] at U c;have m:=ZZ u;have i:=ZZ t;have E:=ZuS l
 have X:(n:Int)<4611686018427387904∧(k:Int)<=l.length∧(k:Int)<=9:=by
  rw[<-t] at E;rcases U with h | h
  ·have H:n=0:=by rw[u,h]
   have h2:k=0:=by rw[t,h]
   omega
  ·omega
 clear E;obtain⟨N,V⟩:∃ N:Int,N=(n:Int):=⟨_,rfl⟩;obtain⟨K,F⟩:∃ K:Int,K=(k:Int):=⟨_,rfl⟩;rw[<-V,<-F] at X c;obtain⟨aD,aH,E⟩:=X;have aL:0<=N:=by omega
 have aE:0<=K:=by omega
 have f:=ZZ V;have g:=ZZ F;clear V F;clear U u t;by_cases B:K=0
 ·have a:=ZZ (ZBJ p.out (by rw[<-i.o];have:=g.o;omega))
  subst B
  go_enter func199,ntmps199
  go_wp2_with fail
  refine b.o.mono ?_;rintro e d ⟨rfl,rfl⟩;clear b
  go_wp2_with fail
  refine c.o.mono ?_;rintro e d ⟨rfl,rfl⟩;clear c;go_wp2
  go_ret3
  exact Zhe.refused a.o
 have ez:(K == 0)=false:=beq_eq_false_iff_ne.2 B;have aI:1<=K:=by omega
 have A:=ZZ (show(Zab l).2≠0 by rw[<-i.o];have:=g.o;omega)
 clear B;by_cases c3:1048576<N
 ·have a:=ZZ (ZBK p.out A.out (by rw[<-m.o];have:=f.o;omega))
  go_enter func199,ntmps199
  go_wp2_with fail
  refine b.o.mono ?_;rintro e d ⟨rfl,rfl⟩;clear b
  go_wp2_with fail
  refine c.o.mono ?_;rintro e d ⟨rfl,rfl⟩;clear c;go_wp2
  go_ret3
  exact Zhe.refused a.o
 have G:=ZZ (show ¬ 1048576<(Zab l).1 by rw[<-m.o];have:=f.o;omega)
 by_cases c4:(l.length:Int)<K+N+4
 ·have a:=ZZ (ZBL p.out A.out G.out (by rw[<-m.o,<-i.o];have:=f.o;have:=g.o;omega))
  go_enter func199,ntmps199
  go_wp2_with fail
  refine b.o.mono ?_;rintro e d ⟨rfl,rfl⟩;clear b
  go_wp2_with fail
  refine c.o.mono ?_;rintro e d ⟨rfl,rfl⟩;clear c;go_wp2
  go_ret3
  exact Zhe.refused a.o
 have C4:=ZZ (show ¬ l.length<(Zab l).2+4+(Zab l).1 by rw[<-m.o,<-i.o];have:=f.o;have:=g.o;omega)
 have J:Hid (∀ v w,Rd w v (l.take (k+n))->Calls prog 136 #[v] w fun e w'=>e=.returned (.int .u32 (Zaz 0 (l.take (k+n)):Nat))∧Below w.heap.size w w'):=fun v w h=>Zou v _ w h
 have O:Hid (∀ v w,Rd w v ((l.drop (k+n)).take 4)->Calls prog 161 #[v] w fun e w'=>e=.returned (.int .u64 (Lib.leNat ((l.drop (k+n)).take 4):Nat))∧w'=w):=by
  intro v w h;have:=ZpE v _ w h
  rwa [List.take_of_length_le (by simp;omega)] at this
 have I:Hid (Lib.leNat ((l.drop (k+n)).take 4)≠Zaz 0 (l.take (k+n))->ZbR l=([],0,4)):=fun h=>by
  rw[m.o,i.o] at h;exact ZBM p.out A.out G.out C4.out h
 have L:Hid (Lib.leNat ((l.drop (k+n)).take 4)=Zaz 0 (l.take (k+n))->ZbR l=((l.drop k).take n,k+4+n,0)):=fun h=>by
  rw[m.o,i.o] at h ⊢;exact ZBN p.out A.out G.out C4.out h
 have hs:=Ztc (l.take (k+n))
 have hq:Lib.leNat ((l.drop (k+n)).take 4)<4294967296:=by
  have H:=Zkt ((l.drop (k+n)).take 4);have e4:((l.drop (k+n)).take 4).length=4:=by have:=f.o;have:=g.o;simp;omega
  rw[e4] at H;exact H
 generalize Zaz 0 (l.take (k+n))=s at *;generalize Lib.leNat ((l.drop (k+n)).take 4)=q at *;obtain⟨S,Q⟩:∃ S:Int,S=(s:Int):=⟨_,rfl⟩;obtain⟨T,C⟩:∃ T:Int,T=(q:Int):=⟨_,rfl⟩;rw[<-Q] at J;rw[<-C] at O;have aG:0<=S:=by omega
 have aM:S<4294967296:=by omega
 have al:=ZZ Q;have an:=ZZ C;obtain⟨v1,v2,v3,av,Z,ae,ar,ap,aj⟩:=ZCs w _ l HR.o K N k n g.o f.o (by have:=f.o;have:=g.o;omega)
 have ak:=ZZ ar;have au:=ZZ ap;have ac:=ZZ aj;have aq:=ZZ av;have aa:=ZZ Z;have ag:=ZZ ae;clear ar ap aj av Z ae;clear Q C hs hq
 go_enter func199,ntmps199
 go_wp2_with fail
 refine b.o.mono ?_;rintro e d ⟨rfl,rfl⟩;clear b
 go_wp2_with fail
 refine c.o.mono ?_;rintro e d ⟨rfl,rfl⟩;clear c;go_wp2;refine wp_region_quiet_lit (by kernel_rfl) (by kernel_rfl) ?_
 repeat (go_big_quiet_step (fail))
 refine Zhg rfl _ _ _ _ rfl (fun _ h=>h) v1 aq.o ?_
 simp only [Act.put,List.setIfInBounds_toArray,set_cons_succ,set_cons_zero]
 repeat (go_big_quiet_step (fail))
 refine Zhg rfl _ _ _ _ rfl (fun _ h=>h) v2 aa.o ?_
 simp only [Act.put,List.setIfInBounds_toArray,set_cons_succ,set_cons_zero]
 repeat (go_big_quiet_step (fail))
 refine Zhg rfl _ _ _ _ rfl (fun _ h=>h) v3 ag.o ?_
 simp only [Act.put,List.setIfInBounds_toArray,set_cons_succ,set_cons_zero]
 repeat (go_big_quiet_step (fail))
 refine wpQuiet_nil ?_;rintro _ ⟨nq,rfl⟩;have ad:=ZZ (ZaI (Below.refl d.heap.size d) nq);have Y:=ZZ (ak.o.drewN nq);have ab:=ZZ (au.o.drewN nq);have W:=ZZ (ac.o.drewN nq);clear ak au ac aq aa ag
 go_wp2_with fail
 refine(O.o _ _ W.o).mono ?_;rintro e w2 ⟨rfl,rfl⟩;clear O W
 go_wp2_with fail
 refine(J.o _ _ Y.o).mono ?_;rintro e w2 ⟨rfl,R⟩;have P:=ZZ (ad.o.trans R);have aw:=ZZ (ab.o.below R zL);clear J Y ab R ad;by_cases z:T=S
 ·have aB:(T != S)=false:=by rw[bne_eq_false_iff_eq];exact z
  have a:=ZZ (L.o (by have:=al.o;have:=an.o;omega))
  clear z I L;have az:=ZZ (show((l.drop k).take n).length<=1048576 by have:=f.o;simp;omega)
  have HC:=ZZ (ZxH _ _ w2 aw.o (by have:=az.o;omega))
  generalize (l.drop k).take n=x at *
  go_wp2_with fail
  refine HC.o.mono ?_;rintro e w4 ⟨v4,rfl,af,am⟩;have ai:=P.o.size;have aC:=ZZ (af.mono ai);have ax:=ZZ (P.o.trans (am.mono ai));clear af am HC;go_wp2
  go_ret3
  refine⟨v4,?_,by rw[a.o];exact aC.o,ax.o⟩
  rw[a.o];exact Zzv (by show K+N+4=((k+4+n:Nat):Int);have:=f.o;have:=g.o;omega) rfl
 ·have aB:(T != S)=true:=by rw[bne_iff_ne];exact z
  have a:=ZZ (I.o (by have:=al.o;have:=an.o;omega))
  clear z I L;go_wp2
  go_ret3
  refine⟨.slice none 0 0,?_,?_,P.o⟩
  ·rw[a.o];rfl
  ·rw[a.o];exact Own.nil _ _
theorem Zqm (v:Value) (l:List UInt8) (w:World) (D:Rd w v l) (V:l.length<=1000000):
 Calls prog 159 #[v] w fun e w'=>∃ v',e=.returned (.tuple #[v',.int .i64 ((Zao l).2.1:Nat),.int .i64 ((Zao l).2.2:Nat)])∧Zlb w' w.heap.size v' (Zao l).1∧Below w.heap.size w w':=by
 have H:=ZZ D;obtain⟨ao,cap,rfl,S,Q,T,J⟩:=D;clear T J S Q;have I:=ZZ (fun v k w h=>Zvk v (l.drop k) w h)
 go_enter func159,ntmps159
 go_wp2
 go_loopw[5,6] (fun K i wr=>∃ (A:Nat) (L:List (List UInt8)),i=.int .i64 (A:Int)∧Hid (Zxl l A L)∧Hid (Zlb wr w.heap.size K L)∧Hid (Below w.heap.size w wr)) (fun _ i _=>l.length-(intOf i).toNat)
 case atStart=>exact⟨0,[],rfl,Zxl.start l,Zlb.nil _ _,Below.refl _ _⟩
 case round=>
  obtain⟨A,L,rfl,d,G,f⟩:=hrel;have aa:=d.out.2.2;by_cases g:A<l.length
  ·have t:Hid (∃ v',(Instr.sliceAt 53 (.slice ao l.length cap) (some (.int .i64 (A:Int))) none none).run prog wr=.ok v' wr∧Rd wr v' (l.drop A)):=by
    have:=ZkP wr _ l (H.o.below f.out zL) .i64 (A:Int) (by omega) (by omega)
    rwa [Int.toNat_natCast] at this
   have y:=f.out.size
   go_wp2_with(refine ZiE _ rfl _ _ _ _ rfl _ t.o ?_)
   intro v1 q;have B:=ZZ q;clear q t
   go_wp2_with fail
   refine(I.o _ A _ B.o).mono ?_;rintro e w2 ⟨U,rfl,u,j⟩;have F:=ZZ (u.mono y);have E:=ZZ (G.out.below j zL);have p:=ZZ (f.out.trans (j.mono y));have M:=p.o.size;clear u j B;have n:=ZZ (fun h=>ZeW (l:=l.drop A) h)
   have P:=Zwt (l.drop A);rw[length_drop] at P;by_cases a:(ZbR (l.drop A)).2.2=0
   ·have R:=ZZ (d.out.step g a)
    have h5:=n.o a;have Y:=d.out.2.1;rw[a];generalize (ZbR (l.drop A)).2.1=m at *;generalize (ZbR (l.drop A)).1=x at *;clear a n;obtain⟨a2,Z,rfl,_⟩:=F.o.rd
    go_wp2_with(at_builtin;refine ZhP _ rfl _ _ rfl w.heap.size _ L rfl E.o _ x rfl F.o (by omega) M ?_)
    intro X W C z;have O:=ZZ C;have N:=ZZ (p.o.trans z);clear C z;go_wp2;go_roundw
    case rel=>exact⟨A+m,L++[x],by go_num,R,O,N⟩
    case measure=>simp[intOf];omega
   ·have b:=ZZ (d.out.stop g a)
    clear n;generalize (ZbR (l.drop A)).2.2=c at *;have ab:((c:Int) != 0)=true:=by rw[bne_iff_ne];omega
    clear a;go_wp2
    go_ret3
    refine⟨_,?_,by rw[b.o];exact E.o,p.o⟩
    rw[b.o];rfl
  ·have b:=ZZ (d.out.whole g)
   go_wp2
   go_ret3
   refine⟨_,?_,by rw[b.o];exact G.out,f.out⟩
   rw[b.o];rfl
theorem ZAX (v:Value) (l:List UInt8) (w:World) (g:Rd w v l) (j:l.length<=1000000):
 Calls prog 114 #[v] w fun e w'=>∃ v',e=.returned (.tuple #[v',.int .i64 ((ZAo l).2:Nat)])∧RdL w' v' (ZAo l).1∧Below w.heap.size w w':=by
 have i:=ZZ (Zqm v l w g j);clear g
 go_enter func114,ntmps114
 go_wp2_with fail
 refine i.o.mono ?_;rintro e q ⟨n,rfl,f,d⟩;have k:=ZZ f;have h:=ZZ d;clear f d i;by_cases a:(Zao l).2.2=0
 ·have b:Hid (ZAo l=((Zao l).1,0)):=if_pos a
  rw[a];clear a;generalize (Zao l).2.1=m at *;go_wp2;go_ret2;refine⟨_,?_,by rw[b.o];exact k.o.rd,h.o⟩
  rw[b.o];rfl
 ·have b:Hid (ZAo l=([],(Zao l).2.2)):=if_neg a
  generalize (Zao l).2.1=m at *;generalize (Zao l).2.2=c at *;have p:((c:Int) != 0)=true:=by rw[bne_iff_ne];omega
  clear a;go_wp2;go_ret2;refine⟨_,?_,by rw[b.o];exact RdL.nil _,h.o⟩
  rw[b.o];rfl
end Go.Proofs.YtnahjngbneicaaaGreatDoor
