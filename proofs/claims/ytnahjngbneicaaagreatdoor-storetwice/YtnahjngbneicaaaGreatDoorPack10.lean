import Derived.Test.YtnahjngbneicaaaGreatDoorPack9
import Derived.Test.YtnahjngbneicaaaGreatDoorPack8
import Derived.Test.YtnahjngbneicaaaGreatDoorPack6
import Derived.Deep.RegionHeld
import Derived.Test.YtnahjngbneicaaaGreatDoorPack5
import Derived.Test.YtnahjngbneicaaaGreatDoorPack4
import Derived.Test.YtnahjngbneicaaaGreatDoorPack2
import Derived.Test.YtnahjngbneicaaaGreatDoorPack7
import Derived.Deep.QuietTactic
import Derived.BigQuiet
namespace Go.Proofs.YtnahjngbneicaaaGreatDoor
open _root_.Go.Proofs.Tryz
open List (drop_drop drop_left getElem_mem length_append length_cons length_drop set_cons_succ set_cons_zero take_add_one take_length)
set_option maxHeartbeats 4000000
set_option maxRecDepth 100000
open Go.RowKit
theorem Zow {w w':World} {B B':Nat} {e:TypeId} {k:Nat} {v:Value} {n:Nat} {xs:List Value} (h:w.ownsRow B e k v n xs) (c:Below B' w w') (d:w.heap.size<=B'):w'.ownsRow B e k v n xs:=by
 obtain⟨b,a⟩:=h;refine⟨b,?_⟩;rcases a with a | ⟨g,cap,cur,hv,hbg,hg,r⟩
 ·exact .inl a
 ·have f:g<w.heap.size:=(Array.getElem?_eq_some_iff.1 hg).1
  exact .inr ⟨g,cap,cur,hv,hbg,by rw[c.block g (by omega)];exact hg,r⟩
theorem Zox (P:List (List UInt8)) (q:Nat) (a:q<P.length):Zaf (P.take (q+1))=Zaf (P.take q)++Zad (P.getD q []):=by
 have b:P.take (q+1)=P.take q++[P.getD q []]:=by
  rw[take_add_one,List.getElem?_eq_getElem a];simp[List.getD,a]
 rw[b,ZfS,ZaV];simp[Zaf]
theorem ZfG (P:List (List UInt8)) (q:Nat):(Zaf (P.take q)).length<=(Zaf P).length:=by
 have h:Zaf P=Zaf (P.take q)++Zaf (P.drop q):=by rw[<-ZfS,List.take_append_drop]
 rw[h,length_append];omega
theorem Zsc (s:ZaW):Zee s=Ziu s.idx.toNat (Zbc s)::Zbd (Zbc s):=rfl
theorem ZxI (s:ZaW):Zbc s≠[]:=by
 unfold Zbc;intro h;have a:=(List.append_eq_nil_iff.1 h).1;have b:=congrArg List.length a;have:=Zhz (ZjP s.st).length;rw[List.length_nil] at b;omega
theorem Zsd (v:Value) (s:ZaW) (w:World) (hs:SnV w v s):
 Calls prog 56 #[v] w fun e w'=>Zty w s e w':=by
 have aq:=ZZ hs;obtain⟨vl,vt,rfl,hl,hk,he,ht,hi⟩:=hs;obtain⟨la,lc,be,-⟩:=id hl;obtain⟨ta,tc,ba⟩:=ht.shape;subst be ba;have H:=ZZ (fun W (h:Below w.heap.size w W)=>Ztx _ s W (aq.o.below h zL))
 obtain⟨Q,z⟩:∃ Q,Q=w.alloc (.cells #[.int .i64 s.idx,.int .i64 s.st.kind,.slice la s.st.L.length lc,.bool s.st.shut,.int .i64 s.st.eng,.slice ta s.tab.length tc] 41):=⟨_,rfl⟩;have l:Hid (Below w.heap.size w Q):=ZZ (by rw[z];exact(Below.refl _ _).alloc zL _)
 have i:Hid (Bn Q w.heap.size #[.int .i64 s.idx,.int .i64 s.st.kind,.slice la s.st.L.length lc,.bool s.st.shut,.int .i64 s.st.eng,.slice ta s.tab.length tc]):=ZZ (by rw[z];exact heap_alloc_new w _)
 obtain⟨I,-⟩:=i.o.cell 0;obtain⟨p1,-⟩:=i.o.cell 1;obtain⟨p2,-⟩:=i.o.cell 2;obtain⟨p3,-⟩:=i.o.cell 3;obtain⟨p4,-⟩:=i.o.cell 4;obtain⟨p5,-⟩:=i.o.cell 5;unfold Zty;clear hl hk he ht hi;by_cases d:ZgA s
 case neg=>
  rw[if_neg d,if_neg d];rw[decide_eq_false d] at H;clear d
  go_enter func56,ntmps56
  go_upto_region 1 with fail
  rw[<-z];clear z
  go_wp2_with fail
  refine(H.o _ l.o).mono ?_;rintro x W1 ⟨rfl,n⟩;have B:=ZZ (l.o.trans (n.mono l.o.size));clear n;go_wp2;go_ret2;exact⟨_,rfl,Own.nil _ _,B.o⟩
 rw[if_pos d,if_pos d];rw[decide_eq_true d] at H;have aA:=ZZ (fun W (h:Below w.heap.size w W)=>Zsb _ s W (aq.o.below h zL) d)
 have a7:=Zfa d;have aN:=d.1;have aw:=ZZ (fun v1 W h=>Zmw s.idx v1 (Zbc s) W h)
 have O:=ZZ (fun W=>ZzC s.idx ((Zbc s).length:Int) (Zaz 0 (Zbc s)) W aN ⟨by omega,by omega⟩ (Ztc _))
 rw[Int.toNat_natCast,ZzB] at O;have aQ:=ZZ (fun v1 W h=>Znk v1 (Zbc s) W h (by omega))
 have E:Hid (Zee s=Ziu s.idx.toNat (Zbc s)::Zbd (Zbc s)):=ZZ (Zsc s);have ae:Hid (∀ x ∈ Zee s,x.length<=1048576):=ZZ (Zuh d);have ac:Hid ((Zaf (Zee s)).length<=80000):=ZZ (ZzD d);have aM:Hid (ZyE s=Zaf (Zee s)):=ZZ rfl;rw[aM.o]
 have Z:Hid (0<(Zbd (Zbc s)).length∧(Zbd (Zbc s)).length<=5000):=ZZ (by
  constructor
  ·rw[Zbx (ZxI s)]
   simp
  ·have h1:=ZfG (Zee s) (Zee s).length
   have h2:∀ (L:List (List UInt8)),(∀ x ∈ L,1<=x.length)->L.length<=L.flatten.length:=fun L hL=>by
    induction L with
    | nil=>simp
    | cons x t ih=>
     have P:=hL x (by simp)
     have h4:=ih (fun y hy=>hL y (by simp[hy]))
     rw[length_cons,List.flatten_cons,length_append];omega
   have P:=h2 (Zbd (Zbc s)) (fun x hx=>(Ziv _ _ x zL hx).2)
   rw[Zkv _ _ zL] at P
   omega)
 generalize Zbc s=V at *;generalize Ziu s.idx.toNat V=m at *;generalize Zbd V=PW at *;generalize Zaz 0 V=CR at *;obtain⟨b,aW⟩:∃ b,b=Zee s:=⟨_,rfl⟩;rw[<-aW] at E ae ac ⊢;clear aW aM d;obtain⟨CI,aX⟩:∃ CI:Int,CI=(CR:Int):=⟨_,rfl⟩;rw[<-aX] at aw O;clear aX aq
 go_enter func56,ntmps56
 go_upto_region 1 with fail
 rw[<-z];clear z
 go_wp2_with fail
 refine(H.o _ l.o).mono ?_;rintro x W1 ⟨rfl,n⟩;have B:=ZZ (l.o.trans (n.mono l.o.size));have f:=ZZ (i.o.below n zL);clear n H I p1 p2 p3 p4 p5 i l;obtain⟨I,-⟩:=f.o.cell 0;obtain⟨p1,-⟩:=f.o.cell 1;obtain⟨p2,-⟩:=f.o.cell 2;obtain⟨p3,-⟩:=f.o.cell 3;obtain⟨p4,-⟩:=f.o.cell 4;obtain⟨p5,-⟩:=f.o.cell 5
 go_wp2_with fail
 refine(aA.o _ B.o).mono ?_;rintro x W2 ⟨v2,rfl,ad,Y⟩;have ag:=ZZ (B.o.trans (Y.mono B.o.size));have aU:=ZZ (f.o.below Y zL);have X:=ZZ ad.rd;obtain⟨a2,c2,bj⟩:∃ a c,v2=.slice a V.length c:=by obtain⟨a,c,h,-⟩:=ad.rd;exact⟨a,c,h⟩
 subst bj;clear ad Y aA I p1 p2 p3 p4 p5 f B;obtain⟨I,-⟩:=aU.o.cell 0
 go_wp2_with fail
 refine(aw.o _ _ X.o).mono ?_;rintro x W3 ⟨rfl,ai⟩;have au:=ZZ (ag.o.trans (ai.mono ag.o.size));have aJ:=ZZ (X.o.below ai zL);clear ai aw aU I ag X
 go_wp2_with fail
 refine(O.o _).mono ?_;rintro x j ⟨v4,rfl,am,af⟩;have aH:=ZZ (au.o.trans (af.mono au.o.size));have aj:=ZZ (aJ.o.below af zL);have aB:=ZZ am.rd;obtain⟨A,u,a5⟩:∃ a c,v4=.slice a m.length c:=by obtain⟨a,c,h,-⟩:=am.rd;exact⟨a,c,h⟩
 subst a5;clear am af O au aJ;have R:Hid (Below j.heap.size j (j.alloc (.cells #[.slice A m.length u] 53))):=ZZ ((Below.refl _ _).alloc zL _);have aO:Hid ((j.alloc (.cells #[.slice A m.length u] 53)).ownsRow j.heap.size 53 1 (.slice (some ⟨j.heap.size,0,none⟩) 1 1) 1 [.slice A m.length u]):=ZZ (World.ownsRow_lit j #[.slice A m.length u] 1 zL (by unfold maxLen;omega) rfl)
 go_wp2_with fail
 refine(aQ.o _ _ (aj.o.below R.o zL)).mono ?_;rintro x W6 ⟨v6,xs,rfl,ah,S,av⟩;have ax:=ZZ (R.o.trans (av.mono R.o.size));have aF:=ZZ (Zow aO.o av zL);have K:=ZZ S;have aP:=ZZ ah;clear av S aO R aQ;rcases ah.2 with ⟨-,hn⟩ | ⟨g6,a6,bm,S,-⟩
 ·have:=Z.o
  omega
 subst S;clear ah;have aE:=ax.o.size;have bd:=Z.o
 go_wp2_with(at_builtin;refine ZcY _ rfl _ _ rfl j.heap.size _ 1 [.slice A m.length u] rfl aF.o _ PW.length a6 xs rfl K.o.1 (World.ownsRow.cells aP.o rfl) K.o.one (by omega) aE ?_)
 intro v7 k ak az;have U:=ZZ (ax.o.trans az);have ab:=ZZ (aH.o.trans (U.o.mono aH.o.size));have ay:=ZZ (aB.o.below U.o zL);have aV:=ZZ (aj.o.below U.o zL);have aC:=ZZ ak;have ao:b.length=1+PW.length:=by rw[E.o,length_cons];omega
 have bn:(b.length:Int)<=100000:=by omega
 have a1:Hid (∀ q,q<b.length->∃ x,([Value.slice A m.length u]++xs)[q]?=some x∧Rd k x (b.getD q [])):=ZZ (fun q p=>by
  cases q with
  | zero=>
   refine⟨_,rfl,?_⟩;rw[E.o];exact ay.o
  | succ q=>
   obtain⟨x,h1,h2,P⟩:=K.o.2 q (by omega)
   refine⟨x,by simpa using h1,?_⟩
   rw[E.o]
   exact P k aV.o)
 rcases ak.2 with ⟨-,hn⟩ | ⟨g7,bk,bo,a8,-⟩
 ·omega
 subst a8;rw[<-ao] at aC;clear ak az ay aV aF K aB aj ax U Z bd aE aP;have bi:Hid (∀ q,q<b.length->Zaf (b.take (q+1))=Zaf (b.take q)++Zad (b.getD q [])):=ZZ (fun q p=>Zox b q p)
 have aT:Hid (∀ q,(Zaf (b.take q)).length<=80000):=ZZ (fun q=>Nat.le_trans (ZfG b q) ac.o)
 have a9:Hid (∀ q,q<b.length->(b.getD q []).length<=1048576):=ZZ (fun q p=>ae.o _ (by rw[show b.getD q []=b[q] by simp[List.getD,p]];exact getElem_mem p))
 rw[<-ao];clear ao E ae a7 aN ac;go_wp2
 go_loopw[6,27] (fun vo vi M=>∃ q:Nat,vi=.int .i64 (q:Int)∧q<=b.length∧Hid (Own M k.heap.size vo (Zaf (b.take q)))∧Hid (Below k.heap.size k M)) (fun _ vi _=>b.length-(intOf vi).toNat)
 case atStart=>exact⟨0,rfl,Nat.zero_le _,ZZ (Own.nil _ _),Below.refl _ _⟩
 case round=>
  obtain⟨q,rfl,p,J,C⟩:=hrel;by_cases ap:q<b.length
  case neg=>
   obtain rfl:q=b.length:=by omega
   rw[take_length] at J;go_wp2;go_ret2;exact⟨_,rfl,J.o.mono ab.o.size,ab.o.trans (C.o.mono ab.o.size)⟩
  have bl:(q:Int)<(b.length:Int):=by omega
  obtain⟨x,aS,al⟩:=a1.o q ap;have N:=World.ownsRow.cells aC.o (g:=g7) rfl q x aS;rw[Addr.add_lit] at N;have aY:M.cell? ⟨g7,0+q,none⟩=some x:=(C.o.cell (World.block_lt_of_cell? k ⟨g7,0+q,none⟩ N)).trans N;rw[Nat.zero_add] at aY;have aL:=ZZ (al.below C.o zL)
  have aI:Hid (ZAn (b.getD q [])=(Zad (b.getD q []),0)):=ZZ (by
   unfold ZAn
   rw[if_pos (a9.o q ap)])
  have ar:=ZZ (bi.o q ap);have bh:=ZZ (aT.o q);have an:=ZZ (aT.o (q+1));have T:=ZZ (Zgw x (b.getD q []) M aL.o);rw[aI.o] at T;rw[ar.o] at an
  dsimp only at T
  obtain⟨xa,xc,bb⟩:∃ a c,x=.slice a (b.getD q []).length c:=by obtain⟨a,c,h,-⟩:=al;exact⟨a,c,h⟩
  subst bb;clear aS al N aI aL;generalize Zad (b.getD q [])=F at *;generalize b.getD q []=D at *;obtain⟨G,hG⟩:∃ G,G=Zaf (b.take q):=⟨_,rfl⟩;rw[<-hG] at J ar bh an;clear hG
  go_wp2_with fail
  refine T.o.mono ?_;rintro e W8 ⟨v8,rfl,aZ,aa⟩;have bc:=ZZ aZ.rd;have aR:=ZZ (J.o.below aa zL);have aG:=ZZ (C.o.trans (aa.mono C.o.size));have bg:=ZZ aG.o.size;have a0:Hid (G.length+F.length<=70368744177664):=ZZ (by have:=an.o;rw[length_append] at this;omega)
  clear aZ aa T J C aY
  go_wp2_with(at_builtin;refine ZaE _ rfl _ _ rfl k.heap.size _ G rfl aR.o _ F rfl bc.o a0.o bg.o ?_)
  intro v9 W9 aD aK;have bf:=ZZ aD;have a3:=ZZ (aG.o.trans aK);clear aD aK aR;go_wp2;go_roundw
  case rel=>exact⟨q+1,by go_num,by omega,ZZ (by rw[ar.o];exact bf.o),a3⟩
  case measure=>simp[intOf];omega
theorem Zse {K:Nat->Prop} {pd p:Nat} {s:Sto} {d:Dk} {N T:Nat} (w:World) (h:SD K w pd p s d N T) (g:∀ k,K k->k<w.heap.size) (q:ZrZ s):
 Calls prog 26 #[ptr p] w fun e w'=>Zff K w pd p (ZeK (s,d)) (N+4) T e w':=by
 have b:=ZZ (ZhU w h g q);unfold ZeK;obtain⟨r,t⟩:∃ r,r=ZcE (s,d):=⟨_,rfl⟩;rw[<-t] at b ⊢;have z:=ZZ g;obtain⟨R,j⟩:∃ R,R=if r.2=0 then(({ r.1.1 with cur:=0 },r.1.2),(0:Int)) else r:=⟨_,rfl⟩
 rw[<-j];have a:=ZZ j;clear h g t j q;obtain⟨⟨n,D⟩,c⟩:=r
 dsimp only at a
 unfold Zff at b
 dsimp only at b
 go_enter func26,ntmps26
 go_wp2_with fail
 refine b.o.mono ?_;rintro e y ⟨rfl,l,i⟩;have m:=ZZ l;have v:=ZZ i;have x:Hid (∀ k,K k->k<y.heap.size):=ZZ (fun k A=>Nat.lt_of_lt_of_le (z.o k A) i.size)
 obtain⟨⟨-,-,C,-⟩,fz⟩:=l.cells;have B:=fz 12;clear l i b fz;by_cases f:c=0
 ·subst f
  rw[if_pos rfl] at a;have u:=ZZ (m.o.setHead (s':={ n with cur:=0 }) x.o 12 (.int .i64 0) rfl rfl rfl (fun _=>rfl))
  generalize n.cur=cu at *;go_wp2;go_ret;rw[a.o];exact⟨rfl,u.o.1,v.o.trans u.o.2 (fun _ _ h=>h)⟩
 ·rw[if_neg f] at a
  have E:(c != 0)=true:=by rw[bne_iff_ne];exact f
  clear f;go_wp2;go_ret;rw[a.o];exact⟨rfl,m.o,v.o⟩
theorem ZxJ {l:List Int} {x:Int} {k:Nat} (b:k<l.length) (a:l.getD k 0=x):x ∈ l:=by
 rw[<-a];exact Zli b
theorem Zva (v:Value) (l:List Int) (x:Int) (w:World) (C:RdI w v l):
 Calls prog 144 #[v,.int .i64 x] w fun e w'=>(∃ k:Int,e=.returned (.int .i64 k)∧((0<=k∧x ∈ l)∨(k=-1∧x ∉ l)))∧w'=w:=by
 obtain⟨ao,cap,rfl,B,q,-,-,n⟩:=C;have E:(l.length:Int)<=9223372036854775807:=by unfold maxLen at q;omega
 have A:=ZZ n;clear n q B
 go_enter func144,ntmps144
 go_wp2
 go_loop [8] (fun i=>∃ k:Nat,i=.int .i64 k∧k<=l.length∧Hid (∀ j,j<k->l.getD j 0≠x)) (fun i=>l.length-(intOf i).toNat)
 case atStart=>exact⟨0,rfl,Nat.zero_le _,fun j d=>by omega⟩
 case round=>
  obtain⟨k,rfl,F,p⟩:=hrel;by_cases a:k<l.length
  ·rcases A.o with h0 | ⟨g,off,rfl,hc⟩
   ·rw[h0] at a;simp at a
   have t:=hc k a;clear hc;have u:=ZZ a;obtain⟨y,f⟩:∃ y,y=l.getD k 0:=⟨_,rfl⟩;rw[<-f] at t;have m:=ZZ f;clear f;by_cases b:x=y
   ·subst b
    go_wp2;go_ret;exact⟨⟨(k:Int),rfl,.inl ⟨by omega,ZxJ u.o m.o.symm⟩⟩,rfl⟩
   ·have D:(x == y)=false:=beq_eq_false_iff_ne.2 b
    have c:=ZZ b;clear b;go_wp2
    go_round
    case rel=>
     refine⟨k+1,by go_num,by omega,fun j d=>?_⟩
     by_cases e:j=k
     ·rw[e,<-m.o];exact fun h=>c.o h.symm
     ·exact p.o j (by omega)
    case measure=>simp[intOf];omega
  ·have c:Hid (x ∉ l):=ZZ (fun z=>by
    obtain⟨j,d,e⟩:=List.getElem_of_mem z
    exact p.o j (by omega) (by simp[List.getD,d,e]))
   go_wp2;go_ret;exact⟨⟨-1,rfl,.inr ⟨rfl,c.o⟩⟩,rfl⟩
theorem Zoy (v:Value) (l:List Int) (x:Int) (w:World) (g:RdI w v l):
 Calls prog 106 #[v,.int .i64 x] w fun e w'=>e=.returned (.bool (decide (x ∈ l)))∧w'=w:=by
 have f:=ZZ (Zva v l x w g);obtain⟨ao,cap,rfl,-⟩:=g;obtain⟨b,d⟩:∃ b,b=decide (x ∈ l):=⟨_,rfl⟩;rw[<-d];have c:=ZZ d;clear d
 go_enter func106,ntmps106
 go_wp2_with fail
 refine f.o.mono ?_;rintro e j ⟨⟨k,rfl,h⟩,rfl⟩;clear f;rcases h with ⟨i,a⟩ | ⟨rfl,a⟩
 ·rw[decide_eq_true a] at c
  clear a;go_wp2;go_ret;rw[c.o];exact⟨rfl,rfl⟩
 ·rw[decide_eq_false a] at c
  clear a;go_wp2;go_ret;rw[c.o];exact⟨rfl,rfl⟩
theorem Zvb {K:Nat->Prop} {pd p:Nat} {s:Sto} {d:Dk} {N T:Nat} (w:World) (h:SD K w pd p s d N T) (A:∀ k,K k->k<w.heap.size) (P:N<=1000000) (U:T<=1000000000):
 Calls prog 63 #[ptr p] w fun e w'=>Zff K w pd p (ZcG (s,d)) (N+2) T e w':=by
 obtain⟨⟨Y,-⟩,-⟩:=h.cells
 have B:Hid (Calls prog 28 #[ptr pd] w fun e w'=>∃ v,e=.returned v∧ZaB w' w.heap.size v (Zak d)∧Below w.heap.size w w'):=ZZ (by
  obtain⟨F,M,I,L,⟨X,H,t,-⟩,-⟩:=h
  exact ZhJ w H t P)
 have Q:Hid (∀ n ∈ Zak d,I64 n):=ZZ (by
  obtain⟨F,M,I,L,⟨X,H,t,-⟩,-⟩:=h;intro n hn;have:=Zej t n hn
  exact⟨by omega,by omega⟩)
 have x:=ZZ h;have Z:=ZZ A;have m:Hid (∀ W,Below w.heap.size w W->Calls prog 69 #[ptr pd,.int .i64 1] W fun e w'=>Zff K W pd p (Zbv (fun d=>Zam d 1) (s,d)) (N+2) T e w'):=ZZ (fun W E=>(x.o.below E).step (fun d=>Zam d 1) (fun k hk=>Nat.lt_of_lt_of_le (Z.o k hk) E.size) (fun F hF _=>ZmT 1 ⟨by decide,by decide⟩ _ hF P U))
 obtain⟨R,u⟩:∃ R,R=ZcG (s,d):=⟨_,rfl⟩;rw[<-u];have i:=ZZ u;clear h A u
 go_enter func63,ntmps63
 go_wp2_with fail
 refine B.o.mono ?_;rintro e j ⟨C,rfl,q,f⟩;have G:=ZZ f;have g:=ZZ (Zoy C (Zak d) 1 j (q.rd Q.o))
 obtain⟨a1,n1,c1,S⟩:∃ a n c,C=.slice a n c:=by
  obtain⟨a,c,hh⟩:=q.shape;exact⟨a,_,c,hh⟩
 subst S;have J:Hid (Zap (fun k=>¬ K k) w j):=ZZ (Zap.ofBelow f)
 obtain⟨⟨d0,-⟩,-⟩:=(x.o.below f).cells;clear q f B Y;by_cases b:1 ∈ Zak d
 ·rw[decide_eq_true b] at g
  have l:Hid (R=Zbv (fun d=>Zam d 1) (s,d)):=ZZ (by rw[i.o];unfold ZcG;rw[if_pos b])
  have y:=ZZ (m.o j G.o);rw[<-l.o] at y;clear b i m
  go_wp2_with fail
  refine g.o.mono ?_;rintro e V ⟨rfl,rfl⟩
  go_wp2_with fail
  refine y.o.mono ?_;rintro e W3 ⟨rfl,D,O⟩;have z:=ZZ (And.intro D O);clear D O;go_wp2;go_ret;exact⟨rfl,z.o.1,J.o.trans z.o.2 (fun _ _ h=>h)⟩
 ·rw[decide_eq_false b] at g
  have l:Hid (R=((s,d),0)):=ZZ (by rw[i.o];unfold ZcG;rw[if_neg b])
  clear b i m
  go_wp2_with fail
  refine g.o.mono ?_;rintro e V ⟨rfl,rfl⟩;go_wp2;go_ret;rw[l.o];exact⟨rfl,(x.o.below G.o).mono (by omega) zL,J.o⟩
theorem Zsf {K:Nat->Prop} {pd p R:Nat} {s:Sto} {d:Dk} {N T:Nat} (w:World) (h:SD K w pd p s d N T) (a:∀ k,K k->k<w.heap.size) (n:w.cell? ⟨R,0,none⟩=some (ptr p)):
 Calls prog 58 #[.pointer (some ⟨R,0,none⟩)] w fun e w'=>Zff K w pd p (Zbv (fun d=>Zdx d 1) (s,d)) (N+2) T e w':=by
 have c:=ZZ (h.step (fun d=>Zdx d 1) a (fun F j _=>Ztl 1 ⟨by decide,by decide⟩ _ j))
 obtain⟨⟨m,-⟩,-⟩:=h.cells;obtain⟨r,g⟩:∃ r,r=Zbv (fun d=>Zdx d 1) (s,d):=⟨_,rfl⟩
 rw[<-g] at c ⊢;clear h a g
 go_enter func58,ntmps58
 go_wp2_with fail
 refine c.o.mono ?_;rintro e l ⟨rfl,f,b⟩;have i:=ZZ (And.intro f b);clear f b;go_wp2;go_ret;exact⟨rfl,i.o⟩
theorem Zsg {K:Nat->Prop} {pd p R:Nat} {s:Sto} {d:Dk} {N T:Nat} (w:World) (h:SD K w pd p s d N T) (A:∀ k,K k->k<w.heap.size) (E:w.cell? ⟨R,0,none⟩=some (ptr p)) (G:K R) (H:N<=1000000) (Q:T<=1000000000):
 Calls prog 60 #[.pointer (some ⟨R,0,none⟩)] w fun e w'=>Zff K w pd p (Zeg (s,d)) (N+2) T e w':=by
 have u:=ZZ h;have m:=ZZ A;have t:=ZZ G
 have V:Hid (∀ W,Below w.heap.size w W->Calls prog 50 #[ptr p,.int .i64 3] W fun e w'=>e=.returned (.int .i64 (Zbf d 3))∧Below w.heap.size w w'):=ZZ (fun W b=>by
  obtain⟨F,M,I,L,O,h2,-⟩:=u.o.below b;refine(Zjn 3 W h2 O H (by decide) (by decide)).mono ?_
  rintro e w' ⟨rfl,f⟩
  exact⟨rfl,b.trans (f.mono b.size)⟩)
 have D:Hid (I64 (Zbf d 3)):=ZZ (by
  obtain⟨F,M,I,L,⟨L1,g1,U,-⟩,-⟩:=h;have f:∀ n ∈ ZaY (Zak d) 3,0<=n∧n<1048576:=fun n v=>Zej U n (List.mem_filter.1 v).1
  unfold Zbf;generalize ZaY (Zak d) 3=l at f ⊢;by_cases P:l.length=0
  ·rw[List.eq_nil_of_length_eq_zero P]
   exact⟨by decide,by decide⟩
  ·have e:l.getD (l.length-1) (3-2)=l[l.length-1]'(by omega):=by simp[List.getD,show l.length-1<l.length by omega]
   have:=f _ (getElem_mem (show l.length-1<l.length by omega))
   rw[e]
   exact⟨by omega,by omega⟩)
 have C:Hid (∀ W,Below w.heap.size w W->Calls prog 61 #[ptr pd,.int .i64 1,.int .i64 (Zbf d 3)] W fun e w'=>Zff K W pd p (Zeg (s,d)) (N+2) T e w'):=ZZ (fun W b=>(u.o.below b).step (fun d=>Zdg d 1 (Zbf d 3)) (fun k hk=>Nat.lt_of_lt_of_le (m.o k hk) b.size) (fun F X _=>Zus 1 (Zbf d 3) ⟨by decide,by decide⟩ D.o _ X H Q))
 have g:Hid (∀ W,Below w.heap.size w W->W.cell? ⟨R,0,none⟩=some (ptr p)∧W.cell? ⟨p,0,none⟩=some (ptr pd)):=ZZ (fun W b=>by
  obtain⟨⟨q,-⟩,-⟩:=(u.o.below b).cells
  exact⟨(b.cell (p:=⟨R,0,none⟩) (m.o R t.o)).trans E,q⟩)
 have Z:Hid (∀ W W' (r:SDk × Int),Below w.heap.size w W->SD K W' pd p r.1.1 r.1.2 (N+2) T->Zap (fun k=>¬ K k) W W'->W'.cell? ⟨R,0,none⟩=some (ptr p)∧W'.cell? ⟨p,0,none⟩=some (ptr pd)):=ZZ (fun W W' (r:SDk × Int) b hs ho=>by
  obtain⟨⟨q,-⟩,-⟩:=hs.cells
  exact⟨(World.cell?_of_block (a:=⟨R,0,none⟩) (ho.block R (Nat.lt_of_lt_of_le (m.o R t.o) b.size) (fun v=>v t.o))).trans (g.o W b).1,q⟩)
 have B:Hid (Below w.heap.size w w.drew):=ZZ (Below.refl _ _).drew;obtain⟨c9,c0⟩:=g.o w (Below.refl _ _);obtain⟨r,J⟩:∃ r,r=Zeg (s,d):=⟨_,rfl⟩;rw[<-J] at C ⊢;generalize Zbf d 3=nn at *;clear h A J E G D
 go_enter func60,ntmps60
 go_upto_region 1 with fail
 go_region_held(fun W=>W.cell? ⟨R,0,none⟩=some (ptr p)∧W.cell? ⟨p,0,none⟩=some (ptr pd))
  (first | (with_reducible exact g.o _ B.o) | (with_reducible exact g.o _ c.o) | (with_reducible exact Y.o))
  (first
   | (go_at_call 50;refine(V.o _ B.o).mono ?_;rintro e y ⟨rfl,x⟩;have c:=ZZ x;clear x)
   | (go_at_call 61;refine(C.o y c.o).mono ?_;rintro e S ⟨rfl,j,i⟩;have z:=ZZ (And.intro j i);have Y:=ZZ (Z.o y S r c.o j i);clear j i))
 all_goals
  go_wp2;go_ret;exact⟨rfl,z.o.1,(Zap.ofBelow c.o).trans z.o.2 (fun _ _ h=>h)⟩
theorem ZiP {l:List Rec} {q:Nat} (h:q<l.length):l.take (q+1)=l.take q++[l.getD q Zaj]:=by
 rw[take_add_one];simp[List.getD,h]
theorem Zqk:∀ (l:List Rec) (i:Int) (j:Nat),Zbb i l->j<l.length->(l.getD j Zaj).idx=i+j
 | r::t,i,0,h,_=>by
  have:=h.1;simp[List.getD,this]
 | r::t,i,j+1,h,hj=>by
  have:=Zqk t (i+1) j h.2 (by simpa using hj)
  simp only [List.getD,List.getElem?_cons_succ] at this ⊢;rw[this];omega
theorem ZiQ:∀ (l:List Rec) (i:Int) (r:Rec),Zbb i (l++[r])↔Zbb i l∧r.idx=i+l.length
 | [],i,r=>by simp[Zbb]
 | s::t,i,r=>by
  rw[List.cons_append,Zbb,Zbb,ZiQ t (i+1) r,length_cons,and_assoc];constructor
  ·rintro⟨b,a,c⟩
   exact⟨b,a,by omega⟩
  ·rintro⟨b,a,c⟩
   exact⟨b,a,by omega⟩
theorem Znl:∀ (l:List Rec) (i:Int) (k:Nat),Zbb i l->Zbb i (l.take k)
 | _,_,0,_=>by simp[Zbb]
 | [],_,k+1,_=>by simp[Zbb]
 | r::t,i,k+1,h=>by
  rw[List.take_succ_cons];exact⟨h.1,Znl t (i+1) k h.2⟩
def Zmy (l:List Rec) (k:Nat):Prop:=(∀ r ∈ l.take k,ZaA r)∧Zbb (l.headD Zaj).idx (l.take k)
theorem Zvc (l:List Rec):Zmy l 0:=⟨fun r h=>by simp at h,by simp[Zbb]⟩
theorem Zvd {l:List Rec} {k:Nat} (f:k<l.length):Zmy l (k+1)↔Zmy l k∧ZaA (l.getD k Zaj)∧(l.getD k Zaj).idx=(l.headD Zaj).idx+k:=by
 unfold Zmy;rw[ZiP f,ZiQ];have g:(l.take k).length=k:=by simp;omega
 rw[g];constructor
 ·rintro⟨a,b,c⟩
  exact⟨⟨fun r d=>a r (by simp[d]),b⟩,a _ (by simp),c⟩
 ·rintro⟨⟨a,b⟩,c,e⟩
  refine⟨fun r d=>?_,b,e⟩
  rcases List.mem_append.1 d with h | h
  ·exact a r h
  ·simp only [List.mem_singleton] at h
   rw[h];exact c
theorem ZxK {l:List Rec} (h:Zmy l l.length) (b:1<=l.length) (a:l.length<=256):ZbE l:=by
 unfold Zmy at h;rw[take_length] at h;exact⟨b,a,h.1,h.2⟩
theorem ZbE.part {l:List Rec} (h:ZbE l) (k:Nat):Zmy l k:=⟨fun r a=>h.2.2.1 r (List.mem_of_mem_take a),Znl l _ k h.2.2.2⟩
theorem Zjq {o:Opn} (h:Zdy o):(ZaX o).length<=30:=by
 have d:=ZyG (ZdK h).1;have a:=ZyG (ZdK h).2;have e:0<=o.code:=h.1;have b:o.code<=10:=h.2.1;have c:=ZdD (n:=o.code.toNat) (by omega)
 unfold ZaX;rw[length_append,length_append];omega
theorem Znm {b:List Rec} (d:∀ r ∈ b,ZaA r) {r:Rec} (a:ZaA r):(ZbJ b r).length<=60:=by
 have e:=ZhC d a;have c:=ZdY a;have k:=Zjq a.1;obtain⟨_,_,_,_,_,i,j,_⟩:=a;have h:=ZdD (n:=r.proc.toNat) (by omega)
 have f:=ZyG e;have g:=ZyG c;unfold ZbJ;simp only [length_append];omega
theorem Zql:∀ (l a:List Rec),(∀ r ∈ a,ZaA r)->(∀ r ∈ l,ZaA r)->(Zbs a l).length<=60*l.length
 | [],_,_,_=>by simp[Zbs]
 | r::t,a,hp,hl=>by
  have d:=Znm hp (hl r (by simp))
  have c:=Zql t (a++[r]) (fun s b=>by
   rcases List.mem_append.1 b with h | h
   ·exact hp s h
   ·simp at h;rw[h];exact hl r (by simp)) (fun s b=>hl s (by simp[b]))
  rw[Zbs,length_append,length_cons];omega
def Zoz (w:World) (l:List Rec) (e:Ending) (w':World):Prop:=
 ∃ v',e=.returned (.tuple #[v',.int .i64 (if ZbE l then 0 else 1)])∧Own w' w.heap.size v' (if ZbE l then ZdF l else[])∧Below w.heap.size w w'
theorem Below.allocs {a w:World} (h:Below a.heap.size a w) (X:Obj):Below a.heap.size a (w.alloc X):=h.alloc h.size X
theorem ZzE {n:Nat} (h:n<128):Lib.uvarint n=[n.toUInt8]:=Lib.uvarint_small h
theorem Znn {v k f:Nat} (j:1<=v) (m:v<=3) (u:k<6) (e:f<4611686018427387904):Zcy (ZbC v k f)=.ok (v,k,f):=by
 have t:=Lib.uvarint_pos v;have n:=Lib.uvarint_pos k;have q:=Lib.uvarint_pos f
 have g:Zab ((ZbC v k f).drop 1)=(v,(Lib.uvarint v).length):=by
  unfold ZbC;rw[List.drop_succ_cons,List.drop_zero];exact ZaT _ _ (by omega)
 have b:(ZbC v k f).drop (1+(Lib.uvarint v).length)=Lib.uvarint k++Lib.uvarint f:=by
  unfold ZbC;rw[Nat.add_comm,List.drop_succ_cons,drop_left]
 have c:Zab ((ZbC v k f).drop (1+(Lib.uvarint v).length))=(k,(Lib.uvarint k).length):=by
  rw[b];exact ZaT _ _ (by omega)
 have i:(ZbC v k f).drop (1+(Lib.uvarint v).length+(Lib.uvarint k).length)=Lib.uvarint f:=by
  rw[<-drop_drop,b,drop_left]
 have d:Zab ((ZbC v k f).drop (1+(Lib.uvarint v).length+(Lib.uvarint k).length))=(f,(Lib.uvarint f).length):=by
  rw[i];have:=ZaT f [] e;rw[List.append_nil] at this;exact this
 have p:(ZbC v k f).length=1+(Lib.uvarint v).length+(Lib.uvarint k).length+(Lib.uvarint f).length:=by
  unfold ZbC;simp only [length_cons,length_append];omega
 unfold Zcy;simp only [g,c,d];rw[a (by rintro(h | h);exact l h (by unfold ZbC;simp);exact h rfl),a (by omega),a (by omega),a (by omega)]
theorem ZhV {v k f:Nat} (a:v<=3) (e:k<6) (b:f<4611686018427387904):(ZbC v k f).length<=40:=by
 have d:(Lib.uvarint v).length<=10:=Lib.uvarint_length64 (by omega)
 have c:(Lib.uvarint k).length<=10:=Lib.uvarint_length64 (by omega)
 have g:(Lib.uvarint f).length<=10:=Lib.uvarint_length64 (by omega)
 unfold ZbC;simp only [length_cons,length_append];omega
theorem Zsh {e:List Rec} (g:∀ r ∈ e,ZaA r) {r:Rec} (d:ZaA r):(ZbJ e r).length<=60:=by
 have h:=ZhC g d;have f:=ZdY d;obtain⟨c,_,_,_,_,m,j,_⟩:=d;have q:(Lib.uvarint r.proc.toNat).length<=10:=Lib.uvarint_length64 (by omega)
 have p:(Lib.uvarint (Lib.zigzag (r.seq-Zav e r.proc))).length<=10:=Lib.uvarint_length64 (ZeV h);have i:(Lib.uvarint r.op.code.toNat).length<=10:=Lib.uvarint_length64 (by have:=c.1;have:=c.2.1;omega)
 have n:(Lib.uvarint (Lib.zigzag r.op.a)).length<=10:=Lib.uvarint_length64 (ZeV (ZdK c).1);have l:(Lib.uvarint (Lib.zigzag r.op.b)).length<=10:=Lib.uvarint_length64 (ZeV (ZdK c).2);have k:(Lib.uvarint (Lib.zigzag r.resp)).length<=10:=Lib.uvarint_length64 (ZeV f);unfold ZbJ ZaX;simp only [length_append];omega
theorem ZiR:∀ (l a:List Rec),(∀ r ∈ a,ZaA r)->(∀ r ∈ l,ZaA r)->(Zbs a l).length<=60*l.length
 | [],_,_,_=>by simp[Zbs]
 | r::t,a,hp,hl=>by
  have c:=hl r (by simp)
  have e:=Zsh hp c
  have d:=ZiR t (a++[r]) (fun s b=>by
   rcases List.mem_append.1 b with h | h
   ·exact hp s h
   ·rw[List.mem_singleton.1 h];exact c) (fun s b=>hl s (by simp[b]))
  rw[Zbs,length_append,length_cons];omega
theorem Zfz {d:List UInt8} {v k f:Nat} (h:Zcy d=.ok (v,k,f)):d=ZbC v k f∧1<=v∧v<=3∧k<6∧f<4611686018427387904:=by
 unfold Zcy at h;simp only at h;split at h
 ·cases h
 rename_i n
 split at h
 ·cases h
 rename_i x
 split at h
 ·cases h
 rename_i q
 split at h
 ·cases h
 rename_i u
 simp only [Except.ok.injEq,Prod.mk.injEq] at h;obtain⟨w,D,g⟩:=h;have b:=ZbD (l:=d.drop 1) (by omega)
 have e:=ZbD (l:=d.drop (1+(Zab (d.drop 1)).2)) (by omega)
 have a:=ZbD (l:=d.drop (1+(Zab (d.drop 1)).2+(Zab (d.drop (1+(Zab (d.drop 1)).2))).2)) (by omega)
 have C:f<4611686018427387904:=by
  rw[<-g];rcases Zay (d.drop (1+(Zab (d.drop 1)).2+(Zab (d.drop (1+(Zab (d.drop 1)).2))).2)) with h | h
  ·rw[h];decide
  ·exact h.1
 rw[w] at b q;rw[D] at e u;rw[g] at a;generalize (Zab (d.drop 1)).2=i at *;generalize (Zab (d.drop (1+i))).2=j at *;generalize (Zab (d.drop (1+i+j))).2=m at *;refine⟨?_,by omega,by omega,by omega,C⟩
 cases d with
 | nil=>exact absurd (.inl rfl) n
 | cons c t=>
  have A:c=108:=by
   have:=fun h=>n (.inr h)
   simpa using Decidable.not_not.1 this
  have z:(c::t).drop 1=t:=rfl;have p:(c::t).drop (1+i)=t.drop i:=by rw[Nat.add_comm,List.drop_succ_cons]
  have B:(c::t).drop (1+i+j)=(t.drop i).drop j:=by rw[<-drop_drop,p]
  rw[z] at b;rw[p] at e;rw[B] at a
  have y:m=((t.drop i).drop j).length:=by
   have:1+i+j+m=(c::t).length:=Decidable.not_not.1 (fun h=>x (.inr (.inr (.inr h))))
   rw[length_cons] at this;rw[length_drop,length_drop];omega
  rw[y,take_length] at a;unfold ZbC;rw[A,b,e,a,List.take_append_drop,List.take_append_drop]
def Zjr (k f:Int):Prop:=0<=k∧k<6∧0<=f∧f<4611686018427387904
instance (k f:Int):Decidable (Zjr k f):=by unfold Zjr;infer_instance
def Zch (v k f:Int):Int:=if 1<=v∧v<=3 then(if Zjr k f then 0 else 1) else 6
def ZjH (v k f:Int):List UInt8:=if 1<=v∧v<=3 then(if Zjr k f then Zad (ZbC v.toNat k.toNat f.toNat) else[]) else[]
def ZtA (w:World) (v k f:Int) (e:Ending) (w':World):Prop:=
 ∃ v',e=.returned (.tuple #[v',.int .i64 (Zch v k f)])∧Own w' w.heap.size v' (ZjH v k f)∧Below w.heap.size w w'
theorem Rd.byte (w:World) (c:UInt8):Rd (w.alloc (.cells #[.int .u8 c.toNat] 5)) (.slice (some ⟨w.heap.size,0,none⟩) 1 1) [c]:=by
 refine⟨some ⟨w.heap.size,0,none⟩,1,rfl,Nat.le_refl _,by unfold maxLen;omega,(fun h=>by cases h),.inr ⟨w.heap.size,0,rfl,fun j a=>?_⟩⟩
 have e:j=0:=by simpa using a
 subst e;rw[cell_of_row _ w.heap.size 0 _ 5 (0,0) (heap_alloc_new w _)];rfl
theorem ZoA {l:List UInt8} (h:l.length<=1048576):ZAn l=(Zad l,0):=by
 unfold ZAn;rw[if_pos h]
theorem Zve {L:List (List UInt8)} {q:Nat} (h:q<L.length):L.take (q+1)=L.take q++[L.getD q []]:=by
 rw[take_add_one];simp[List.getD,h]
theorem RdL.at {w:World} {ao:Option Addr} {n cap:Nat} {L:List (List UInt8)} (h:RdL w (.slice ao n cap) L) (k:Nat) (d:k<L.length):
 ∃ b a x,ao=some ⟨b,a,none⟩∧(∀ W,Below w.heap.size w W->W.cell? ⟨b,a+k,none⟩=some x)∧∀ W,Below w.heap.size w W->Rd W x (L.getD k []):=by
 obtain⟨l,m,e,_,_,_,i⟩:=h;simp only [Value.slice.injEq] at e;obtain⟨rfl,_,rfl⟩:=e;rcases i with h0 | ⟨b,a,hab,hc⟩
 ·rw[h0] at d;simp at d
 ·obtain⟨x,f,j⟩:=hc k d
  have g:b<w.heap.size:=World.block_lt_of_cell? w ⟨b,a+k,none⟩ f;exact⟨b,a,x,hab,fun W c=>(c.cell (p:=⟨b,a+k,none⟩) g).trans f,fun W c=>j.below c zL⟩
theorem ZfH:∀ (L:List (List UInt8)) (k:Nat),(L.take k).flatten.length<=L.flatten.length
 | [],k=>by simp
 | x::L,0=>by simp
 | x::L,k+1=>by
  have:=ZfH L k;rw[List.take_succ_cons,List.flatten_cons,List.flatten_cons,length_append,length_append];omega
theorem ZtB {L:List (List UInt8)} {q:Nat} (h:q<L.length):L.getD q [] ∈ L:=by
 have e:L.getD q []=L[q]:=by simp[List.getD,h]
 rw[e];exact getElem_mem h
theorem ZgI (B:List (List UInt8)):(B.map Zad).flatten=Zaf B:=by
 unfold Zaf;rw[List.flatMap_def]
theorem ZzF (l:List UInt8):(Zab l).1<4611686018427387904:=by
 rcases Zay l with h | h
 ·rw[h];decide
 ·exact h.1
theorem ZzG (W:World) (ao:Option Addr) (cap:Nat) (l:List UInt8) (b:Rd W (.slice ao l.length cap) l) (n:Nat) (f:n<=l.length):Rd W (.slice (if cap=n then ao else Option.map (fun x=>x.add n) ao) (l.length-n) (cap-n)) (l.drop n):=by
 have d:l.length<=cap:=by
  obtain⟨a,c,e,h,-⟩:=b;simp only [Value.slice.injEq] at e;omega
 have h:=b.mid n l.length cap (by omega) (by omega) (by omega) (by omega)
 rw[List.take_of_length_le (by rw[length_drop];omega)] at h
 simpa[sliced] using h
theorem Zsi (W:World) (ao:Option Addr) (l:List UInt8) (cap:Nat) (_hlc:l.length<=cap) (i:Int) (n:Nat) (a:i=(n:Int)) (b:n<=l.length):
 (Instr.sliceAt 53 (.slice ao l.length cap) (some (.int .i64 i)) none none).run prog W=.ok (sliced ao n l.length cap 1) W:=by
 subst a;rw[run_sliceAt_slice W 53 _ _ _ _ ZaF,run_slice_l W 53 ao l.length cap ZaF .i64 (n:Int) (by omega) (by omega),ZbU,Zfs]
 rfl
def ZdR (w:World) (b:List UInt8) (e:Ending) (w':World):Prop:=
 ∃ (vl:Value) (l:List Rec) (n:Int),e=.returned (.tuple #[vl,.int .i64 n])∧RdR w' vl l∧DecB b l n∧Below w.heap.size w w'
theorem ZdR.none {w w':World} {b:List UInt8} (h:∀ a,ZbE a->ZdF a≠b) (c:Below w.heap.size w w'):ZdR w b (.returned (.tuple #[.slice none 0 0,.int .i64 3])) w':=
 ⟨_,[],3,rfl,RdR.nil _,.inr ⟨rfl,rfl,h⟩,c⟩
theorem Zvf {l:List Rec} (h:ZbE l):ZaA (l.headD Zaj):=by
 obtain⟨a,_,b,_⟩:=h
 match l,a with
 | r::u,_=>exact b r (by simp)
theorem Zsj {l:List Rec} (h:ZbE l) {b:List UInt8} (e:ZdF l=b):
 ((Zab b).1:Int)=(l.headD Zaj).idx∧(Zab b).2≠0∧(Zab (b.drop (Zab b).2)).1=l.length∧(Zab (b.drop (Zab b).2)).2≠0∧b.drop ((Zab b).2+(Zab (b.drop (Zab b).2)).2)=Zbs [] l:=by
 obtain⟨_,g,i,_⟩:=Zvf h;have f:=h.2.1;subst e;have c:Zab (ZdF l)=((l.headD Zaj).idx.toNat,(Lib.uvarint (l.headD Zaj).idx.toNat).length):=ZaT _ _ (by omega)
 have a:(ZdF l).drop (Lib.uvarint (l.headD Zaj).idx.toNat).length=Lib.uvarint l.length++Zbs [] l:=by
  unfold ZdF;rw[drop_left]
 have d:=ZaT l.length (Zbs [] l) (by omega)
 rw[c];simp only;rw[a,d];refine⟨by omega,Zhz _,rfl,Zhz _,?_⟩
 rw[<-drop_drop,a,drop_left]
theorem ZAp (w:World) (ao:Option Addr) (l:List UInt8) (cap:Nat) (b:Rd w (.slice ao l.length cap) l) (n:Nat) (d:n<=l.length):
 ∃ a c,Rd w (.slice a (l.drop n).length c) (l.drop n)∧∀ i:Int,i=(n:Int)->∀ W,(Instr.sliceAt 53 (.slice ao l.length cap) (some (.int .i64 i)) none none).run prog W=.ok (.slice a (l.drop n).length c) W:=by
 have h:=ZzG w ao cap l b n d
 have f:l.length<=cap:=by
  obtain⟨a,c,e,h,-⟩:=b;simp only [Value.slice.injEq] at e;omega
 refine⟨_,_,by rw[length_drop];exact h,fun i g W=>?_⟩
 rw[Zsi W ao l cap f i n g d,length_drop];simp[sliced]
theorem Zno {d:List UInt8} (h:d=[]∨d.getD 0 0≠108):Zcy d=.error 3:=by
 unfold Zcy;rw[if_pos h]
theorem Zvg {d:List UInt8} (h:¬ (d=[]∨d.getD 0 0≠108)) {v i k j f m:Nat} (c:Zab (d.drop 1)=(v,i)) (a:Zab (d.drop (1+i))=(k,j)) (b:Zab (d.drop (1+i+j))=(f,m)):
 Zcy d=if i=0∨j=0∨m=0∨1+i+j+m≠d.length then .error 3 else if v<1∨3<v then .error 6 else if 6<=k then .error 1 else .ok (v,k,f):=by
 unfold Zcy;rw[if_neg h,c];simp only;rw[a];simp only;rw[b]
theorem ZfA {r:Rec} (h:ZaA r):Zga r:=by
 have c:=ZdY h;obtain⟨a,g,e,i,f,j,d,_,_⟩:=h;have b:=ZdK a;exact⟨⟨by omega,by omega⟩,⟨by omega,by omega⟩,⟨by omega,by omega⟩,⟨⟨by have:=a.1;omega,by have:=a.2.1;omega⟩,b.1,b.2⟩,c⟩
def Zsk (L:List (List UInt8)) (v k f:Nat):Seg × Nat × Int:=(⟨k,f,(Zds v f L.tail [] 16).1⟩,1+(Zds v f L.tail [] 16).2.1,(Zds v f L.tail [] 16).2.2)
theorem Zbq.set {w:World} {C:Nat} {v:Value} {l:List Rec} (h:Zbq w C v l) (R i:Nat) (a:R<C) (x:Value):Zbq (w.setCell ⟨R,i,none⟩ x) C v l:=ownsRow_setCell_below h a x
theorem ZbG {C:Nat} {b w:World} (h:Below C b w) (R:Nat) (a:C<=R) (c d e:Value):Below C b (((w.setCell ⟨R,0,none⟩ c).setCell ⟨R,1,none⟩ d).setCell ⟨R,2,none⟩ e):=
 ((h.setCell a _).setCell a _).setCell a _
theorem Zvh (v:Nat) (first:Int) (d:List UInt8) (b:List (List UInt8)) (a:List Rec) (last:Nat):
 Zds v first (d::b) a last=match Ztf v d (first+a.length) with
  | none=>(a,0,3)
  | some r=>if last<16 then(a,0,3) else if 4096<a.length+r.length then(a,0,5)
   else((Zds v first b (a++r) r.length).1,(Zds v first b (a++r) r.length).2.1+1,(Zds v first b (a++r) r.length).2.2):=by
 rw[Zds]
 cases Ztf v d (first+a.length) <;> rfl
theorem drop_one {L:List (List UInt8)} {j:Nat} (a:j<L.length):L.drop j=L.getD j []::L.drop (j+1):=by
 rw[List.drop_eq_getElem_cons a];simp[List.getD,a]
theorem ZfB:∀ (n:Nat) (b:List UInt8),b.length<=n->Zaf (Zao b).1=b.take (Zao b).2.1∧∀ x ∈ (Zao b).1,x.length<=1048576
 | 0,b,hn=>by
  have e:b=[]:=List.eq_nil_of_length_eq_zero (by omega)
  subst e;rw[ZeX];exact⟨rfl,by simp⟩
 | n+1,b,hn=>by
  by_cases e:b=[]
  ·subst e
   rw[ZeX];exact⟨rfl,by simp⟩
  by_cases a:(ZbR b).2.2=0
  ·obtain⟨c,h,i,d⟩:=ZnP a
   have j:=ZeW a;rw[Zfn e a];obtain⟨g,f⟩:=ZfB n (b.drop (ZbR b).2.1) (by rw[length_drop];omega)
   refine⟨?_,fun x hx=>?_⟩
   ·show Zaf ((ZbR b).1::(Zao (b.drop (ZbR b).2.1)).1)=b.take ((ZbR b).2.1+(Zao (b.drop (ZbR b).2.1)).2.1)
    rw[ZaV,g,<-d,List.take_add]
   ·rcases List.mem_cons.1 hx with hx | hx
    ·rw[hx];exact c
    ·exact f x hx
  ·rw[Zfm e a]
   exact⟨rfl,by simp⟩
theorem Zjs:∀ (L:List (List UInt8)) (x:List UInt8),x ∈ L->x.length+5<=(Zaf L).length
 | y::L,x,hx=>by
  rw[ZaV,length_append];rcases List.mem_cons.1 hx with h | h
  ·rw[h,Zas]
   have:=Lib.uvarint_pos y.length;omega
  ·have:=Zjs L x h
   omega
theorem ZhW:∀ (L:List (List UInt8)),5*L.length<=(Zaf L).length
 | []=>by simp
 | y::L=>by
  have:=ZhW L;have:=Zrf y;rw[ZaV,length_append,length_cons];omega
theorem ZhX (b:List UInt8):(∀ x ∈ (Zao b).1,x.length<=1048576∧x.length<=b.length)∧5*(Zao b).1.length<=b.length:=by
 obtain⟨d,c⟩:=ZfB _ b zL
 have e:(Zaf (Zao b).1).length<=b.length:=by
  rw[d,List.length_take];omega
 refine⟨fun x a=>⟨c x a,?_⟩,?_⟩
 ·have:=Zjs _ x a
  omega
 ·have:=ZhW (Zao b).1
  omega
theorem ZxL {L:List (List UInt8)} (h:2<=L.length):(L.take (L.length-1)).headD []=L.headD []∧(L.take (L.length-1)).tail=L.tail.dropLast∧L.getLastD []=L.getD (L.length-1) []∧L.headD []=(L.take (L.length-1)).getD 0 []:=by
 match L,h with
 | x::y::t,_=>
  refine⟨rfl,?_,?_,rfl⟩
  ·show((x::y::t).take (t.length+1)).tail=(y::t).dropLast
   rw[List.take_succ_cons,List.tail_cons,List.dropLast_eq_take,length_cons];rfl
  ·rw[List.getLastD_eq_getLast?,List.getLast?_eq_getElem?]
   simp[List.getD]
theorem ZBt {L:List (List UInt8)} (a:2<=L.length):ZBE L=match Zcy ((L.take (L.length-1)).headD []) with
 | .error e=>(ZhD,e)
 | .ok (v,k,f)=>if(Zsk (L.take (L.length-1)) v k f).2.2≠0 then(ZhD,(Zsk (L.take (L.length-1)) v k f).2.2)
  else if ZBD ((L.take (L.length-1)).headD []) (L.take (L.length-1)).tail=L.getD (L.length-1) [] then((Zsk (L.take (L.length-1)) v k f).1,0) else(ZhD,16):=by
 obtain⟨b,d,c,_⟩:=ZxL a;unfold ZBE Zsk;rw[if_neg (by omega),b,d,c]
 cases Zcy (L.headD []) <;> rfl
theorem ZxM (w:World) (ao:Option Addr) (L:List (List UInt8)) (m cap:Nat) (g:m=L.length) (b:RdL w (.slice ao m cap) L) (n:Nat) (f:n<=L.length):
 ∃ a c,RdL w (.slice a (L.drop n).length c) (L.drop n)∧∀ i:Int,i=(n:Int)->∀ W,(Instr.sliceAt 144 (.slice ao m cap) (some (.int .i64 i)) none none).run prog W=.ok (.slice a (L.drop n).length c) W:=by
 subst g
 have d:L.length<=cap:=by
  obtain⟨a,c,e,h,-⟩:=b;simp only [Value.slice.injEq] at e;omega
 have h:=b.mid n L.length cap f zL d zL;rw[List.take_of_length_le (by rw[length_drop];omega)] at h
 unfold sliced at h;refine⟨_,_,by rw[length_drop];exact h,fun i j W=>?_⟩
 subst j;rw[run_sliceAt_slice W 144 _ _ _ _ Zgu,run_slice_l W 144 ao L.length cap Zgu .i64 (n:Int) (by omega) (by omega),Zld,Zne,length_drop]
 rfl
theorem Zvi (w:World) (ao:Option Addr) (L:List (List UInt8)) (m cap:Nat) (f:m=L.length) (b:RdL w (.slice ao m cap) L) (n:Nat) (d:n<=L.length):
 RdL w (.slice ao n cap) (L.take n)∧∀ i:Int,i=(n:Int)->∀ W,(Instr.sliceAt 144 (.slice ao m cap) none (some (.int .i64 i)) none).run prog W=.ok (.slice ao n cap) W:=by
 subst f
 have j:L.length<=cap:=by
  obtain⟨a,c,e,h,-⟩:=b;simp only [Value.slice.injEq] at e;omega
 refine⟨b.front n d,fun i g W=>?_⟩
 subst g;rw[run_sliceAt_slice W 144 _ _ _ _ Zgu,run_slice_h W 144 ao L.length cap Zgu .i64 (n:Int) (by omega) (by omega),Zld,Zne]
 show Result.ok (sliced ao 0 n cap 1) W=_;unfold sliced
 have e:(if cap=0 then ao else ao.map (·.add (0*1)))=ao:=by
  split
  ·rfl
  ·cases ao <;> simp[Addr.add]
 rw[e,Nat.sub_zero,Nat.sub_zero]
theorem ZzH {d:List UInt8} {x:Int} (h:Zcy d=.error x):x≠0:=by
 intro a;rw[a] at h;unfold Zcy at h;simp only at h
 repeat' split at h
 all_goals simp at h
def Zea (w:World) (b:List UInt8) (e:Ending) (w':World):Prop:=
 ∃ vl,e=.returned (.tuple #[.agg #[.int .i64 (ZdP b).1.kind,.int .i64 (ZdP b).1.first,vl],.int .i64 ((ZdP b).2.1:Nat),.bool (ZdP b).2.2])∧RdR w' vl (ZdP b).1.recs∧Below w.heap.size w w'
theorem Zea.fail {w w':World} {b:List UInt8} (h:ZdP b=(ZhD,0,false)) (a:Below w.heap.size w w'):Zea w b (.returned (.tuple #[.agg #[.int .i64 0,.int .i64 0,.slice none 0 0],.int .i64 0,.bool false])) w':=by
 refine⟨.slice none 0 0,?_,?_,a⟩
 ·rw[h]
  rfl
 ·rw[h]
  exact RdR.nil _
theorem Zlx (v:Nat) (first:Int):∀ (B:List (List UInt8)) (a:List Rec) (last:Nat),(Zds v first B a last).2.1<=B.length
 | [],a,last=>by rw[Zds];simp
 | d::ds,a,last=>by
  rw[Zvh,length_cons]
  cases Ztf v d (first+a.length) with
  | none=>simp
  | some r=>
   simp only;split
   ·simp
   split
   ·simp
   have b:=Zlx v first ds (a++r) r.length;simp only;omega
theorem ZhY (L:List (List UInt8)) (c:Nat):(Zaf (L.take c)).length<=(Zaf L).length:=by
 have h:=ZfH (L.map Zad) c;rw[ZgI,<-List.map_take,ZgI] at h;exact h
theorem Zvj {b:List UInt8} (h:(Zao b).1≠[]):ZdP b=match Zcy ((Zao b).1.headD []) with
 | .error _=>(ZhD,0,false)
 | .ok (v,k,f)=>((Zsk (Zao b).1 v k f).1,(Zaf ((Zao b).1.take (Zsk (Zao b).1 v k f).2.1)).length,true):=by
 unfold ZdP ZyU;rw[if_neg h]
 cases Zcy ((Zao b).1.headD []) <;> rfl
theorem Rd.drewN {w:World} {v:Value} {l:List UInt8} (h:Rd w v l) (n:Nat):Rd (w.drewN n) v l:=h.below (ZaI (Below.refl _ w) n) zL
theorem ZCs (w:World) (v:Value) (l:List UInt8) (f:Rd w v l) (K N:Int) (k n:Nat) (p:K=k) (j:N=n) (h:k+n+4<=l.length):
 ∃ c e d,(∀ q,(Instr.sliceAt 53 v none (some (.int .i64 (K+N))) (some (.int .i64 (K+N)))).run prog (w.drewN q)=.ok c (w.drewN q))∧
  (∀ q,(Instr.sliceAt 53 v (some (.int .i64 K)) (some (.int .i64 (K+N))) (some (.int .i64 (K+N)))).run prog (w.drewN q)=.ok e (w.drewN q))∧
  (∀ q,(Instr.sliceAt 53 v (some (.int .i64 (K+N))) (some (.int .i64 (K+N+4))) (some (.int .i64 (K+N+4)))).run prog (w.drewN q)=.ok d (w.drewN q))∧
  Rd w c (l.take (k+n))∧Rd w e ((l.drop k).take n)∧Rd w d ((l.drop (k+n)).take 4):=by
 have a:=f;obtain⟨ao,cap,rfl,m,_⟩:=f;have b:(K+N).toNat=k+n:=by omega
 have g:K.toNat=k:=by omega
 have i:(K+N+4).toNat=k+n+4:=by omega
 refine⟨sliced ao 0 (k+n) (k+n) 1,sliced ao k (k+n) (k+n) 1,sliced ao (k+n) (k+n+4) (k+n+4) 1,?_,?_,?_,?_,?_,?_⟩
 ·intro q
  rw[run_sliceAt_slice _ 53 _ _ _ _ ZaF,run_slice_hm _ 53 ao l.length cap ZaF .i64 .i64 (K+N) (K+N) (by omega) (by omega) (by omega),ZbU,Zfs,b]
  rfl
 ·intro q
  rw[run_sliceAt_slice _ 53 _ _ _ _ ZaF,run_slice_lhm _ 53 ao l.length cap ZaF .i64 .i64 .i64 K (K+N) (K+N) (by omega) (by omega) (by omega) (by omega),ZbU,Zfs,b,g]
  rfl
 ·intro q
  rw[run_sliceAt_slice _ 53 _ _ _ _ ZaF,run_slice_lhm _ 53 ao l.length cap ZaF .i64 .i64 .i64 (K+N) (K+N+4) (K+N+4) (by omega) (by omega) (by omega) (by omega),ZbU,Zfs,b,i]
  rfl
 ·have:=a.mid 0 (k+n) (k+n) (by omega) (by omega) (by omega) (by omega)
  simpa using this
 ·have:=a.mid k (k+n) (k+n) (by omega) (by omega) (by omega) (by omega)
  rwa [show k+n-k=n by omega] at this
 ·have:=a.mid (k+n) (k+n+4) (k+n+4) (by omega) (by omega) (by omega) (by omega)
  rwa [show k+n+4-(k+n)=4 by omega] at this
theorem Zhg {d:Array Oper} {C:World->Prop} {Q:Act->Prop} {rest:List Oper} {o:Oper} {a:Act} {w:World} (k:o.guard=none) (x:Operand) (lo c b:Option Operand)
 (f:o.op=.slice 53 x lo c b) (e:∀ w',C w'->∃ q,w'=w.drewN q) (v:Value)
 (g:∀ q,(Instr.sliceAt 53 (a.eval x) (lo.map a.eval) (c.map a.eval) (b.map a.eval)).run prog (w.drewN q)=.ok v (w.drewN q))
 (h:wpQuiet prog d C Q rest (a.put o.dst v)):wpQuiet prog d C Q (o::rest) a:=
 wpQuiet_step fun _ i=>by
  rw[if_pos (by simp[Region.wanted,k])]
  refine⟨v,fun w' j=>?_,i _ h⟩
  obtain⟨q,rfl⟩:=e w' j;unfold Oper.quietAt execOp;simp only [f,g,Sem.run_bind,Sem.run_pure,Result.andThen_ok,Oper.quietUpon,and_self]
theorem Zvk (v:Value) (l:List UInt8) (w:World) (C:Rd w v l):
 Calls prog 199 #[v] w fun e w'=>Zhe w l e w':=by
 have HR:=ZZ C;have b:=ZZ (ZAW v l w C);have c:=ZZ (ZfY v l w C);obtain⟨ao,cap,rfl,ax,V,az,aD⟩:=C;clear az aD;have aJ:(l.length:Int)<=9223372036854775807:=by unfold maxLen at V;omega
 have aN:=ZZ ax;have aM:=ZZ V;clear ax V;by_cases i:Zdf l
 ·have a:=ZZ (ZBI i)
  have E:Hid (decide (Zdf l)=true):=decide_eq_true i;rw[E.o] at b;clear i c
  go_enter func199,ntmps199
  go_wp2_with fail
  refine b.o.mono ?_;rintro e d ⟨rfl,rfl⟩;clear b;go_wp2
  go_ret3
  exact Zhe.refused a.o
 have E:Hid (decide (Zdf l)=false):=decide_eq_false i;rw[E.o] at b;have p:=ZZ i;clear i;have W:=Zay l;obtain⟨n,u⟩:∃ n,n=(Zab l).1:=⟨_,rfl⟩;obtain⟨k,t⟩:∃ k,k=(Zab l).2:=⟨_,rfl⟩;rw[<-u,<-t] at W c;have j:=ZZ u;have m:=ZZ t;have L:=ZuS l
 have am:(n:Int)<4611686018427387904∧(k:Int)<=l.length∧(k:Int)<=9:=by
  rw[<-t] at L;rcases W with h | h
  ·have H:n=0:=by rw[u,h]
   have h2:k=0:=by rw[t,h]
   omega
  ·omega
 clear L;obtain⟨N,Q⟩:∃ N:Int,N=(n:Int):=⟨_,rfl⟩;obtain⟨K,U⟩:∃ K:Int,K=(k:Int):=⟨_,rfl⟩;rw[<-Q,<-U] at am c;obtain⟨aO,aF,L⟩:=am;have aG:0<=N:=by omega
 have aL:0<=K:=by omega
 have f:=ZZ Q;have g:=ZZ U;clear Q U;clear W u t;by_cases G:K=0
 ·have a:=ZZ (ZBJ p.o (by rw[<-m.o];have:=g.o;omega))
  subst G
  go_enter func199,ntmps199
  go_wp2_with fail
  refine b.o.mono ?_;rintro e d ⟨rfl,rfl⟩;clear b
  go_wp2_with fail
  refine c.o.mono ?_;rintro e d ⟨rfl,rfl⟩;clear c;go_wp2
  go_ret3
  exact Zhe.refused a.o
 have ez:(K == 0)=false:=beq_eq_false_iff_ne.2 G;have aH:1<=K:=by omega
 have B:=ZZ (show(Zab l).2≠0 by rw[<-m.o];have:=g.o;omega)
 clear G;by_cases c3:1048576<N
 ·have a:=ZZ (ZBK p.o B.o (by rw[<-j.o];have:=f.o;omega))
  go_enter func199,ntmps199
  go_wp2_with fail
  refine b.o.mono ?_;rintro e d ⟨rfl,rfl⟩;clear b
  go_wp2_with fail
  refine c.o.mono ?_;rintro e d ⟨rfl,rfl⟩;clear c;go_wp2
  go_ret3
  exact Zhe.refused a.o
 have X:=ZZ (show ¬ 1048576<(Zab l).1 by rw[<-j.o];have:=f.o;omega)
 by_cases c4:(l.length:Int)<K+N+4
 ·have a:=ZZ (ZBL p.o B.o X.o (by rw[<-j.o,<-m.o];have:=f.o;have:=g.o;omega))
  go_enter func199,ntmps199
  go_wp2_with fail
  refine b.o.mono ?_;rintro e d ⟨rfl,rfl⟩;clear b
  go_wp2_with fail
  refine c.o.mono ?_;rintro e d ⟨rfl,rfl⟩;clear c;go_wp2
  go_ret3
  exact Zhe.refused a.o
 have C4:=ZZ (show ¬ l.length<(Zab l).2+4+(Zab l).1 by rw[<-j.o,<-m.o];have:=f.o;have:=g.o;omega)
 have J:Hid (∀ v w,Rd w v (l.take (k+n))->Calls prog 136 #[v] w fun e w'=>e=.returned (.int .u32 (Zaz 0 (l.take (k+n)):Nat))∧Below w.heap.size w w'):=fun v w h=>Zou v _ w h
 have P:Hid (∀ v w,Rd w v ((l.drop (k+n)).take 4)->Calls prog 161 #[v] w fun e w'=>e=.returned (.int .u64 (A.leNat ((l.drop (k+n)).take 4):Nat))∧w'=w):=by
  intro v w h;have:=ZpE v _ w h
  rwa [List.take_of_length_le (by simp;omega)] at this
 have M:Hid (A.leNat ((l.drop (k+n)).take 4)≠Zaz 0 (l.take (k+n))->ZbR l=([],0,4)):=fun h=>by
  rw[j.o,m.o] at h;exact ZBM p.o B.o X.o C4.o h
 have O:Hid (A.leNat ((l.drop (k+n)).take 4)=Zaz 0 (l.take (k+n))->ZbR l=((l.drop k).take n,k+4+n,0)):=fun h=>by
  rw[j.o,m.o] at h ⊢;exact ZBN p.o B.o X.o C4.o h
 have hs:=Ztc (l.take (k+n))
 have hq:A.leNat ((l.drop (k+n)).take 4)<4294967296:=by
  have H:=Zkt ((l.drop (k+n)).take 4);have e4:((l.drop (k+n)).take 4).length=4:=by have:=f.o;have:=g.o;simp;omega
  rw[e4] at H;exact H
 generalize Zaz 0 (l.take (k+n))=s at *;generalize A.leNat ((l.drop (k+n)).take 4)=q at *;obtain⟨S,F⟩:∃ S:Int,S=(s:Int):=⟨_,rfl⟩;obtain⟨T,R⟩:∃ T:Int,T=(q:Int):=⟨_,rfl⟩;rw[<-F] at J;rw[<-R] at P;have aI:0<=S:=by omega
 have aK:S<4294967296:=by omega
 have ab:=ZZ F;have al:=ZZ R;obtain⟨v1,v2,v3,af,av,aa,an,ag,Y⟩:=ZCs w _ l HR.o K N k n g.o f.o (by have:=f.o;have:=g.o;omega)
 have ai:=ZZ an;have aj:=ZZ ag;have aw:=ZZ Y;have ap:=ZZ af;have ad:=ZZ av;have au:=ZZ aa;clear an ag Y af av aa;clear F R hs hq
 go_enter func199,ntmps199
 go_wp2_with fail
 refine b.o.mono ?_;rintro e d ⟨rfl,rfl⟩;clear b
 go_wp2_with fail
 refine c.o.mono ?_;rintro e d ⟨rfl,rfl⟩;clear c;go_wp2;refine wp_region_quiet_lit (by kernel_rfl) (by kernel_rfl) ?_
 repeat (go_big_quiet_step (fail))
 refine Zhg rfl _ _ _ _ rfl (fun _ h=>h) v1 ap.o ?_
 simp only [Act.put,List.setIfInBounds_toArray,set_cons_succ,set_cons_zero]
 repeat (go_big_quiet_step (fail))
 refine Zhg rfl _ _ _ _ rfl (fun _ h=>h) v2 ad.o ?_
 simp only [Act.put,List.setIfInBounds_toArray,set_cons_succ,set_cons_zero]
 repeat (go_big_quiet_step (fail))
 refine Zhg rfl _ _ _ _ rfl (fun _ h=>h) v3 au.o ?_
 simp only [Act.put,List.setIfInBounds_toArray,set_cons_succ,set_cons_zero]
 repeat (go_big_quiet_step (fail))
 refine wpQuiet_nil ?_;rintro _ ⟨z,rfl⟩;have ac:=ZZ (ZaI (Below.refl d.heap.size d) z);have Z:=ZZ (ai.o.drewN z);have ak:=ZZ (aj.o.drewN z);have ae:=ZZ (aw.o.drewN z);clear ai aj aw ap ad au
 go_wp2_with fail
 refine(P.o _ _ ae.o).mono ?_;rintro e w2 ⟨rfl,rfl⟩;clear P ae
 go_wp2_with fail
 refine(J.o _ _ Z.o).mono ?_;rintro e w2 ⟨rfl,D⟩;have I:=ZZ (ac.o.trans D);have ay:=ZZ (ak.o.below D zL);clear J Z ak D ac;by_cases y:T=S
 ·have aB:(T != S)=false:=by rw[bne_eq_false_iff_eq];exact y
  have a:=ZZ (O.o (by have:=ab.o;have:=al.o;omega))
  clear y M O;have aC:=ZZ (show((l.drop k).take n).length<=1048576 by have:=f.o;simp;omega)
  have HC:=ZZ (ZxH _ _ w2 ay.o (by have:=aC.o;omega))
  generalize (l.drop k).take n=x at *
  go_wp2_with fail
  refine HC.o.mono ?_;rintro e w4 ⟨v4,rfl,aq,ah⟩;have ar:=I.o.size;have aE:=ZZ (aq.mono ar);have aA:=ZZ (I.o.trans (ah.mono ar));clear aq ah HC;go_wp2
  go_ret3
  refine⟨v4,?_,by rw[a.o];exact aE.o,aA.o⟩
  rw[a.o];exact Zzv (by show K+N+4=((k+4+n:Nat):Int);have:=f.o;have:=g.o;omega) rfl
 ·have aB:(T != S)=true:=by rw[bne_iff_ne];exact y
  have a:=ZZ (M.o (by have:=ab.o;have:=al.o;omega))
  clear y M O;go_wp2
  go_ret3
  refine⟨.slice none 0 0,?_,?_,I.o⟩
  ·rw[a.o];rfl
  ·rw[a.o];exact Own.nil _ _
theorem Zqm (v:Value) (l:List UInt8) (w:World) (F:Rd w v l) (aa:l.length<=1000000):
 Calls prog 159 #[v] w fun e w'=>∃ v',e=.returned (.tuple #[v',.int .i64 ((Zao l).2.1:Nat),.int .i64 ((Zao l).2.2:Nat)])∧Zlb w' w.heap.size v' (Zao l).1∧Below w.heap.size w w':=by
 have P:=ZZ F;obtain⟨ao,cap,rfl,S,R,U,J⟩:=F;clear U J S R;have I:=ZZ (fun v k w h=>Zvk v (l.drop k) w h)
 go_enter func159,ntmps159
 go_wp2
 go_loopw[5,6] (fun T n a=>∃ (A:Nat) (L:List (List UInt8)),n=.int .i64 (A:Int)∧Hid (Zxl l A L)∧Hid (Zlb a w.heap.size T L)∧Hid (Below w.heap.size w a)) (fun _ n _=>l.length-(intOf n).toNat)
 case atStart=>exact⟨0,[],rfl,Zxl.start l,Zlb.nil _ _,Below.refl _ _⟩
 case round=>
  obtain⟨A,L,rfl,d,y,g⟩:=hrel;have X:=d.o.2.2;by_cases j:A<l.length
  ·have C:Hid (∃ v',(Instr.sliceAt 53 (.slice ao l.length cap) (some (.int .i64 (A:Int))) none none).run prog a=.ok v' a∧Rd a v' (l.drop A)):=by
    have:=ZkP a _ l (P.o.below g.o zL) .i64 (A:Int) (by omega) (by omega)
    rwa [Int.toNat_natCast] at this
   have H:=g.o.size
   go_wp2_with(refine ZiE _ rfl _ _ _ _ rfl _ C.o ?_)
   intro v1 z;have G:=ZZ z;clear z C
   go_wp2_with fail
   refine(I.o _ A _ G.o).mono ?_;rintro e w2 ⟨v2,rfl,u,i⟩;have t:=ZZ (u.mono H);have D:=ZZ (y.o.below i zL);have q:=ZZ (g.o.trans (i.mono H));have K:=q.o.size;clear u i G;have p:=ZZ (fun h=>ZeW (l:=l.drop A) h)
   have Q:=Zwt (l.drop A);rw[length_drop] at Q;by_cases b:(ZbR (l.drop A)).2.2=0
   ·have M:=ZZ (d.o.step j b)
    have h5:=p.o b;have Y:=d.o.2.1;rw[b];generalize (ZbR (l.drop A)).2.1=m at *;generalize (ZbR (l.drop A)).1=x at *;clear b p;obtain⟨W,c2,rfl,_⟩:=t.o.rd
    go_wp2_with(at_builtin;refine ZhP _ rfl _ _ rfl w.heap.size _ L rfl D.o _ x rfl t.o (by omega) K ?_)
    intro v3 V E B;have O:=ZZ E;have N:=ZZ (q.o.trans B);clear E B;go_wp2;go_roundw
    case rel=>exact⟨A+m,L++[x],by go_num,M,O,N⟩
    case measure=>simp[intOf];omega
   ·have f:=ZZ (d.o.stop j b)
    clear p;generalize (ZbR (l.drop A)).2.2=c at *;have Z:((c:Int) != 0)=true:=by rw[bne_iff_ne];omega
    clear b;go_wp2
    go_ret3
    refine⟨_,?_,by rw[f.o];exact D.o,q.o⟩
    rw[f.o];rfl
  ·have f:=ZZ (d.o.whole j)
   go_wp2
   go_ret3
   refine⟨_,?_,by rw[f.o];exact y.o,g.o⟩
   rw[f.o];rfl
theorem ZAX (v:Value) (l:List UInt8) (w:World) (i:Rd w v l) (k:l.length<=1000000):
 Calls prog 114 #[v] w fun e w'=>∃ v',e=.returned (.tuple #[v',.int .i64 ((ZAo l).2:Nat)])∧RdL w' v' (ZAo l).1∧Below w.heap.size w w':=by
 have h:=ZZ (Zqm v l w i k);clear i
 go_enter func114,ntmps114
 go_wp2_with fail
 refine h.o.mono ?_;rintro e q ⟨p,rfl,f,d⟩;have j:=ZZ f;have g:=ZZ d;clear f d h;by_cases b:(Zao l).2.2=0
 ·have a:Hid (ZAo l=((Zao l).1,0)):=if_pos b
  rw[b];clear b;generalize (Zao l).2.1=m at *;go_wp2;go_ret2;refine⟨_,?_,by rw[a.o];exact j.o.rd,g.o⟩
  rw[a.o];rfl
 ·have a:Hid (ZAo l=([],(Zao l).2.2)):=if_neg b
  generalize (Zao l).2.1=m at *;generalize (Zao l).2.2=c at *;have n:((c:Int) != 0)=true:=by rw[bne_iff_ne];omega
  clear b;go_wp2;go_ret2;refine⟨_,?_,by rw[a.o];exact RdL.nil _,g.o⟩
  rw[a.o];rfl
end Go.Proofs.YtnahjngbneicaaaGreatDoor
