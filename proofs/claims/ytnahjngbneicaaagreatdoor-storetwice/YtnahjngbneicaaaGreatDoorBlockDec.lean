import Derived.Test.YtnahjngbneicaaaGreatDoorBlockTakeC
namespace Go.Proofs.YtnahjngbneicaaaGreatDoor
open _root_.Go.Proofs.Tryz
open List (length_set)
set_option maxRecDepth 100000
open Go.RowKit
variable {w w':World}
structure DIB (w wr:World) (b:List UInt8) (first count g B:Nat) (L:List Rec) (vl:Value) (m:List UInt8) (t:Bool):Prop where
 row:Zmj wr g (L++List.replicate (count-L.length) Zaj)
 map:ZiS wr B L.length (Zav L)
 rd:Rd wr vl m
 le:m.length<=b.length
 read:Zsv b first count L m t
 below:Below w.heap.size w wr
theorem ZoK (L:List Rec):∀ u ∈ Zan L,∃ n,u=Value.int .i64 n:=by
 induction L with
 | nil=>intro u a;simp[Zan] at a
 | cons r t b=>
  intro u a;rw[Zan] at a;rcases List.mem_append.1 a with h | h
  ·simp[Zeo] at h
   rcases h with rfl | rfl | rfl | rfl | rfl | rfl | rfl <;> exact⟨_,rfl⟩
  ·exact b u h
theorem Rd.row {v:Value} {m:List UInt8} (h:Rd w v m) {g:Nat} {L:List Rec} (u:Zmj w g L) (p:But g g w w'):Rd w' v m:=by
 obtain⟨y,A,B,x,q,i,d⟩:=h;refine⟨y,A,B,x,q,i,?_⟩;rcases d with d | ⟨c,f,z,t⟩
 ·exact .inl d
 ·refine .inr ⟨c,f,z,fun j k=>?_⟩
  have b:=t j k;by_cases e:c=g
  ·rw[e,(u.cell _).1] at b
   obtain⟨n,i⟩:=ZoK L _ (List.mem_of_getElem? b)
   cases i
  ·have l:c<w.heap.size:=World.block_lt_of_cell? w ⟨c,f+j,none⟩ b
   rw[World.cell?_of_block (a:=⟨c,f+j,none⟩) (p.block c l e e)];exact b
theorem ZiS.row {b n:Nat} {f:Int->Int} (h:ZiS w b n f) {g:Nat} {L:List Rec} (d:Zmj w g L) (c:But g g w w'):ZiS w' b n f:=by
 have a:b≠g:=fun e=>h.apart d e.symm
 exact h.keep (c.block b h.lt a a)
theorem ZBe (L:List Rec) (a:Nat) (b:L.length<a) (r:Rec):(L++List.replicate (a-L.length) Zaj).set L.length r=(L++[r])++List.replicate (a-(L++[r]).length) Zaj:=by
 have e:a-L.length=(a-(L++[r]).length)+1:=by simp;omega
 rw[e,List.replicate_succ,List.set_append_right _ _ zL,Nat.sub_self];simp
set_option maxHeartbeats 4000000 in
theorem ZjK (vb:Value) (b:List UInt8) (w:World) (hr:Rd w vb b) (bG:b.length<=1000000):
 Calls prog 120 #[vb] w fun e w'=>ZdR w b e w':=by
 have HR:=ZZ hr
 obtain⟨va,vc,rfl⟩:∃ va vc,vb=.slice va b.length vc:=by
  obtain⟨va,vc,rfl,_⟩:=hr;exact⟨va,vc,rfl⟩
 clear hr;have a9:=ZZ (fun q n E=>Zsj (l:=q) (b:=b) n E)
 obtain⟨i,J⟩:∃ i,i=behind (Zab b).2 b:=⟨_,rfl⟩;obtain⟨A,ab⟩:∃ A,A=behind (Zab i).2 i:=⟨_,rfl⟩
 have al:Hid (∀ W v,Rd W v b->Calls prog 167 #[v,.func (.func 168) #[] #[]] W fun e w'=>∃ v',e=.returned (.tuple #[.int .i64 ((Zab b).1:Nat),v',.bool (decide ((Zab b).2≠0))])∧Rd w' v' i∧Below W.heap.size W w'):=ZZ (fun W v h=>by
  have:=Zhh ((Zab b).1:Nat) (Zab b).2 v b W h (Zcj b) (ZfY v b W h);rw[<-J] at this
  exact this)
 have ah:Hid (∀ W v,Rd W v i->Calls prog 167 #[v,.func (.func 168) #[] #[]] W fun e w'=>∃ v',e=.returned (.tuple #[.int .i64 ((Zab i).1:Nat),v',.bool (decide ((Zab i).2≠0))])∧Rd w' v' A∧Below W.heap.size W w'):=ZZ (fun W v h=>by
  have:=Zhh ((Zab i).1:Nat) (Zab i).2 v i W h (Zcj i) (ZfY v i W h);rw[<-ab] at this
  exact this)
 have l1:=ZbT (Zab b).2 b;have l2:=ZbT (Zab i).2 i;rw[<-J] at l1;rw[<-ab] at l2
 have c1:(Zab b).1<4611686018427387904:=by
  rcases Zay b with h | h
  ·rw[h];decide
  ·exact h.1
 have HW:Hid (∀ q,ZbE q->ZdF q=b->(Zab i).2≠0∧q.length=(Zab i).1∧A=Zbs [] q∧(q.headD Zaj).idx=((Zab b).1:Nat)):=ZZ (fun q n E=>by
  obtain⟨g1,g2,g3,g4,g5⟩:=a9.o q n E;rw[Zbh g2] at J;rw[<-J] at g3 g4 g5;rw[Zbh g4] at ab;refine⟨g4,g3.symm,?_,g1.symm⟩;rw[<-List.drop_drop,<-J,<-ab] at g5
  exact g5)
 have HS:Hid ((Zab i).2≠0->b=Lib.uvarint (Zab b).1++(Lib.uvarint (Zab i).1++A)):=ZZ (fun h=>by
  have h1:(Zab b).2≠0:=ZfC (l:=b) (by rw[<-J];exact Zvy h)
  have K:=ZlL h1;have S:=ZlL h;rw[<-J] at K;rw[<-ab] at S
  exact K.trans (congrArg (Lib.uvarint (Zab b).1++·) S))
 have bv:Hid (∀ W v l,RdR W v l->Calls prog 48 #[v] W fun e w'=>e=.returned (.bool (decide (ZbE l)))∧Below W.heap.size W w'):=ZZ (fun W v l h=>ZeP v l W h)
 clear J ab a9;generalize decide ((Zab b).2≠0)=T0 at *;generalize (Zab b).1=first at *;generalize (Zab i).1=g at *;obtain⟨T1,V⟩:∃ T1,T1=decide ((Zab i).2≠0):=⟨_,rfl⟩;rw[<-V] at ah;by_cases ak:(Zab i).2=0∨256<g
 ·have z:Hid (∀ q,ZbE q->ZdF q≠b):=ZZ (fun q n E=>by
   obtain⟨g1,g2,_⟩:=HW.o q n E;have:=n.2.1
   omega)
  by_cases N:(Zab i).2=0
  ·have n:T1=false:=by rw[V];exact decide_eq_false (fun h=>h N)
   subst n;clear ak HW HS N V
   go_enter func120,ntmps120
   go_wp2_with fail
   refine(al.o _ _ HR.o).mono ?_;rintro e W1 ⟨v1,rfl,y,O⟩;obtain⟨a1,n1,K,-⟩:=id y;subst K;have aa:=ZZ y;have H:=ZZ O;clear y O
   go_wp2_with fail
   refine(ah.o _ _ aa.o).mono ?_;rintro e f ⟨v2,rfl,G,Q⟩;obtain⟨a2,n2,S,-⟩:=id G;subst S;have P:=ZZ (H.o.trans (Q.mono H.o.size));clear G Q;go_wp2;go_ret2;exact ZdR.none z.o P.o
  ·have n:T1=true:=by rw[V];exact decide_eq_true N
   subst n;have bA:256<(g:Int):=by omega
   clear ak HW HS N V
   go_enter func120,ntmps120
   go_wp2_with fail
   refine(al.o _ _ HR.o).mono ?_;rintro e W1 ⟨v1,rfl,y,O⟩;obtain⟨a1,n1,K,-⟩:=id y;subst K;have aa:=ZZ y;have H:=ZZ O;clear y O
   go_wp2_with fail
   refine(ah.o _ _ aa.o).mono ?_;rintro e f ⟨v2,rfl,G,Q⟩;obtain⟨a2,n2,S,-⟩:=id G;subst S;have P:=ZZ (H.o.trans (Q.mono H.o.size));clear G Q;go_wp2;go_ret2;exact ZdR.none z.o P.o
 have N:(Zab i).2≠0:=fun h=>ak (.inl h)
 have br:g<=256:=Nat.le_of_not_lt (fun h=>ak (.inr h))
 have n:T1=true:=by rw[V];exact decide_eq_true N
 subst n
 have bc:Hid (Zsv b first g [] A true):=ZZ ⟨trivial,(fun r h=>by simp at h),(fun _ _=>HS.o N),(fun h=>by cases h),fun q n E=>by
  obtain⟨g1,g2,g3,g4⟩:=HW.o q n E
  exact⟨g2,by simp,by simpa using g3,rfl,g4⟩⟩
 have bE:¬ 256<(g:Int):=by omega
 have aZ:=ZoJ;have bt:∀ W:World,(Instr.makeSlice 29 (.int .i64 (g:Int)) (.int .i64 (g:Int))).run prog W=.ok (.slice (some ⟨W.heap.size,0,none⟩) g g) (W.alloc (.cells (Zan (List.replicate g Zaj)).toArray 62)):=fun W=>aZ W g (by omega)
 have bz:=@run_makeMap prog;have bl:A.length<=b.length:=by omega
 clear ak HW HS N V aZ l1 l2;obtain⟨ZR,aA⟩:∃ ZR,ZR=(Zan (List.replicate g Zaj)).toArray:=⟨_,rfl⟩;rw[<-aA] at bt;have bn:=ZZ aA;clear aA
 go_enter func120,ntmps120
 go_wp2_with fail
 refine(al.o _ _ HR.o).mono ?_;rintro e W1 ⟨v1,rfl,y,O⟩;obtain⟨a1,n1,K,-⟩:=id y;subst K;have aa:=ZZ y;have H:=ZZ O;clear y O
 go_wp2_with fail
 refine(ah.o _ _ aa.o).mono ?_;rintro e f ⟨v2,rfl,G,Q⟩;obtain⟨a2,n2,S,-⟩:=id G;subst S;have bj:=ZZ G;have P:=ZZ (H.o.trans (Q.mono H.o.size));clear G Q aa H al ah
 have ba:Hid (DIB w ((f.alloc (.cells ZR 62)).alloc (.map #[] 0)) b first g f.heap.size (f.heap.size+1) [] (.slice a2 A.length n2) A true):=ZZ (by
  have u:Below f.heap.size f ((f.alloc (.cells ZR 62)).alloc (.map #[] 0)):=((Below.refl _ _).alloc zL _).alloc (by simp) _
  have hs:(f.alloc (.cells ZR 62)).heap.size=f.heap.size+1:=by simp
  refine⟨?_,?_,bj.o.below u zL,bl,bc.o,P.o.trans (u.mono P.o.size)⟩
  ·rw[List.nil_append,List.length_nil,Nat.sub_zero]
   unfold Zmj;rw[<-bn.o];exact(Below.heap_alloc _ _ _ (by simp)).trans (heap_alloc_new f _)
  ·have h:=ZiS.made (f.alloc (.cells ZR 62))
   rw[hs] at h
   exact h)
 have z:=ZZ P.o.size;clear bj P bc;go_wp2
 go_loopw[5,8,35] (fun vl vt vi wr=>∃ (t:Bool) (L:List Rec) (m:List UInt8),vt=.bool t∧vi=.int .i64 (L.length:Int)∧L.length<=g∧Hid (DIB w wr b first g f.heap.size (f.heap.size+1) L vl m t)) (fun _ _ vi _=>g-(intOf vi).toNat)
 case atStart=>exact⟨true,[],A,rfl,rfl,Nat.zero_le _,ba⟩
 case round=>
  clear ba;obtain⟨t,L,m,rfl,rfl,hk,p⟩:=hrel;by_cases aK:L.length<g
  case neg=>
   obtain rfl:g=L.length:=by omega
   have bD:¬ (L.length:Int)<(L.length:Int):=by omega
   have aS:=p.out.row;rw[Nat.sub_self,List.replicate_zero,List.append_nil] at aS;have aX:=ZZ (aS.rd p.out.read.ok (by unfold maxLen;omega))
   have ay:=ZZ (bv.o wr _ L aX.o);have ag:=ZZ p.out.read.done.1;have X:=ZZ p.out.read.done.2;have ad:=ZZ p.out.below
   obtain⟨F,C,aM⟩:∃ F C,u5=.slice F m.length C:=by
    obtain⟨F,C,h,-⟩:=p.out.rd;exact⟨F,C,h⟩
   subst aM;clear aS p
   cases t with
   | false=>
    have ai:=ZZ (X.o (fun h=>by cases h.1))
    clear ag X;go_wp2;go_ret2;exact ZdR.none ai.o ad.o
   | true=>
    by_cases hm:m=[]
    case neg=>
     have ai:=ZZ (X.o (fun h=>hm h.2.1))
     have bp:0<m.length:=Nat.pos_of_ne_zero (fun e=>hm (List.eq_nil_of_length_eq_zero e))
     clear ag X hm;generalize m.length=ln at *;have bI:decide (0<ln)=true:=decide_eq_true bp;go_wp2;go_ret2;exact ZdR.none ai.o ad.o
    subst hm;by_cases n:ZbE L
    ·have HE:=ZZ (ag.o ⟨rfl,rfl,n⟩)
     rw[decide_eq_true n] at ay;have bq:=ZZ n;clear ag X n
     go_wp2_with fail
     refine ay.o.mono ?_;rintro e W3 ⟨rfl,u⟩;have U:=ZZ (ad.o.trans (u.mono ad.o.size));have ao:=ZZ (aX.o.below u zL);clear u;go_wp2;go_ret2;exact⟨_,L,0,rfl,ao.o,.inl ⟨rfl,bq.o,HE.o⟩,U.o⟩
    ·have ai:=ZZ (X.o (fun h=>n h.2.2))
     rw[decide_eq_false n] at ay;clear ag X n
     go_wp2_with fail
     refine ay.o.mono ?_;rintro e W3 ⟨rfl,u⟩;have U:=ZZ (ad.o.trans (u.mono ad.o.size));clear u;go_wp2;go_ret2;exact ZdR.none ai.o U.o
  have bC:(L.length:Int)<(g:Int):=by omega
  obtain⟨R,d,m',t',hT⟩:∃ R d m' t',Zdl m=(R,d,m',t'):=⟨_,_,_,_,rfl⟩;have af:=ZZ (ZmE _ m wr p.out.rd (by have:=p.out.le;omega))
  have aW:=ZZ (p.out.read.step c1 aK br hT);have aR:=ZBd m;have aT:=ZxU m;rw[hT] at af aR aT;have aB:=ZZ aT;have be:Hid (m'.length<=b.length):=ZZ (Nat.le_trans aR p.out.le)
  obtain⟨F,C,aM⟩:∃ F C,u5=.slice F m.length C:=by
   obtain⟨F,C,h,-⟩:=p.out.rd;exact⟨F,C,h⟩
  subst aM;clear hT aR aT;unfold ZuH at af
  dsimp only at af
  have a4:(L++List.replicate (g-L.length) Zaj).length=g:=by simp;omega
  have a6:=ZZ a4;clear a4
  go_wp2_with fail
  refine af.o.mono ?_;rintro e W3 ⟨v3,rfl,aL,u⟩;obtain⟨a3,n3,e3,-⟩:=id aL;subst e3;have ae:=ZZ (p.out.row.below u zL);have aY:=ZZ (p.out.map.below u zL);have ao:=ZZ aL;have U:=ZZ (p.out.below.trans (u.mono p.out.below.size));clear aL u af p
  have M:∀ j,j<7->∃ x,W3.cell? ⟨f.heap.size,L.length*7+j,none⟩=some x∧W3.frozen? ⟨f.heap.size,L.length*7+j,none⟩=false:=fun j hj=>by
   have h:=ae.o.cell (L.length*7+j);obtain⟨x,hx⟩:∃ x,(Zan (L++List.replicate (g-L.length) Zaj))[L.length*7+j]?=some x:=⟨_,List.getElem?_eq_getElem (by rw[Zbo,a6.o];omega)⟩
   exact⟨x,h.1.trans hx,h.2⟩
  obtain⟨x0,k0,f0⟩:=M 0 (by decide)
  obtain⟨x1,k1,f1⟩:=M 1 (by decide)
  obtain⟨x2,k2,f2⟩:=M 2 (by decide)
  obtain⟨x3,k3,f3⟩:=M 3 (by decide)
  obtain⟨x4,k4,f4⟩:=M 4 (by decide)
  obtain⟨x5,k5,f5⟩:=M 5 (by decide)
  obtain⟨x6,k6,f6⟩:=M 6 (by decide)
  rw[Nat.add_zero] at k0 f0;clear M
  go_upto_region 12 with fail
  obtain⟨T,an⟩:∃ T,T=((((((W3.setCell ⟨f.heap.size,L.length*7,none⟩ (.int .i64 R.idx)).setCell ⟨f.heap.size,L.length*7+1,none⟩ (.int .i64 R.proc)).setCell ⟨f.heap.size,L.length*7+2,none⟩ (.int .i64 R.seq)).setCell ⟨f.heap.size,L.length*7+3,none⟩ (.int .i64 R.op.code)).setCell ⟨f.heap.size,L.length*7+4,none⟩ (.int .i64 R.op.a)).setCell ⟨f.heap.size,L.length*7+5,none⟩ (.int .i64 R.op.b)).setCell ⟨f.heap.size,L.length*7+6,none⟩ (.int .i64 R.resp):=⟨_,rfl⟩;rw[<-an];have au:L.length<(L++List.replicate (g-L.length) Zaj).length:=by rw[a6.o];exact aK
  have I:=ZZ au;have aQ:=ae.o.seven au R.idx R.proc R.seq R.op.code R.op.a R.op.b R.resp;rw[<-an] at aQ
  have ap:Hid (But f.heap.size f.heap.size W3 T):=ZZ (by
   rw[an]
   exact(((((((But.refl _ _ _).set _ _ (.inl rfl) _).set _ _ (.inl rfl) _).set _ _ (.inl rfl) _).set _ _ (.inl rfl) _).set _ _ (.inl rfl) _).set _ _ (.inl rfl) _).set _ _ (.inl rfl) _)
  have bg:=ZZ (ao.o.row ae.o ap.o);have aV:=ZZ (aY.o.row ae.o ap.o);have aG:=ZZ (ZcQ U.o ap.o U.o.size z.o z.o);have Y:=ZZ aQ;obtain⟨⟨bB,bo⟩,bw⟩:(∃ x,T.cell? ⟨f.heap.size,L.length*7,none⟩=some x)∧T.frozen? ⟨f.heap.size,L.length*7,none⟩=false:=⟨⟨_,(Y.o.at (k:=L.length) (by rw[length_set];exact au)).1⟩,(Y.o.cell _).2⟩
  clear an aQ au ae ao aY U ap k0 k1 k2 k3 k4 k5 k6 f0 f1 f2 f3 f4 f5 f6
  go_upto_region 13 with fail
  obtain⟨W5,ax⟩:∃ W5,W5=T.setCell ⟨f.heap.size,L.length*7,none⟩ (.int .i64 ((first:Int)+(L.length:Int))):=⟨_,rfl⟩;rw[<-ax];have bh:L.length<((L++List.replicate (g-L.length) Zaj).set L.length ⟨R.idx,R.proc,R.seq,⟨R.op.code,R.op.a,R.op.b⟩,R.resp⟩).length:=by rw[length_set];exact I.o
  have aH:=Y.o.set bh 0 (by decide) (.int .i64 ((first:Int)+(L.length:Int))) ⟨(first:Int)+L.length,R.proc,R.seq,⟨R.op.code,R.op.a,R.op.b⟩,R.resp⟩ (by rw[Zdq I.o];rfl)
  rw[Nat.add_zero,<-ax,List.set_set] at aH
  have aq:Hid (But f.heap.size f.heap.size T W5):=ZZ (by
   rw[ax]
   exact(But.refl _ _ _).set _ _ (.inl rfl) _)
  have a7:=ZZ (bg.o.row Y.o aq.o);have aI:=ZZ (aV.o.row Y.o aq.o);have aO:=ZZ (ZcQ aG.o aq.o aG.o.size z.o z.o);have ac:=ZZ aH;have av:=ac.o.at (k:=L.length) (by rw[length_set];exact I.o)
  rw[Zdq I.o] at av;have k1:=av.2.1;have k2:=av.2.2.1;have f2:=(ac.o.cell (L.length*7+2)).2;have a8:=aI.o.look aB.o.1
  dsimp only at k1 k2
  clear ax aH bh av Y bg aV aG aq bo bw;obtain⟨ls,aP⟩:∃ ls,ls=Zav L R.proc:=⟨_,rfl⟩;rw[<-aP] at a8;have a5:=ZZ aP;clear aP
  go_upto_region 14 with fail
  obtain⟨B,aF⟩:∃ B,B=wrap64 (ls+d):=⟨_,rfl⟩;rw[<-aF]
  have aE:IntKind.i64.wrap (Zav L R.proc+d)=B:=by
   rw[aF,<-a5.o];unfold wrap64;exact IntKind.wrap_i64 _
  have bf:Hid ((⟨(first:Int)+L.length,R.proc,B,⟨R.op.code,R.op.a,R.op.b⟩,R.resp⟩:Rec)=Zgj first L R d):=ZZ (by
   unfold Zgj
   rw[aE])
  have bk:Hid (I64 B):=ZZ (by rw[<-aE];exact ZlM _)
  clear aE aF a5;obtain⟨Z,ar⟩:∃ Z,Z=W5.setCell ⟨f.heap.size,L.length*7+2,none⟩ (.int .i64 B):=⟨_,rfl⟩;rw[<-ar];have bd:L.length<((L++List.replicate (g-L.length) Zaj).set L.length ⟨(first:Int)+L.length,R.proc,R.seq,⟨R.op.code,R.op.a,R.op.b⟩,R.resp⟩).length:=by rw[length_set];exact I.o
  have aj:=ac.o.set bd 2 (by decide) (.int .i64 B) ⟨(first:Int)+L.length,R.proc,B,⟨R.op.code,R.op.a,R.op.b⟩,R.resp⟩ (by rw[Zdq I.o];rfl)
  rw[<-ar,List.set_set] at aj
  have aw:Hid (But f.heap.size f.heap.size W5 Z):=ZZ (by
   rw[ar]
   exact(But.refl _ _ _).set _ _ (.inl rfl) _)
  have bb:=ZZ (a7.o.row ac.o aw.o);have aC:=ZZ (aI.o.row ac.o aw.o);have aJ:=ZZ (ZcQ aO.o aw.o aO.o.size z.o z.o);have az:=aj.at (k:=L.length) (by rw[length_set];exact I.o)
  rw[Zdq I.o] at az;have j1:=az.2.1;have j2:=az.2.2.1
  dsimp only at j1 j2
  rw[bf.o,ZBe L g aK] at aj;have aN:=ZZ aj;clear ar aj bd az ac a7 aI aO aw k1 k2 f2 a8;have a0:ZiS Z.drew (f.heap.size+1) L.length (Zav L):=aC.o.keep rfl;obtain⟨W7,bJ,aU,am⟩:=a0.put aB.o.1 bk.o (by omega)
  have bi:ZBu (Zav L) R.proc B=Zav (L++[Zgj first L R d]):=by
   rw[<-bf.o];exact ZlA L ⟨(first:Int)+L.length,R.proc,B,⟨R.op.code,R.op.a,R.op.b⟩,R.resp⟩
  rw[bi] at aU;have aD:(L++[Zgj first L R d]).length=L.length+1:=by simp
  have bm:Hid (DIB w W7 b first g f.heap.size (f.heap.size+1) (L++[Zgj first L R d]) (.slice a3 m'.length n3) m' t'):=ZZ (by
   have bF:some f.heap.size≠some (f.heap.size+1):=by simp
   have bu:∀ c,c<Z.heap.size->c≠f.heap.size+1->W7.heap[c]?=Z.heap[c]?:=fun c hc hn=>am.block c hc (fun e=>hn (by simpa using e))
   refine⟨(bu _ aN.o.lt (by omega)).trans aN.o,by rw[aD];exact aU,?_,be.o,aW.o,(aJ.o.drew).grown am aJ.o.size (fun j hj=>by cases hj;have:=z.o;omega)⟩
   obtain⟨va,vc,h1,h2,h3,hn,h4⟩:=bb.o;refine⟨va,vc,h1,h2,h3,hn,?_⟩;rcases h4 with h4 | ⟨c,bx,h5,h6⟩
   ·exact .inl h4
   ·refine .inr ⟨c,bx,h5,fun j hj=>?_⟩
    have hc:=h6 j hj
    exact am.cell hc (fun e=>by
     have e':c=f.heap.size+1:=by simpa using e
     obtain⟨D,⟨es,bH,E,_⟩,_⟩:=aC.o;rw[e'] at hc
     simp[World.cell?,E] at hc))
  clear a0 aU am bi aC aN bb aJ aW aB be
  go_region
  all_goals
   go_wp2;go_roundw
   case rel=>exact⟨t',L++[Zgj first L R d],m',rfl,by rw[aD];go_num,by rw[aD];omega,bm⟩
   case measure=>simp[intOf];omega
end Go.Proofs.YtnahjngbneicaaaGreatDoor
