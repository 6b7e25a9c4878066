import Derived.Test.YtnahjngbneicaaaGreatDoorBlockTakeC
namespace Go.Proofs.YtnahjngbneicaaaGreatDoor
open _root_.Go.Proofs.Tryz
open List (length_set)
set_option maxRecDepth 100000
open Go.RowKit
variable {w w':World}
structure DIB (w wr:World) (b:List UInt8) (first count g B:Nat) (L:List Rec) (vl:Value) (m:List UInt8) (t:Bool):Prop where
 row:ZiT wr g (L++List.replicate (count-L.length) Qi)
 map:ZfC wr B L.length (Qy L)
 rd:Rd wr vl m
 le:m.length<=b.length
 read:Zpf b first count L m t
 below:Below w.heap.size w wr
theorem Zlu (L:List Rec):∀ u ∈ Qq L,∃ n,u=Value.int .i64 n:=by
 induction L with
 | nil=>intro u a;simp[Qq] at a
 | cons r t b=>
  intro u a;rw[Qq] at a;rcases List.mem_append.1 a with h | h
  ·simp[Zi] at h
   rcases h with rfl | rfl | rfl | rfl | rfl | rfl | rfl <;> exact⟨_,rfl⟩
  ·exact b u h
theorem Rd.row {v:Value} {m:List UInt8} (h:Rd w v m) {g:Nat} {L:List Rec} (A:ZiT w g L) (p:But g g w w'):Rd w' v m:=by
 obtain⟨z,u,x,l,y,d,i⟩:=h;refine⟨z,u,x,l,y,d,?_⟩;rcases i with i | ⟨c,f,t,B⟩
 ·exact .inl i
 ·refine .inr ⟨c,f,t,fun j q=>?_⟩
  have b:=B j q;by_cases e:c=g
  ·rw[e,(A.cell _).1] at b
   obtain⟨n,d⟩:=Zlu L _ (List.mem_of_getElem? b)
   cases d
  ·have k:c<w.heap.size:=World.block_lt_of_cell? w ⟨c,f+j,none⟩ b
   rw[World.cell?_of_block (a:=⟨c,f+j,none⟩) (p.block c k e e)];exact b
theorem ZfC.row {b n:Nat} {f:Int->Int} (h:ZfC w b n f) {g:Nat} {L:List Rec} (d:ZiT w g L) (c:But g g w w'):ZfC w' b n f:=by
 have a:b≠g:=fun e=>h.apart d e.symm
 exact h.keep (c.block b h.lt a a)
theorem ZxO (L:List Rec) (a:Nat) (b:L.length<a) (r:Rec):(L++List.replicate (a-L.length) Qi).set L.length r=(L++[r])++List.replicate (a-(L++[r]).length) Qi:=by
 have e:a-L.length=(a-(L++[r]).length)+1:=by simp;omega
 rw[e,List.replicate_succ,List.set_append_right _ _ zL,Nat.sub_self];simp
set_option maxHeartbeats 4000000 in
theorem Zgu (vb:Value) (b:List UInt8) (w:World) (hr:Rd w vb b) (bG:b.length<=1000000):
 Calls prog 120 #[vb] w fun e w'=>ZaJ w b e w':=by
 have HR:=ZZ hr
 obtain⟨va,vc,rfl⟩:∃ va vc,vb=.slice va b.length vc:=by
  obtain⟨va,vc,rfl,_⟩:=hr;exact⟨va,vc,rfl⟩
 clear hr;have aX:=ZZ (fun q n E=>ZoT (l:=q) (b:=b) n E)
 obtain⟨i,P⟩:∃ i,i=behind (Qb b).2 b:=⟨_,rfl⟩;obtain⟨z,ac⟩:∃ z,z=behind (Qb i).2 i:=⟨_,rfl⟩
 have au:Hid (∀ W v,Rd W v b->Calls prog 167 #[v,.func (.func 168) #[] #[]] W fun e w'=>∃ v',e=.returned (.tuple #[.int .i64 ((Qb b).1:Nat),v',.bool (decide ((Qb b).2≠0))])∧Rd w' v' i∧Below W.heap.size W w'):=ZZ (fun W v h=>by
  have:=ZdR ((Qb b).1:Nat) (Qb b).2 v b W h (Z3 b) (ZcI v b W h);rw[<-P] at this
  exact this)
 have al:Hid (∀ W v,Rd W v i->Calls prog 167 #[v,.func (.func 168) #[] #[]] W fun e w'=>∃ v',e=.returned (.tuple #[.int .i64 ((Qb i).1:Nat),v',.bool (decide ((Qb i).2≠0))])∧Rd w' v' z∧Below W.heap.size W w'):=ZZ (fun W v h=>by
  have:=ZdR ((Qb i).1:Nat) (Qb i).2 v i W h (Z3 i) (ZcI v i W h);rw[<-ac] at this
  exact this)
 have l1:=Zn (Qb b).2 b;have l2:=Zn (Qb i).2 i;rw[<-P] at l1;rw[<-ac] at l2
 have c1:(Qb b).1<4611686018427387904:=by
  rcases Q4 b with h | h
  ·rw[h];decide
  ·exact h.1
 have HW:Hid (∀ q,Yc q->Y2 q=b->(Qb i).2≠0∧q.length=(Qb i).1∧z=Xw [] q∧(q.headD Qi).idx=((Qb b).1:Nat)):=ZZ (fun q n E=>by
  obtain⟨g1,g2,g3,g4,g5⟩:=aX.o q n E;rw[Ye g2] at P;rw[<-P] at g3 g4 g5;rw[Ye g4] at ac;refine⟨g4,g3.symm,?_,g1.symm⟩;rw[<-List.drop_drop,<-P,<-ac] at g5
  exact g5)
 have HS:Hid ((Qb i).2≠0->b=Lib.uvarint (Qb b).1++(Lib.uvarint (Qb i).1++z)):=ZZ (fun h=>by
  have h1:(Qb b).2≠0:=Zcn (l:=b) (by rw[<-P];exact Zsi h)
  have Q:=Ziv h1;have I:=Ziv h;rw[<-P] at Q;rw[<-ac] at I
  exact Q.trans (congrArg (Lib.uvarint (Qb b).1++·) I))
 have bx:Hid (∀ W v l,RdR W v l->Calls prog 48 #[v] W fun e w'=>e=.returned (.bool (decide (Yc l)))∧Below W.heap.size W w'):=ZZ (fun W v l h=>ZbB v l W h)
 clear P ac aX;generalize decide ((Qb b).2≠0)=T0 at *;generalize (Qb b).1=first at *;generalize (Qb i).1=g at *;obtain⟨T1,X⟩:∃ T1,T1=decide ((Qb i).2≠0):=⟨_,rfl⟩;rw[<-X] at al;by_cases ag:(Qb i).2=0∨256<g
 ·have B:Hid (∀ q,Yc q->Y2 q≠b):=ZZ (fun q n E=>by
   obtain⟨g1,g2,_⟩:=HW.o q n E;have:=n.2.1
   omega)
  by_cases M:(Qb i).2=0
  ·have n:T1=false:=by rw[X];exact decide_eq_false (fun h=>h M)
   subst n;clear ag HW HS M X
   go_enter func120,ntmps120
   go_wp2_with fail
   refine(au.o _ _ HR.o).mono ?_;rintro e W1 ⟨v1,rfl,y,O⟩;obtain⟨a1,n1,Q,-⟩:=id y;subst Q;have Z:=ZZ y;have G:=ZZ O;clear y O
   go_wp2_with fail
   refine(al.o _ _ Z.o).mono ?_;rintro e f ⟨v2,rfl,H,K⟩;obtain⟨a2,n2,I,-⟩:=id H;subst I;have N:=ZZ (G.o.trans (K.mono G.o.size));clear H K;go_wp2;go_ret2;exact ZaJ.none B.o N.o
  ·have n:T1=true:=by rw[X];exact decide_eq_true M
   subst n;have bB:256<(g:Int):=by omega
   clear ag HW HS M X
   go_enter func120,ntmps120
   go_wp2_with fail
   refine(au.o _ _ HR.o).mono ?_;rintro e W1 ⟨v1,rfl,y,O⟩;obtain⟨a1,n1,Q,-⟩:=id y;subst Q;have Z:=ZZ y;have G:=ZZ O;clear y O
   go_wp2_with fail
   refine(al.o _ _ Z.o).mono ?_;rintro e f ⟨v2,rfl,H,K⟩;obtain⟨a2,n2,I,-⟩:=id H;subst I;have N:=ZZ (G.o.trans (K.mono G.o.size));clear H K;go_wp2;go_ret2;exact ZaJ.none B.o N.o
 have M:(Qb i).2≠0:=fun h=>ag (.inl h)
 have br:g<=256:=Nat.le_of_not_lt (fun h=>ag (.inr h))
 have n:T1=true:=by rw[X];exact decide_eq_true M
 subst n
 have a4:Hid (Zpf b first g [] z true):=ZZ ⟨trivial,(fun r h=>by simp at h),(fun _ _=>HS.o M),(fun h=>by cases h),fun q n E=>by
  obtain⟨g1,g2,g3,g4⟩:=HW.o q n E
  exact⟨g2,by simp,by simpa using g3,rfl,g4⟩⟩
 have bK:¬ 256<(g:Int):=by omega
 have a6:=Zlt;have bn:∀ W:World,(Instr.makeSlice 29 (.int .i64 (g:Int)) (.int .i64 (g:Int))).run prog W=.ok (.slice (some ⟨W.heap.size,0,none⟩) g g) (W.alloc (.cells (Qq (List.replicate g Qi)).toArray 62)):=fun W=>a6 W g (by omega)
 have bI:=@run_makeMap prog;have bq:z.length<=b.length:=by omega
 clear ag HW HS M X a6 l1 l2;obtain⟨ZR,aE⟩:∃ ZR,ZR=(Qq (List.replicate g Qi)).toArray:=⟨_,rfl⟩;rw[<-aE] at bn;have bA:=ZZ aE;clear aE
 go_enter func120,ntmps120
 go_wp2_with fail
 refine(au.o _ _ HR.o).mono ?_;rintro e W1 ⟨v1,rfl,y,O⟩;obtain⟨a1,n1,Q,-⟩:=id y;subst Q;have Z:=ZZ y;have G:=ZZ O;clear y O
 go_wp2_with fail
 refine(al.o _ _ Z.o).mono ?_;rintro e f ⟨v2,rfl,H,K⟩;obtain⟨a2,n2,I,-⟩:=id H;subst I;have a0:=ZZ H;have N:=ZZ (G.o.trans (K.mono G.o.size));clear H K Z G au al
 have aW:Hid (DIB w ((f.alloc (.cells ZR 62)).alloc (.map #[] 0)) b first g f.heap.size (f.heap.size+1) [] (.slice a2 z.length n2) z true):=ZZ (by
  have u:Below f.heap.size f ((f.alloc (.cells ZR 62)).alloc (.map #[] 0)):=((Below.refl _ _).alloc zL _).alloc (by simp) _
  have hs:(f.alloc (.cells ZR 62)).heap.size=f.heap.size+1:=by simp
  refine⟨?_,?_,a0.o.below u zL,bq,a4.o,N.o.trans (u.mono N.o.size)⟩
  ·rw[List.nil_append,List.length_nil,Nat.sub_zero]
   unfold ZiT;rw[<-bA.o];exact(Below.heap_alloc _ _ _ (by simp)).trans (heap_alloc_new f _)
  ·have h:=ZfC.made (f.alloc (.cells ZR 62))
   rw[hs] at h
   exact h)
 have B:=ZZ N.o.size;clear a0 N a4;go_wp2
 go_loopw[5,8,35] (fun vl vt vi wr=>∃ (t:Bool) (L:List Rec) (m:List UInt8),vt=.bool t∧vi=.int .i64 (L.length:Int)∧L.length<=g∧Hid (DIB w wr b first g f.heap.size (f.heap.size+1) L vl m t)) (fun _ _ vi _=>g-(intOf vi).toNat)
 case atStart=>exact⟨true,[],z,rfl,rfl,Nat.zero_le _,aW⟩
 case round=>
  clear aW;obtain⟨t,L,m,rfl,rfl,hk,p⟩:=hrel;by_cases aF:L.length<g
  case neg=>
   obtain rfl:g=L.length:=by omega
   have bJ:¬ (L.length:Int)<(L.length:Int):=by omega
   have aL:=p.out.row;rw[Nat.sub_self,List.replicate_zero,List.append_nil] at aL;have bb:=ZZ (aL.rd p.out.read.ok (by unfold maxLen;omega))
   have az:=ZZ (bx.o wr _ L bb.o);have aj:=ZZ p.out.read.done.1;have U:=ZZ p.out.read.done.2;have ab:=ZZ p.out.below
   obtain⟨F,C,aC⟩:∃ F C,u5=.slice F m.length C:=by
    obtain⟨F,C,h,-⟩:=p.out.rd;exact⟨F,C,h⟩
   subst aC;clear aL p
   cases t with
   | false=>
    have ak:=ZZ (U.o (fun h=>by cases h.1))
    clear aj U;go_wp2;go_ret2;exact ZaJ.none ak.o ab.o
   | true=>
    by_cases hm:m=[]
    case neg=>
     have ak:=ZZ (U.o (fun h=>hm h.2.1))
     have bm:0<m.length:=Nat.pos_of_ne_zero (fun e=>hm (List.eq_nil_of_length_eq_zero e))
     clear aj U hm;generalize m.length=ln at *;have bH:decide (0<ln)=true:=decide_eq_true bm;go_wp2;go_ret2;exact ZaJ.none ak.o ab.o
    subst hm;by_cases n:Yc L
    ·have HE:=ZZ (aj.o ⟨rfl,rfl,n⟩)
     rw[decide_eq_true n] at az;have bv:=ZZ n;clear aj U n
     go_wp2_with fail
     refine az.o.mono ?_;rintro e W3 ⟨rfl,u⟩;have V:=ZZ (ab.o.trans (u.mono ab.o.size));have aq:=ZZ (bb.o.below u zL);clear u;go_wp2;go_ret2;exact⟨_,L,0,rfl,aq.o,.inl ⟨rfl,bv.o,HE.o⟩,V.o⟩
    ·have ak:=ZZ (U.o (fun h=>n h.2.2))
     rw[decide_eq_false n] at az;clear aj U n
     go_wp2_with fail
     refine az.o.mono ?_;rintro e W3 ⟨rfl,u⟩;have V:=ZZ (ab.o.trans (u.mono ab.o.size));clear u;go_wp2;go_ret2;exact ZaJ.none ak.o V.o
  have bC:(L.length:Int)<(g:Int):=by omega
  obtain⟨R,d,m',t',hT⟩:∃ R d m' t',Z5 m=(R,d,m',t'):=⟨_,_,_,_,rfl⟩;have ai:=ZZ (Zjo _ m wr p.out.rd (by have:=p.out.le;omega))
  have ba:=ZZ (p.out.read.step c1 aF br hT);have aD:=ZxN m;have aB:=ZuE m;rw[hT] at ai aD aB;have aI:=ZZ aB;have a9:Hid (m'.length<=b.length):=ZZ (Nat.le_trans aD p.out.le)
  obtain⟨F,C,aC⟩:∃ F C,u5=.slice F m.length C:=by
   obtain⟨F,C,h,-⟩:=p.out.rd;exact⟨F,C,h⟩
  subst aC;clear hT aD aB;unfold Zrr at ai
  dsimp only at ai
  have a8:(L++List.replicate (g-L.length) Qi).length=g:=by simp;omega
  have aY:=ZZ a8;clear a8
  go_wp2_with fail
  refine ai.o.mono ?_;rintro e W3 ⟨v3,rfl,aU,u⟩;obtain⟨a3,n3,e3,-⟩:=id aU;subst e3;have ae:=ZZ (p.out.row.below u zL);have be:=ZZ (p.out.map.below u zL);have aq:=ZZ aU;have V:=ZZ (p.out.below.trans (u.mono p.out.below.size));clear aU u ai p
  have J:∀ j,j<7->∃ x,W3.cell? ⟨f.heap.size,L.length*7+j,none⟩=some x∧W3.frozen? ⟨f.heap.size,L.length*7+j,none⟩=false:=fun j hj=>by
   have h:=ae.o.cell (L.length*7+j);obtain⟨x,hx⟩:∃ x,(Qq (L++List.replicate (g-L.length) Qi))[L.length*7+j]?=some x:=⟨_,List.getElem?_eq_getElem (by rw[Yx,aY.o];omega)⟩
   exact⟨x,h.1.trans hx,h.2⟩
  obtain⟨x0,k0,f0⟩:=J 0 (by decide)
  obtain⟨x1,k1,f1⟩:=J 1 (by decide)
  obtain⟨x2,k2,f2⟩:=J 2 (by decide)
  obtain⟨x3,k3,f3⟩:=J 3 (by decide)
  obtain⟨x4,k4,f4⟩:=J 4 (by decide)
  obtain⟨x5,k5,f5⟩:=J 5 (by decide)
  obtain⟨x6,k6,f6⟩:=J 6 (by decide)
  rw[Nat.add_zero] at k0 f0;clear J
  go_upto_region 12 with fail
  obtain⟨T,am⟩:∃ T,T=((((((W3.setCell ⟨f.heap.size,L.length*7,none⟩ (.int .i64 R.idx)).setCell ⟨f.heap.size,L.length*7+1,none⟩ (.int .i64 R.proc)).setCell ⟨f.heap.size,L.length*7+2,none⟩ (.int .i64 R.seq)).setCell ⟨f.heap.size,L.length*7+3,none⟩ (.int .i64 R.op.code)).setCell ⟨f.heap.size,L.length*7+4,none⟩ (.int .i64 R.op.a)).setCell ⟨f.heap.size,L.length*7+5,none⟩ (.int .i64 R.op.b)).setCell ⟨f.heap.size,L.length*7+6,none⟩ (.int .i64 R.resp):=⟨_,rfl⟩;rw[<-am];have aA:L.length<(L++List.replicate (g-L.length) Qi).length:=by rw[aY.o];exact aF
  have S:=ZZ aA;have aQ:=ae.o.seven aA R.idx R.proc R.seq R.op.code R.op.a R.op.b R.resp;rw[<-am] at aQ
  have aw:Hid (But f.heap.size f.heap.size W3 T):=ZZ (by
   rw[am]
   exact(((((((But.refl _ _ _).set _ _ (.inl rfl) _).set _ _ (.inl rfl) _).set _ _ (.inl rfl) _).set _ _ (.inl rfl) _).set _ _ (.inl rfl) _).set _ _ (.inl rfl) _).set _ _ (.inl rfl) _)
  have bl:=ZZ (aq.o.row ae.o aw.o);have bf:=ZZ (be.o.row ae.o aw.o);have aJ:=ZZ (Zaf V.o aw.o V.o.size B.o B.o);have aa:=ZZ aQ;obtain⟨⟨bD,bu⟩,bp⟩:(∃ x,T.cell? ⟨f.heap.size,L.length*7,none⟩=some x)∧T.frozen? ⟨f.heap.size,L.length*7,none⟩=false:=⟨⟨_,(aa.o.at (k:=L.length) (by rw[length_set];exact aA)).1⟩,(aa.o.cell _).2⟩
  clear am aQ aA ae aq be V aw k0 k1 k2 k3 k4 k5 k6 f0 f1 f2 f3 f4 f5 f6
  go_upto_region 13 with fail
  obtain⟨W5,ap⟩:∃ W5,W5=T.setCell ⟨f.heap.size,L.length*7,none⟩ (.int .i64 ((first:Int)+(L.length:Int))):=⟨_,rfl⟩;rw[<-ap];have a7:L.length<((L++List.replicate (g-L.length) Qi).set L.length ⟨R.idx,R.proc,R.seq,⟨R.op.code,R.op.a,R.op.b⟩,R.resp⟩).length:=by rw[length_set];exact S.o
  have aR:=aa.o.set a7 0 (by decide) (.int .i64 ((first:Int)+(L.length:Int))) ⟨(first:Int)+L.length,R.proc,R.seq,⟨R.op.code,R.op.a,R.op.b⟩,R.resp⟩ (by rw[Zav S.o];rfl)
  rw[Nat.add_zero,<-ap,List.set_set] at aR
  have av:Hid (But f.heap.size f.heap.size T W5):=ZZ (by
   rw[ap]
   exact(But.refl _ _ _).set _ _ (.inl rfl) _)
  have bc:=ZZ (bl.o.row aa.o av.o);have aG:=ZZ (bf.o.row aa.o av.o);have aO:=ZZ (Zaf aJ.o av.o aJ.o.size B.o B.o);have ad:=ZZ aR;have ax:=ad.o.at (k:=L.length) (by rw[length_set];exact S.o)
  rw[Zav S.o] at ax;have k1:=ax.2.1;have k2:=ax.2.2.1;have f2:=(ad.o.cell (L.length*7+2)).2;have bg:=aG.o.look aI.o.1
  dsimp only at k1 k2
  clear ap aR a7 ax aa bl bf aJ av bu bp;obtain⟨ls,aS⟩:∃ ls,ls=Qy L R.proc:=⟨_,rfl⟩;rw[<-aS] at bg;have bd:=ZZ aS;clear aS
  go_upto_region 14 with fail
  obtain⟨A,aK⟩:∃ A,A=wrap64 (ls+d):=⟨_,rfl⟩;rw[<-aK]
  have aV:IntKind.i64.wrap (Qy L R.proc+d)=A:=by
   rw[aK,<-bd.o];unfold wrap64;exact IntKind.wrap_i64 _
  have bj:Hid ((⟨(first:Int)+L.length,R.proc,A,⟨R.op.code,R.op.a,R.op.b⟩,R.resp⟩:Rec)=ZcT first L R d):=ZZ (by
   unfold ZcT
   rw[aV])
  have bz:Hid (I64 A):=ZZ (by rw[<-aV];exact Ziw _)
  clear aV aK bd;obtain⟨Y,ar⟩:∃ Y,Y=W5.setCell ⟨f.heap.size,L.length*7+2,none⟩ (.int .i64 A):=⟨_,rfl⟩;rw[<-ar];have aZ:L.length<((L++List.replicate (g-L.length) Qi).set L.length ⟨(first:Int)+L.length,R.proc,R.seq,⟨R.op.code,R.op.a,R.op.b⟩,R.resp⟩).length:=by rw[length_set];exact S.o
  have af:=ad.o.set aZ 2 (by decide) (.int .i64 A) ⟨(first:Int)+L.length,R.proc,A,⟨R.op.code,R.op.a,R.op.b⟩,R.resp⟩ (by rw[Zav S.o];rfl)
  rw[<-ar,List.set_set] at af
  have ao:Hid (But f.heap.size f.heap.size W5 Y):=ZZ (by
   rw[ar]
   exact(But.refl _ _ _).set _ _ (.inl rfl) _)
  have bk:=ZZ (bc.o.row ad.o ao.o);have aP:=ZZ (aG.o.row ad.o ao.o);have aN:=ZZ (Zaf aO.o ao.o aO.o.size B.o B.o);have ay:=af.at (k:=L.length) (by rw[length_set];exact S.o)
  rw[Zav S.o] at ay;have j1:=ay.2.1;have j2:=ay.2.2.1
  dsimp only at j1 j2
  rw[bj.o,ZxO L g aF] at af;have aM:=ZZ af;clear ar af aZ ay ad bc aG aO ao k1 k2 f2 bg;have bi:ZfC Y.drew (f.heap.size+1) L.length (Qy L):=aP.o.keep rfl;obtain⟨W7,bL,aH,an⟩:=bi.put aI.o.1 bz.o (by omega)
  have a5:Zye (Qy L) R.proc A=Qy (L++[ZcT first L R d]):=by
   rw[<-bj.o];exact Zik L ⟨(first:Int)+L.length,R.proc,A,⟨R.op.code,R.op.a,R.op.b⟩,R.resp⟩
  rw[a5] at aH;have aT:(L++[ZcT first L R d]).length=L.length+1:=by simp
  have bt:Hid (DIB w W7 b first g f.heap.size (f.heap.size+1) (L++[ZcT first L R d]) (.slice a3 m'.length n3) m' t'):=ZZ (by
   have bF:some f.heap.size≠some (f.heap.size+1):=by simp
   have bo:∀ c,c<Y.heap.size->c≠f.heap.size+1->W7.heap[c]?=Y.heap[c]?:=fun c hc hn=>an.block c hc (fun e=>hn (by simpa using e))
   refine⟨(bo _ aM.o.lt (by omega)).trans aM.o,by rw[aT];exact aH,?_,a9.o,ba.o,(aN.o.drew).grown an aN.o.size (fun j hj=>by cases hj;have:=B.o;omega)⟩
   obtain⟨va,vc,h1,h2,h3,hn,h4⟩:=bk.o;refine⟨va,vc,h1,h2,h3,hn,?_⟩;rcases h4 with h4 | ⟨c,bw,h5,h6⟩
   ·exact .inl h4
   ·refine .inr ⟨c,bw,h5,fun j hj=>?_⟩
    have hc:=h6 j hj
    exact an.cell hc (fun e=>by
     have e':c=f.heap.size+1:=by simpa using e
     obtain⟨D,⟨es,bE,E,_⟩,_⟩:=aP.o;rw[e'] at hc
     simp[World.cell?,E] at hc))
  clear bi aH an a5 aP aM bk aN ba aI a9
  go_region
  all_goals
   go_wp2;go_roundw
   case rel=>exact⟨t',L++[ZcT first L R d],m',rfl,by rw[aT];go_num,by rw[aT];omega,bt⟩
   case measure=>simp[intOf];omega
end Go.Proofs.YtnahjngbneicaaaGreatDoor
