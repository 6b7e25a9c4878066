import Derived.Test.YtnahjngbneicaaaGreatDoorBlockTakeC
namespace Go.Proofs.YtnahjngbneicaaaGreatDoor
open _root_.Go.Proofs.Tryz
open List (length_set)
set_option maxRecDepth 100000
open Go.RowKit
variable {w w':World}
structure DIB (w wr:World) (b:List UInt8) (first count g B:Nat) (L:List Rec) (vl:Value) (m:List UInt8) (t:Bool):Prop where
 row:ZiT wr g (L++List.replicate (count-L.length) Qi)
 map:ZfC wr B L.length (Qy L)
 rd:Rd wr vl m
 le:m.length<=b.length
 read:Zpf b first count L m t
 below:Below w.heap.size w wr
theorem Zlu (L:List Rec):∀ u ∈ Qq L,∃ n,u=Value.int .i64 n:=by
 induction L with
 | nil=>intro u a;simp[Qq] at a
 | cons r t b=>
  intro u a;rw[Qq] at a;rcases List.mem_append.1 a with h | h
  ·simp[Zi] at h
   rcases h with rfl | rfl | rfl | rfl | rfl | rfl | rfl <;> exact⟨_,rfl⟩
  ·exact b u h
theorem Rd.row {v:Value} {m:List UInt8} (h:Rd w v m) {g:Nat} {L:List Rec} (B:ZiT w g L) (y:But g g w w'):Rd w' v m:=by
 obtain⟨l,q,z,t,k,i,f⟩:=h;refine⟨l,q,z,t,k,i,?_⟩;rcases f with f | ⟨c,d,A,u⟩
 ·exact .inl f
 ·refine .inr ⟨c,d,A,fun j x=>?_⟩
  have b:=u j x;by_cases e:c=g
  ·rw[e,(B.cell _).1] at b
   obtain⟨n,i⟩:=Zlu L _ (List.mem_of_getElem? b)
   cases i
  ·have p:c<w.heap.size:=World.block_lt_of_cell? w ⟨c,d+j,none⟩ b
   rw[World.cell?_of_block (a:=⟨c,d+j,none⟩) (y.block c p e e)];exact b
theorem ZfC.row {b n:Nat} {f:Int->Int} (h:ZfC w b n f) {g:Nat} {L:List Rec} (d:ZiT w g L) (c:But g g w w'):ZfC w' b n f:=by
 have a:b≠g:=fun e=>h.apart d e.symm
 exact h.keep (c.block b h.lt a a)
theorem ZxO (L:List Rec) (a:Nat) (b:L.length<a) (r:Rec):(L++List.replicate (a-L.length) Qi).set L.length r=(L++[r])++List.replicate (a-(L++[r]).length) Qi:=by
 have e:a-L.length=(a-(L++[r]).length)+1:=by simp;omega
 rw[e,List.replicate_succ,List.set_append_right _ _ zL,Nat.sub_self];simp
set_option maxHeartbeats 4000000 in
theorem Zgu (vb:Value) (b:List UInt8) (w:World) (hr:Rd w vb b) (bL:b.length<=1000000):
 Calls prog 120 #[vb] w fun e w'=>ZaJ w b e w':=by
 have HR:=ZZ hr
 obtain⟨va,Z,rfl⟩:∃ va Z,vb=.slice va b.length Z:=by
  obtain⟨va,Z,rfl,_⟩:=hr;exact⟨va,Z,rfl⟩
 clear hr;have bb:=ZZ (fun q n F=>ZoT (l:=q) (b:=b) n F)
 obtain⟨i,I⟩:∃ i,i=behind (Qb b).2 b:=⟨_,rfl⟩;obtain⟨z,ab⟩:∃ z,z=behind (Qb i).2 i:=⟨_,rfl⟩
 have av:Hid (∀ W v,Rd W v b->Calls prog 167 #[v,.func (.func 168) #[] #[]] W fun e w'=>∃ v',e=.returned (.tuple #[.int .i64 ((Qb b).1:Nat),v',.bool (decide ((Qb b).2≠0))])∧Rd w' v' i∧Below W.heap.size W w'):=ZZ (fun W v h=>by
  have:=ZdR ((Qb b).1:Nat) (Qb b).2 v b W h (Z3 b) (ZcI v b W h);rw[<-I] at this
  exact this)
 have ak:Hid (∀ W v,Rd W v i->Calls prog 167 #[v,.func (.func 168) #[] #[]] W fun e w'=>∃ v',e=.returned (.tuple #[.int .i64 ((Qb i).1:Nat),v',.bool (decide ((Qb i).2≠0))])∧Rd w' v' z∧Below W.heap.size W w'):=ZZ (fun W v h=>by
  have:=ZdR ((Qb i).1:Nat) (Qb i).2 v i W h (Z3 i) (ZcI v i W h);rw[<-ab] at this
  exact this)
 have l1:=Zn (Qb b).2 b;have l2:=Zn (Qb i).2 i;rw[<-I] at l1;rw[<-ab] at l2
 have c1:(Qb b).1<4611686018427387904:=by
  rcases Q4 b with h | h
  ·rw[h];decide
  ·exact h.1
 have HW:Hid (∀ q,Yc q->Y2 q=b->(Qb i).2≠0∧q.length=(Qb i).1∧z=Xw [] q∧(q.headD Qi).idx=((Qb b).1:Nat)):=ZZ (fun q n F=>by
  obtain⟨g1,g2,g3,g4,g5⟩:=bb.o q n F;rw[Ye g2] at I;rw[<-I] at g3 g4 g5;rw[Ye g4] at ab;refine⟨g4,g3.symm,?_,g1.symm⟩;rw[<-List.drop_drop,<-I,<-ab] at g5
  exact g5)
 have HS:Hid ((Qb i).2≠0->b=Lib.uvarint (Qb b).1++(Lib.uvarint (Qb i).1++z)):=ZZ (fun h=>by
  have h1:(Qb b).2≠0:=Zcn (l:=b) (by rw[<-I];exact Zsi h)
  have P:=Ziv h1;have K:=Ziv h;rw[<-I] at P;rw[<-ab] at K
  exact P.trans (congrArg (Lib.uvarint (Qb b).1++·) K))
 have br:Hid (∀ W v l,RdR W v l->Calls prog 48 #[v] W fun e w'=>e=.returned (.bool (decide (Yc l)))∧Below W.heap.size W w'):=ZZ (fun W v l h=>ZbB v l W h)
 clear I ab bb;generalize decide ((Qb b).2≠0)=T0 at *;generalize (Qb b).1=first at *;generalize (Qb i).1=g at *;obtain⟨T1,T⟩:∃ T1,T1=decide ((Qb i).2≠0):=⟨_,rfl⟩;rw[<-T] at ak;by_cases ae:(Qb i).2=0∨256<g
 ·have A:Hid (∀ q,Yc q->Y2 q≠b):=ZZ (fun q n F=>by
   obtain⟨g1,g2,_⟩:=HW.o q n F;have:=n.2.1
   omega)
  by_cases Q:(Qb i).2=0
  ·have n:T1=false:=by rw[T];exact decide_eq_false (fun h=>h Q)
   subst n;clear ae HW HS Q T
   go_enter func120,ntmps120
   go_wp2_with fail
   refine(av.o _ _ HR.o).mono ?_;rintro e W1 ⟨v1,rfl,y,S⟩;obtain⟨a1,n1,P,-⟩:=id y;subst P;have ad:=ZZ y;have C:=ZZ S;clear y S
   go_wp2_with fail
   refine(ak.o _ _ ad.o).mono ?_;rintro e f ⟨v2,rfl,G,J⟩;obtain⟨a2,n2,K,-⟩:=id G;subst K;have M:=ZZ (C.o.trans (J.mono C.o.size));clear G J;go_wp2;go_ret2;exact ZaJ.none A.o M.o
  ·have n:T1=true:=by rw[T];exact decide_eq_true Q
   subst n;have bK:256<(g:Int):=by omega
   clear ae HW HS Q T
   go_enter func120,ntmps120
   go_wp2_with fail
   refine(av.o _ _ HR.o).mono ?_;rintro e W1 ⟨v1,rfl,y,S⟩;obtain⟨a1,n1,P,-⟩:=id y;subst P;have ad:=ZZ y;have C:=ZZ S;clear y S
   go_wp2_with fail
   refine(ak.o _ _ ad.o).mono ?_;rintro e f ⟨v2,rfl,G,J⟩;obtain⟨a2,n2,K,-⟩:=id G;subst K;have M:=ZZ (C.o.trans (J.mono C.o.size));clear G J;go_wp2;go_ret2;exact ZaJ.none A.o M.o
 have Q:(Qb i).2≠0:=fun h=>ae (.inl h)
 have bz:g<=256:=Nat.le_of_not_lt (fun h=>ae (.inr h))
 have n:T1=true:=by rw[T];exact decide_eq_true Q
 subst n
 have aW:Hid (Zpf b first g [] z true):=ZZ ⟨trivial,(fun r h=>by simp at h),(fun _ _=>HS.o Q),(fun h=>by cases h),fun q n F=>by
  obtain⟨g1,g2,g3,g4⟩:=HW.o q n F
  exact⟨g2,by simp,by simpa using g3,rfl,g4⟩⟩
 have bJ:¬ 256<(g:Int):=by omega
 have bf:=Zlt;have bq:∀ W:World,(Instr.makeSlice 29 (.int .i64 (g:Int)) (.int .i64 (g:Int))).run prog W=.ok (.slice (some ⟨W.heap.size,0,none⟩) g g) (W.alloc (.cells (Qq (List.replicate g Qi)).toArray 62)):=fun W=>bf W g (by omega)
 have bF:=@run_makeMap prog;have bt:z.length<=b.length:=by omega
 clear ae HW HS Q T bf l1 l2;obtain⟨ZR,aK⟩:∃ ZR,ZR=(Qq (List.replicate g Qi)).toArray:=⟨_,rfl⟩;rw[<-aK] at bq;have bv:=ZZ aK;clear aK
 go_enter func120,ntmps120
 go_wp2_with fail
 refine(av.o _ _ HR.o).mono ?_;rintro e W1 ⟨v1,rfl,y,S⟩;obtain⟨a1,n1,P,-⟩:=id y;subst P;have ad:=ZZ y;have C:=ZZ S;clear y S
 go_wp2_with fail
 refine(ak.o _ _ ad.o).mono ?_;rintro e f ⟨v2,rfl,G,J⟩;obtain⟨a2,n2,K,-⟩:=id G;subst K;have a8:=ZZ G;have M:=ZZ (C.o.trans (J.mono C.o.size));clear G J ad C av ak
 have bl:Hid (DIB w ((f.alloc (.cells ZR 62)).alloc (.map #[] 0)) b first g f.heap.size (f.heap.size+1) [] (.slice a2 z.length n2) z true):=ZZ (by
  have u:Below f.heap.size f ((f.alloc (.cells ZR 62)).alloc (.map #[] 0)):=((Below.refl _ _).alloc zL _).alloc (by simp) _
  have hs:(f.alloc (.cells ZR 62)).heap.size=f.heap.size+1:=by simp
  refine⟨?_,?_,a8.o.below u zL,bt,aW.o,M.o.trans (u.mono M.o.size)⟩
  ·rw[List.nil_append,List.length_nil,Nat.sub_zero]
   unfold ZiT;rw[<-bv.o];exact(Below.heap_alloc _ _ _ (by simp)).trans (heap_alloc_new f _)
  ·have h:=ZfC.made (f.alloc (.cells ZR 62))
   rw[hs] at h
   exact h)
 have A:=ZZ M.o.size;clear a8 M aW;go_wp2
 go_loopw[5,8,35] (fun vl vt vi wr=>∃ (t:Bool) (L:List Rec) (m:List UInt8),vt=.bool t∧vi=.int .i64 (L.length:Int)∧L.length<=g∧Hid (DIB w wr b first g f.heap.size (f.heap.size+1) L vl m t)) (fun _ _ vi _=>g-(intOf vi).toNat)
 case atStart=>exact⟨true,[],z,rfl,rfl,Nat.zero_le _,bl⟩
 case round=>
  clear bl;obtain⟨t,L,m,rfl,rfl,hk,p⟩:=hrel;by_cases aE:L.length<g
  case neg=>
   obtain rfl:g=L.length:=by omega
   have bE:¬ (L.length:Int)<(L.length:Int):=by omega
   have aO:=p.out.row;rw[Nat.sub_self,List.replicate_zero,List.append_nil] at aO;have a7:=ZZ (aO.rd p.out.read.ok (by unfold maxLen;omega))
   have au:=ZZ (br.o wr _ L a7.o);have al:=ZZ p.out.read.done.1;have V:=ZZ p.out.read.done.2;have Y:=ZZ p.out.below
   obtain⟨H,E,aD⟩:∃ H E,u5=.slice H m.length E:=by
    obtain⟨H,E,h,-⟩:=p.out.rd;exact⟨H,E,h⟩
   subst aD;clear aO p
   cases t with
   | false=>
    have aj:=ZZ (V.o (fun h=>by cases h.1))
    clear al V;go_wp2;go_ret2;exact ZaJ.none aj.o Y.o
   | true=>
    by_cases hm:m=[]
    case neg=>
     have aj:=ZZ (V.o (fun h=>hm h.2.1))
     have bm:0<m.length:=Nat.pos_of_ne_zero (fun e=>hm (List.eq_nil_of_length_eq_zero e))
     clear al V hm;generalize m.length=ln at *;have bG:decide (0<ln)=true:=decide_eq_true bm;go_wp2;go_ret2;exact ZaJ.none aj.o Y.o
    subst hm;by_cases n:Yc L
    ·have HE:=ZZ (al.o ⟨rfl,rfl,n⟩)
     rw[decide_eq_true n] at au;have bu:=ZZ n;clear al V n
     go_wp2_with fail
     refine au.o.mono ?_;rintro e W3 ⟨rfl,u⟩;have U:=ZZ (Y.o.trans (u.mono Y.o.size));have an:=ZZ (a7.o.below u zL);clear u;go_wp2;go_ret2;exact⟨_,L,0,rfl,an.o,.inl ⟨rfl,bu.o,HE.o⟩,U.o⟩
    ·have aj:=ZZ (V.o (fun h=>n h.2.2))
     rw[decide_eq_false n] at au;clear al V n
     go_wp2_with fail
     refine au.o.mono ?_;rintro e W3 ⟨rfl,u⟩;have U:=ZZ (Y.o.trans (u.mono Y.o.size));clear u;go_wp2;go_ret2;exact ZaJ.none aj.o U.o
  have bI:(L.length:Int)<(g:Int):=by omega
  obtain⟨R,d,m',t',hT⟩:∃ R d m' t',Z5 m=(R,d,m',t'):=⟨_,_,_,_,rfl⟩;have af:=ZZ (Zjo _ m wr p.out.rd (by have:=p.out.le;omega))
  have bd:=ZZ (p.out.read.step c1 aE bz hT);have aP:=ZxN m;have aL:=ZuE m;rw[hT] at af aP aL;have aG:=ZZ aL;have a4:Hid (m'.length<=b.length):=ZZ (Nat.le_trans aP p.out.le)
  obtain⟨H,E,aD⟩:∃ H E,u5=.slice H m.length E:=by
   obtain⟨H,E,h,-⟩:=p.out.rd;exact⟨H,E,h⟩
  subst aD;clear hT aP aL;unfold Zrr at af
  dsimp only at af
  have aZ:(L++List.replicate (g-L.length) Qi).length=g:=by simp;omega
  have ba:=ZZ aZ;clear aZ
  go_wp2_with fail
  refine af.o.mono ?_;rintro e W3 ⟨v3,rfl,aQ,u⟩;obtain⟨a3,n3,e3,-⟩:=id aQ;subst e3;have ag:=ZZ (p.out.row.below u zL);have bc:=ZZ (p.out.map.below u zL);have an:=ZZ aQ;have U:=ZZ (p.out.below.trans (u.mono p.out.below.size));clear aQ u af p
  have N:∀ j,j<7->∃ x,W3.cell? ⟨f.heap.size,L.length*7+j,none⟩=some x∧W3.frozen? ⟨f.heap.size,L.length*7+j,none⟩=false:=fun j hj=>by
   have h:=ag.o.cell (L.length*7+j);obtain⟨x,hx⟩:∃ x,(Qq (L++List.replicate (g-L.length) Qi))[L.length*7+j]?=some x:=⟨_,List.getElem?_eq_getElem (by rw[Yx,ba.o];omega)⟩
   exact⟨x,h.1.trans hx,h.2⟩
  obtain⟨x0,k0,f0⟩:=N 0 (by decide)
  obtain⟨x1,k1,f1⟩:=N 1 (by decide)
  obtain⟨x2,k2,f2⟩:=N 2 (by decide)
  obtain⟨x3,k3,f3⟩:=N 3 (by decide)
  obtain⟨x4,k4,f4⟩:=N 4 (by decide)
  obtain⟨x5,k5,f5⟩:=N 5 (by decide)
  obtain⟨x6,k6,f6⟩:=N 6 (by decide)
  rw[Nat.add_zero] at k0 f0;clear N
  go_upto_region 12 with fail
  obtain⟨X,aw⟩:∃ X,X=((((((W3.setCell ⟨f.heap.size,L.length*7,none⟩ (.int .i64 R.idx)).setCell ⟨f.heap.size,L.length*7+1,none⟩ (.int .i64 R.proc)).setCell ⟨f.heap.size,L.length*7+2,none⟩ (.int .i64 R.seq)).setCell ⟨f.heap.size,L.length*7+3,none⟩ (.int .i64 R.op.code)).setCell ⟨f.heap.size,L.length*7+4,none⟩ (.int .i64 R.op.a)).setCell ⟨f.heap.size,L.length*7+5,none⟩ (.int .i64 R.op.b)).setCell ⟨f.heap.size,L.length*7+6,none⟩ (.int .i64 R.resp):=⟨_,rfl⟩;rw[<-aw];have ar:L.length<(L++List.replicate (g-L.length) Qi).length:=by rw[ba.o];exact aE
  have O:=ZZ ar;have aB:=ag.o.seven ar R.idx R.proc R.seq R.op.code R.op.a R.op.b R.resp;rw[<-aw] at aB
  have aA:Hid (But f.heap.size f.heap.size W3 X):=ZZ (by
   rw[aw]
   exact(((((((But.refl _ _ _).set _ _ (.inl rfl) _).set _ _ (.inl rfl) _).set _ _ (.inl rfl) _).set _ _ (.inl rfl) _).set _ _ (.inl rfl) _).set _ _ (.inl rfl) _).set _ _ (.inl rfl) _)
  have bk:=ZZ (an.o.row ag.o aA.o);have bg:=ZZ (bc.o.row ag.o aA.o);have aI:=ZZ (Zaf U.o aA.o U.o.size A.o A.o);have aa:=ZZ aB;obtain⟨⟨bD,bw⟩,bA⟩:(∃ x,X.cell? ⟨f.heap.size,L.length*7,none⟩=some x)∧X.frozen? ⟨f.heap.size,L.length*7,none⟩=false:=⟨⟨_,(aa.o.at (k:=L.length) (by rw[length_set];exact ar)).1⟩,(aa.o.cell _).2⟩
  clear aw aB ar ag an bc U aA k0 k1 k2 k3 k4 k5 k6 f0 f1 f2 f3 f4 f5 f6
  go_upto_region 13 with fail
  obtain⟨W5,ay⟩:∃ W5,W5=X.setCell ⟨f.heap.size,L.length*7,none⟩ (.int .i64 ((first:Int)+(L.length:Int))):=⟨_,rfl⟩;rw[<-ay];have bi:L.length<((L++List.replicate (g-L.length) Qi).set L.length ⟨R.idx,R.proc,R.seq,⟨R.op.code,R.op.a,R.op.b⟩,R.resp⟩).length:=by rw[length_set];exact O.o
  have aF:=aa.o.set bi 0 (by decide) (.int .i64 ((first:Int)+(L.length:Int))) ⟨(first:Int)+L.length,R.proc,R.seq,⟨R.op.code,R.op.a,R.op.b⟩,R.resp⟩ (by rw[Zav O.o];rfl)
  rw[Nat.add_zero,<-ay,List.set_set] at aF
  have aq:Hid (But f.heap.size f.heap.size X W5):=ZZ (by
   rw[ay]
   exact(But.refl _ _ _).set _ _ (.inl rfl) _)
  have aX:=ZZ (bk.o.row aa.o aq.o);have aC:=ZZ (bg.o.row aa.o aq.o);have aM:=ZZ (Zaf aI.o aq.o aI.o.size A.o A.o);have ac:=ZZ aF;have az:=ac.o.at (k:=L.length) (by rw[length_set];exact O.o)
  rw[Zav O.o] at az;have k1:=az.2.1;have k2:=az.2.2.1;have f2:=(ac.o.cell (L.length*7+2)).2;have bj:=aC.o.look aG.o.1
  dsimp only at k1 k2
  clear ay aF bi az aa bk bg aI aq bw bA;obtain⟨ls,aT⟩:∃ ls,ls=Qy L R.proc:=⟨_,rfl⟩;rw[<-aT] at bj;have a0:=ZZ aT;clear aT
  go_upto_region 14 with fail
  obtain⟨B,aJ⟩:∃ B,B=wrap64 (ls+d):=⟨_,rfl⟩;rw[<-aJ]
  have aS:IntKind.i64.wrap (Qy L R.proc+d)=B:=by
   rw[aJ,<-a0.o];unfold wrap64;exact IntKind.wrap_i64 _
  have a9:Hid ((⟨(first:Int)+L.length,R.proc,B,⟨R.op.code,R.op.a,R.op.b⟩,R.resp⟩:Rec)=ZcT first L R d):=ZZ (by
   unfold ZcT
   rw[aS])
  have bp:Hid (I64 B):=ZZ (by rw[<-aS];exact Ziw _)
  clear aS aJ a0;obtain⟨W6,ao⟩:∃ W6,W6=W5.setCell ⟨f.heap.size,L.length*7+2,none⟩ (.int .i64 B):=⟨_,rfl⟩;rw[<-ao];have a6:L.length<((L++List.replicate (g-L.length) Qi).set L.length ⟨(first:Int)+L.length,R.proc,R.seq,⟨R.op.code,R.op.a,R.op.b⟩,R.resp⟩).length:=by rw[length_set];exact O.o
  have ai:=ac.o.set a6 2 (by decide) (.int .i64 B) ⟨(first:Int)+L.length,R.proc,B,⟨R.op.code,R.op.a,R.op.b⟩,R.resp⟩ (by rw[Zav O.o];rfl)
  rw[<-ao,List.set_set] at ai
  have am:Hid (But f.heap.size f.heap.size W5 W6):=ZZ (by
   rw[ao]
   exact(But.refl _ _ _).set _ _ (.inl rfl) _)
  have aY:=ZZ (aX.o.row ac.o am.o);have aN:=ZZ (aC.o.row ac.o am.o);have aV:=ZZ (Zaf aM.o am.o aM.o.size A.o A.o);have ax:=ai.at (k:=L.length) (by rw[length_set];exact O.o)
  rw[Zav O.o] at ax;have j1:=ax.2.1;have j2:=ax.2.2.1
  dsimp only at j1 j2
  rw[a9.o,ZxO L g aE] at ai;have aU:=ZZ ai;clear ao ai a6 ax ac aX aC aM am k1 k2 f2 bj;have be:ZfC W6.drew (f.heap.size+1) L.length (Qy L):=aN.o.keep rfl;obtain⟨W7,bB,aR,ap⟩:=be.put aG.o.1 bp.o (by omega)
  have a5:Zye (Qy L) R.proc B=Qy (L++[ZcT first L R d]):=by
   rw[<-a9.o];exact Zik L ⟨(first:Int)+L.length,R.proc,B,⟨R.op.code,R.op.a,R.op.b⟩,R.resp⟩
  rw[a5] at aR;have aH:(L++[ZcT first L R d]).length=L.length+1:=by simp
  have bx:Hid (DIB w W7 b first g f.heap.size (f.heap.size+1) (L++[ZcT first L R d]) (.slice a3 m'.length n3) m' t'):=ZZ (by
   have bC:some f.heap.size≠some (f.heap.size+1):=by simp
   have bo:∀ c,c<W6.heap.size->c≠f.heap.size+1->W7.heap[c]?=W6.heap[c]?:=fun c hc hn=>ap.block c hc (fun e=>hn (by simpa using e))
   refine⟨(bo _ aU.o.lt (by omega)).trans aU.o,by rw[aH];exact aR,?_,a4.o,bd.o,(aV.o.drew).grown ap aV.o.size (fun j hj=>by cases hj;have:=A.o;omega)⟩
   obtain⟨va,Z,h1,h2,h3,hn,h4⟩:=aY.o;refine⟨va,Z,h1,h2,h3,hn,?_⟩;rcases h4 with h4 | ⟨c,bn,h5,h6⟩
   ·exact .inl h4
   ·refine .inr ⟨c,bn,h5,fun j hj=>?_⟩
    have hc:=h6 j hj
    exact ap.cell hc (fun e=>by
     have e':c=f.heap.size+1:=by simpa using e
     obtain⟨D,⟨es,bH,F,_⟩,_⟩:=aN.o;rw[e'] at hc
     simp[World.cell?,F] at hc))
  clear be aR ap a5 aN aU aY aV bd aG a4
  go_region
  all_goals
   go_wp2;go_roundw
   case rel=>exact⟨t',L++[ZcT first L R d],m',rfl,by rw[aH];go_num,by rw[aH];omega,bx⟩
   case measure=>simp[intOf];omega
end Go.Proofs.YtnahjngbneicaaaGreatDoor
