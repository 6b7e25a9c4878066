import Derived.Test.YtnahjngbneicaaaGreatDoorPack13
namespace Go.Proofs.YtnahjngbneicaaaGreatDoor
open _root_.Go.Proofs.Tryz
open List (getElem_mem length_append length_map length_set map_cons map_nil map_toArray)
set_option maxHeartbeats 4000000
set_option maxRecDepth 100000
open Go.RowKit
variable {W W' w w' wr:World} {pv rv v v' vs:Value} {B N R Rb T b n o p pd:Nat} {d:Dk} {l:List Rec} {s:Sto} {t:TypeId} {xs:List Value} {cs:Array Value} {g:Lgb} {K K0:Nat->Prop} {gone left:List Pce}
structure DIB (w wr:World) (b:List UInt8) (first count g B:Nat) (L:List Rec) (vl:Value) (m:List UInt8) (t:Bool):Prop where
 row:ZjB wr g (L++List.replicate (count-L.length) Qi)
 map:ZfU wr B L.length (Q7 L)
 rd:Rd wr vl m
 le:m.length<=b.length
 read:Zqa b first count L m t
 below:Below w.heap.size w wr
theorem Zmg (L:List Rec):∀ u ∈ Qt L,∃ n,u=Value.int .i64 n:=by
 induction L with
 | nil=>intro u a;simp[Qt] at a
 | cons r t b=>
  intro u a;rw[Qt] at a;rcases List.mem_append.1 a with h | h
  ·simp[Ja] at h
   rcases h with rfl | rfl | rfl | rfl | rfl | rfl | rfl <;> exact⟨_,rfl⟩
  ·exact b u h
theorem Rd.row {m:List UInt8} (h:Rd w v m) {g:Nat} {L:List Rec} (B:ZjB w g L) (x:But g g w w'):Rd w' v m:=by
 obtain⟨q,u,z,l,p,i,d⟩:=h;refine⟨q,u,z,l,p,i,?_⟩;rcases d with d | ⟨c,f,A,t⟩
 ·exact .inl d
 ·refine .inr ⟨c,f,A,fun j k=>?_⟩
  have b:=t j k;by_cases e:c=g
  ·rw[e,(B.cell _).1] at b
   obtain⟨n,i⟩:=Zmg L _ (List.mem_of_getElem? b)
   cases i
  ·have y:c<w.heap.size:=World.block_lt_of_cell? w ⟨c,f+j,none⟩ b
   rw[World.cell?_of_block (a:=⟨c,f+j,none⟩) (x.block c y e e)];exact b
theorem ZfU.row {f:Int->Int} (h:ZfU w b n f) {g:Nat} {L:List Rec} (d:ZjB w g L) (c:But g g w w'):ZfU w' b n f:=by
 have a:b≠g:=fun e=>h.apart d e.symm
 exact h.keep (c.block b h.lt a a)
theorem Zze (L:List Rec) (a:Nat) (b:L.length<a) (r:Rec):(L++List.replicate (a-L.length) Qi).set L.length r=(L++[r])++List.replicate (a-(L++[r]).length) Qi:=by
 have e:a-L.length=(a-(L++[r]).length)+1:=by simp;omega
 rw[e,List.replicate_succ,List.set_append_right _ _ zL,Nat.sub_self];simp
theorem ZgL (vb:Value) (b:List UInt8) (w:World) (hr:Rd w vb b) (bJ:b.length<=1000000):
 Calls prog 120 #[vb] w fun e w'=>ZaP w b e w':=by
 have HR:=ZZ hr
 obtain⟨va,vc,rfl⟩:∃ va vc,vb=.slice va b.length vc:=by
  obtain⟨va,vc,rfl,_⟩:=hr;exact⟨va,vc,rfl⟩
 clear hr;have bg:=ZZ (fun q n H=>ZpO (l:=q) (b:=b) n H)
 obtain⟨i,K⟩:∃ i,i=behind (Qb b).2 b:=⟨_,rfl⟩;obtain⟨z,ab⟩:∃ z,z=behind (Qb i).2 i:=⟨_,rfl⟩
 have ay:Hid (∀ W v,Rd W v b->Calls prog 167 #[v,.func (.func 168) #[] #[]] W fun e w'=>∃ v',e=.returned (.tuple #[.int .i64 ((Qb b).1:Nat),v',.bool (decide ((Qb b).2≠0))])∧Rd w' v' i∧Below W.heap.size W w'):=ZZ (fun W v h=>by
  have:=ZdW ((Qb b).1:Nat) (Qb b).2 v b W h (Ju b) (ZcJ v b W h);rw[<-K] at this
  exact this)
 have al:Hid (∀ W v,Rd W v i->Calls prog 167 #[v,.func (.func 168) #[] #[]] W fun e w'=>∃ v',e=.returned (.tuple #[.int .i64 ((Qb i).1:Nat),v',.bool (decide ((Qb i).2≠0))])∧Rd w' v' z∧Below W.heap.size W w'):=ZZ (fun W v h=>by
  have:=ZdW ((Qb i).1:Nat) (Qb i).2 v i W h (Ju i) (ZcJ v i W h);rw[<-ab] at this
  exact this)
 have l1:=Je (Qb b).2 b;have l2:=Je (Qb i).2 i;rw[<-K] at l1;rw[<-ab] at l2
 have c1:(Qb b).1<4611686018427387904:=by
  rcases Xf b with h | h
  ·rw[h];decide
  ·exact h.1
 have HW:Hid (∀ q,Yc q->X9 q=b->(Qb i).2≠0∧q.length=(Qb i).1∧z=Yg [] q∧(q.headD Qi).idx=((Qb b).1:Nat)):=ZZ (fun q n H=>by
  obtain⟨g1,g2,g3,g4,g5⟩:=bg.o q n H;rw[Yv g2] at K;rw[<-K] at g3 g4 g5;rw[Yv g4] at ab;refine⟨g4,g3.symm,?_,g1.symm⟩;rw[<-List.drop_drop,<-K,<-ab] at g5
  exact g5)
 have HS:Hid ((Qb i).2≠0->b=Lib.uvarint (Qb b).1++(Lib.uvarint (Qb i).1++z)):=ZZ (fun h=>by
  have h1:(Qb b).2≠0:=Zcn (l:=b) (by rw[<-K];exact Ztf h)
  have J:=ZiV h1;have S:=ZiV h;rw[<-K] at J;rw[<-ab] at S
  exact J.trans (congrArg (Lib.uvarint (Qb b).1++·) S))
 have bq:Hid (∀ W v l,RdR W v l->Calls prog 48 #[v] W fun e w'=>e=.returned (.bool (decide (Yc l)))∧Below W.heap.size W w'):=ZZ (fun W v l h=>ZbF v l W h)
 clear K ab bg;generalize decide ((Qb b).2≠0)=T0 at *;generalize (Qb b).1=first at *;generalize (Qb i).1=g at *;obtain⟨T1,X⟩:∃ T1,T1=decide ((Qb i).2≠0):=⟨_,rfl⟩;rw[<-X] at al;by_cases ak:(Qb i).2=0∨256<g
 ·have A:Hid (∀ q,Yc q->X9 q≠b):=ZZ (fun q n H=>by
   obtain⟨g1,g2,_⟩:=HW.o q n H;have:=n.2.1
   omega)
  by_cases I:(Qb i).2=0
  ·have n:T1=false:=by rw[X];exact decide_eq_false (fun h=>h I)
   subst n;clear ak HW HS I X
   go_enter func120,ntmps120
   go_wp2_with fail
   refine(ay.o _ _ HR.o).mono ?_;rintro e W1 ⟨v1,rfl,y,Q⟩;obtain⟨a1,n1,J,-⟩:=id y;subst J;have aa:=ZZ y;have C:=ZZ Q;clear y Q
   go_wp2_with fail
   refine(al.o _ _ aa.o).mono ?_;rintro e f ⟨v2,rfl,G,P⟩;obtain⟨a2,n2,S,-⟩:=id G;subst S;have M:=ZZ (C.o.trans (P.mono C.o.size));clear G P;go_wp2;go_ret2;exact ZaP.none A.o M.o
  ·have n:T1=true:=by rw[X];exact decide_eq_true I
   subst n;have bG:256<(g:Int):=by omega
   clear ak HW HS I X
   go_enter func120,ntmps120
   go_wp2_with fail
   refine(ay.o _ _ HR.o).mono ?_;rintro e W1 ⟨v1,rfl,y,Q⟩;obtain⟨a1,n1,J,-⟩:=id y;subst J;have aa:=ZZ y;have C:=ZZ Q;clear y Q
   go_wp2_with fail
   refine(al.o _ _ aa.o).mono ?_;rintro e f ⟨v2,rfl,G,P⟩;obtain⟨a2,n2,S,-⟩:=id G;subst S;have M:=ZZ (C.o.trans (P.mono C.o.size));clear G P;go_wp2;go_ret2;exact ZaP.none A.o M.o
 have I:(Qb i).2≠0:=fun h=>ak (.inl h)
 have bu:g<=256:=Nat.le_of_not_lt (fun h=>ak (.inr h))
 have n:T1=true:=by rw[X];exact decide_eq_true I
 subst n
 have a4:Hid (Zqa b first g [] z true):=ZZ ⟨trivial,(fun r h=>by simp at h),(fun _ _=>HS.o I),(fun h=>by cases h),fun q n H=>by
  obtain⟨g1,g2,g3,g4⟩:=HW.o q n H
  exact⟨g2,by simp,by simpa using g3,rfl,g4⟩⟩
 have bK:¬ 256<(g:Int):=by omega
 have bd:=Zmf;have bA:∀ W:World,(Instr.makeSlice 29 (.int .i64 (g:Int)) (.int .i64 (g:Int))).run prog W=.ok (.slice (some ⟨W.heap.size,0,none⟩) g g) (W.alloc (.cells (Qt (List.replicate g Qi)).toArray 62)):=fun W=>bd W g (by omega)
 have bE:=@run_makeMap prog;have bo:z.length<=b.length:=by omega
 clear ak HW HS I X bd l1 l2;obtain⟨ZR,aG⟩:∃ ZR,ZR=(Qt (List.replicate g Qi)).toArray:=⟨_,rfl⟩;rw[<-aG] at bA;have bx:=ZZ aG;clear aG
 go_enter func120,ntmps120
 go_wp2_with fail
 refine(ay.o _ _ HR.o).mono ?_;rintro e W1 ⟨v1,rfl,y,Q⟩;obtain⟨a1,n1,J,-⟩:=id y;subst J;have aa:=ZZ y;have C:=ZZ Q;clear y Q
 go_wp2_with fail
 refine(al.o _ _ aa.o).mono ?_;rintro e f ⟨v2,rfl,G,P⟩;obtain⟨a2,n2,S,-⟩:=id G;subst S;have bf:=ZZ G;have M:=ZZ (C.o.trans (P.mono C.o.size));clear G P aa C ay al
 have aY:Hid (DIB w ((f.alloc (.cells ZR 62)).alloc (.map #[] 0)) b first g f.heap.size (f.heap.size+1) [] (.slice a2 z.length n2) z true):=ZZ (by
  have u:Below f.heap.size f ((f.alloc (.cells ZR 62)).alloc (.map #[] 0)):=((Below.refl _ _).alloc zL _).alloc (by simp) _
  have hs:(f.alloc (.cells ZR 62)).heap.size=f.heap.size+1:=by simp
  refine⟨?_,?_,bf.o.below u zL,bo,a4.o,M.o.trans (u.mono M.o.size)⟩
  ·rw[List.nil_append,List.length_nil,Nat.sub_zero]
   unfold ZjB;rw[<-bx.o];exact(Below.heap_alloc _ _ _ (by simp)).trans (heap_alloc_new f _)
  ·have h:=ZfU.made (f.alloc (.cells ZR 62))
   rw[hs] at h
   exact h)
 have A:=ZZ M.o.size;clear bf M a4;go_wp2
 go_loopw[5,8,35] (fun vl vt vi wr=>∃ (t:Bool) (L:List Rec) (m:List UInt8),vt=.bool t∧vi=.int .i64 (L.length:Int)∧L.length<=g∧Hid (DIB w wr b first g f.heap.size (f.heap.size+1) L vl m t)) (fun _ _ vi _=>g-(intOf vi).toNat)
 case atStart=>exact⟨true,[],z,rfl,rfl,Nat.zero_le _,aY⟩
 case round=>
  clear aY;obtain⟨t,L,m,rfl,rfl,hk,p⟩:=hrel;by_cases aQ:L.length<g
  case neg=>
   obtain rfl:g=L.length:=by omega
   have bI:¬ (L.length:Int)<(L.length:Int):=by omega
   have aT:=p.out.row;rw[Nat.sub_self,List.replicate_zero,List.append_nil] at aT;have bl:=ZZ (aT.rd p.out.read.ok (by unfold maxLen;omega))
   have au:=ZZ (bq.o wr _ L bl.o);have af:=ZZ p.out.read.done.1;have U:=ZZ p.out.read.done.2;have ad:=ZZ p.out.below
   obtain⟨E,F,aD⟩:∃ E F,u5=.slice E m.length F:=by
    obtain⟨E,F,h,-⟩:=p.out.rd;exact⟨E,F,h⟩
   subst aD;clear aT p
   cases t with
   | false=>
    have ag:=ZZ (U.o (fun h=>by cases h.1))
    clear af U;go_wp2;go_ret2;exact ZaP.none ag.o ad.o
   | true=>
    by_cases hm:m=[]
    case neg=>
     have ag:=ZZ (U.o (fun h=>hm h.2.1))
     have bn:0<m.length:=Nat.pos_of_ne_zero (fun e=>hm (List.eq_nil_of_length_eq_zero e))
     clear af U hm;generalize m.length=ln at *;have bD:decide (0<ln)=true:=decide_eq_true bn;go_wp2;go_ret2;exact ZaP.none ag.o ad.o
    subst hm;by_cases n:Yc L
    ·have HE:=ZZ (af.o ⟨rfl,rfl,n⟩)
     rw[decide_eq_true n] at au;have bv:=ZZ n;clear af U n
     go_wp2_with fail
     refine au.o.mono ?_;rintro e Z ⟨rfl,u⟩;have T:=ZZ (ad.o.trans (u.mono ad.o.size));have ax:=ZZ (bl.o.below u zL);clear u;go_wp2;go_ret2;exact⟨_,L,0,rfl,ax.o,.inl ⟨rfl,bv.o,HE.o⟩,T.o⟩
    ·have ag:=ZZ (U.o (fun h=>n h.2.2))
     rw[decide_eq_false n] at au;clear af U n
     go_wp2_with fail
     refine au.o.mono ?_;rintro e Z ⟨rfl,u⟩;have T:=ZZ (ad.o.trans (u.mono ad.o.size));clear u;go_wp2;go_ret2;exact ZaP.none ag.o T.o
  have bC:(L.length:Int)<(g:Int):=by omega
  obtain⟨R,d,m',t',hT⟩:∃ R d m' t',Jy m=(R,d,m',t'):=⟨_,_,_,_,rfl⟩;have ai:=ZZ (ZjW _ m wr p.out.rd (by have:=p.out.le;omega))
  have bi:=ZZ (p.out.read.step c1 aQ bu hT);have aU:=Zzd m;have aJ:=ZvI m;rw[hT] at ai aU aJ;have aH:=ZZ aJ;have bk:Hid (m'.length<=b.length):=ZZ (Nat.le_trans aU p.out.le)
  obtain⟨E,F,aD⟩:∃ E F,u5=.slice E m.length F:=by
   obtain⟨E,F,h,-⟩:=p.out.rd;exact⟨E,F,h⟩
  subst aD;clear hT aU aJ;unfold Zso at ai
  dsimp only at ai
  have a8:(L++List.replicate (g-L.length) Qi).length=g:=by simp;omega
  have be:=ZZ a8;clear a8
  go_wp2_with fail
  refine ai.o.mono ?_;rintro e Z ⟨v3,rfl,aP,u⟩;obtain⟨a3,n3,e3,-⟩:=id aP;subst e3;have ae:=ZZ (p.out.row.below u zL);have ba:=ZZ (p.out.map.below u zL);have ax:=ZZ aP;have T:=ZZ (p.out.below.trans (u.mono p.out.below.size));clear aP u ai p
  have N:∀ j,j<7->∃ x,Z.cell? ⟨f.heap.size,L.length*7+j,none⟩=some x∧Z.frozen? ⟨f.heap.size,L.length*7+j,none⟩=false:=fun j hj=>by
   have h:=ae.o.cell (L.length*7+j);obtain⟨x,hx⟩:∃ x,(Qt (L++List.replicate (g-L.length) Qi))[L.length*7+j]?=some x:=⟨_,List.getElem?_eq_getElem (by rw[Zl,be.o];omega)⟩
   exact⟨x,h.1.trans hx,h.2⟩
  obtain⟨x0,k0,f0⟩:=N 0 (by decide)
  obtain⟨x1,k1,f1⟩:=N 1 (by decide)
  obtain⟨x2,k2,f2⟩:=N 2 (by decide)
  obtain⟨x3,k3,f3⟩:=N 3 (by decide)
  obtain⟨x4,k4,f4⟩:=N 4 (by decide)
  obtain⟨x5,k5,f5⟩:=N 5 (by decide)
  obtain⟨x6,k6,f6⟩:=N 6 (by decide)
  rw[Nat.add_zero] at k0 f0;clear N
  go_upto_region 12 with fail
  obtain⟨V,az⟩:∃ V,V=((((((Z.setCell ⟨f.heap.size,L.length*7,none⟩ (.int .i64 R.idx)).setCell ⟨f.heap.size,L.length*7+1,none⟩ (.int .i64 R.proc)).setCell ⟨f.heap.size,L.length*7+2,none⟩ (.int .i64 R.seq)).setCell ⟨f.heap.size,L.length*7+3,none⟩ (.int .i64 R.op.code)).setCell ⟨f.heap.size,L.length*7+4,none⟩ (.int .i64 R.op.a)).setCell ⟨f.heap.size,L.length*7+5,none⟩ (.int .i64 R.op.b)).setCell ⟨f.heap.size,L.length*7+6,none⟩ (.int .i64 R.resp):=⟨_,rfl⟩;rw[<-az];have ap:L.length<(L++List.replicate (g-L.length) Qi).length:=by rw[be.o];exact aQ
  have O:=ZZ ap;have aB:=ae.o.seven ap R.idx R.proc R.seq R.op.code R.op.a R.op.b R.resp;rw[<-az] at aB
  have ar:Hid (But f.heap.size f.heap.size Z V):=ZZ (by
   rw[az]
   exact(((((((But.refl _ _ _).set _ _ (.inl rfl) _).set _ _ (.inl rfl) _).set _ _ (.inl rfl) _).set _ _ (.inl rfl) _).set _ _ (.inl rfl) _).set _ _ (.inl rfl) _).set _ _ (.inl rfl) _)
  have aX:=ZZ (ax.o.row ae.o ar.o);have a6:=ZZ (ba.o.row ae.o ar.o);have aN:=ZZ (Zaf T.o ar.o T.o.size A.o A.o);have ac:=ZZ aB;obtain⟨⟨bH,bz⟩,bm⟩:(∃ x,V.cell? ⟨f.heap.size,L.length*7,none⟩=some x)∧V.frozen? ⟨f.heap.size,L.length*7,none⟩=false:=⟨⟨_,(ac.o.at (k:=L.length) (by rw[length_set];exact ap)).1⟩,(ac.o.cell _).2⟩
  clear az aB ap ae ax ba T ar k0 k1 k2 k3 k4 k5 k6 f0 f1 f2 f3 f4 f5 f6
  go_upto_region 13 with fail
  obtain⟨W5,an⟩:∃ W5,W5=V.setCell ⟨f.heap.size,L.length*7,none⟩ (.int .i64 ((first:Int)+(L.length:Int))):=⟨_,rfl⟩;rw[<-an];have a9:L.length<((L++List.replicate (g-L.length) Qi).set L.length ⟨R.idx,R.proc,R.seq,⟨R.op.code,R.op.a,R.op.b⟩,R.resp⟩).length:=by rw[length_set];exact O.o
  have aO:=ac.o.set a9 0 (by decide) (.int .i64 ((first:Int)+(L.length:Int))) ⟨(first:Int)+L.length,R.proc,R.seq,⟨R.op.code,R.op.a,R.op.b⟩,R.resp⟩ (by rw[Zav O.o];rfl)
  rw[Nat.add_zero,<-an,List.set_set] at aO
  have aA:Hid (But f.heap.size f.heap.size V W5):=ZZ (by
   rw[an]
   exact(But.refl _ _ _).set _ _ (.inl rfl) _)
  have bc:=ZZ (aX.o.row ac.o aA.o);have aR:=ZZ (a6.o.row ac.o aA.o);have aL:=ZZ (Zaf aN.o aA.o aN.o.size A.o A.o);have Y:=ZZ aO;have av:=Y.o.at (k:=L.length) (by rw[length_set];exact O.o)
  rw[Zav O.o] at av;have k1:=av.2.1;have k2:=av.2.2.1;have f2:=(Y.o.cell (L.length*7+2)).2;have a5:=aR.o.look aH.o.1
  dsimp only at k1 k2
  clear an aO a9 av ac aX a6 aN aA bz bm;obtain⟨ls,aE⟩:∃ ls,ls=Q7 L R.proc:=⟨_,rfl⟩;rw[<-aE] at a5;have aW:=ZZ aE;clear aE
  go_upto_region 14 with fail
  obtain⟨B,aV⟩:∃ B,B=wrap64 (ls+d):=⟨_,rfl⟩;rw[<-aV]
  have aC:IntKind.i64.wrap (Q7 L R.proc+d)=B:=by
   rw[aV,<-aW.o];unfold wrap64;exact IntKind.wrap_i64 _
  have a7:Hid ((⟨(first:Int)+L.length,R.proc,B,⟨R.op.code,R.op.a,R.op.b⟩,R.resp⟩:Rec)=ZcU first L R d):=ZZ (by
   unfold ZcU
   rw[aC])
  have bp:Hid (I64 B):=ZZ (by rw[<-aC];exact ZiW _)
  clear aC aV aW;obtain⟨W6,ao⟩:∃ W6,W6=W5.setCell ⟨f.heap.size,L.length*7+2,none⟩ (.int .i64 B):=⟨_,rfl⟩;rw[<-ao];have bj:L.length<((L++List.replicate (g-L.length) Qi).set L.length ⟨(first:Int)+L.length,R.proc,R.seq,⟨R.op.code,R.op.a,R.op.b⟩,R.resp⟩).length:=by rw[length_set];exact O.o
  have aj:=Y.o.set bj 2 (by decide) (.int .i64 B) ⟨(first:Int)+L.length,R.proc,B,⟨R.op.code,R.op.a,R.op.b⟩,R.resp⟩ (by rw[Zav O.o];rfl)
  rw[<-ao,List.set_set] at aj
  have am:Hid (But f.heap.size f.heap.size W5 W6):=ZZ (by
   rw[ao]
   exact(But.refl _ _ _).set _ _ (.inl rfl) _)
  have bb:=ZZ (bc.o.row Y.o am.o);have aI:=ZZ (aR.o.row Y.o am.o);have aF:=ZZ (Zaf aL.o am.o aL.o.size A.o A.o);have aw:=aj.at (k:=L.length) (by rw[length_set];exact O.o)
  rw[Zav O.o] at aw;have j1:=aw.2.1;have j2:=aw.2.2.1
  dsimp only at j1 j2
  rw[a7.o,Zze L g aQ] at aj;have aM:=ZZ aj;clear ao aj bj aw Y bc aR aL am k1 k2 f2 a5;have a0:ZfU W6.drew (f.heap.size+1) L.length (Q7 L):=aI.o.keep rfl;obtain⟨W7,bL,aS,aq⟩:=a0.put aH.o.1 bp.o (by omega)
  have aZ:Zzu (Q7 L) R.proc B=Q7 (L++[ZcU first L R d]):=by
   rw[<-a7.o];exact ZiJ L ⟨(first:Int)+L.length,R.proc,B,⟨R.op.code,R.op.a,R.op.b⟩,R.resp⟩
  rw[aZ] at aS;have aK:(L++[ZcU first L R d]).length=L.length+1:=by simp
  have br:Hid (DIB w W7 b first g f.heap.size (f.heap.size+1) (L++[ZcU first L R d]) (.slice a3 m'.length n3) m' t'):=ZZ (by
   have bB:some f.heap.size≠some (f.heap.size+1):=by simp
   have bw:∀ c,c<W6.heap.size->c≠f.heap.size+1->W7.heap[c]?=W6.heap[c]?:=fun c hc hn=>aq.block c hc (fun e=>hn (by simpa using e))
   refine⟨(bw _ aM.o.lt (by omega)).trans aM.o,by rw[aK];exact aS,?_,bk.o,bi.o,(aF.o.drew).grown aq aF.o.size (fun j hj=>by cases hj;have:=A.o;omega)⟩
   obtain⟨va,vc,h1,h2,h3,hn,h4⟩:=bb.o;refine⟨va,vc,h1,h2,h3,hn,?_⟩;rcases h4 with h4 | ⟨c,bt,h5,h6⟩
   ·exact .inl h4
   ·refine .inr ⟨c,bt,h5,fun j hj=>?_⟩
    have hc:=h6 j hj
    exact aq.cell hc (fun e=>by
     have e':c=f.heap.size+1:=by simpa using e
     obtain⟨D,⟨es,bF,H,_⟩,_⟩:=aI.o;rw[e'] at hc
     simp[World.cell?,H] at hc))
  clear a0 aS aq aZ aI aM bb aF bi aH bk
  go_region
  all_goals
   go_wp2;go_roundw
   case rel=>exact⟨t',L++[ZcU first L R d],m',rfl,by rw[aK];go_num,by rw[aK];omega,br⟩
   case measure=>simp[intOf];omega
theorem Zgv {a b:List UInt8} (i:a.length<=1048576) (e:b.length<=1048576) (h:Qd a=Qd b):a=b:=by
 have c:=Zag [a] (by simpa using i)
 have d:=Zag [b] (by simpa using e)
 have g:Qf [a]=Qd a:=by simp[Qf]
 have f:Qf [b]=Qd b:=by simp[Qf]
 rw[g,h] at c;rw[f] at d;have:=congrArg Prod.fst (c.symm.trans d);simpa using this
theorem ZxH {H:List UInt8} (g:H.length<=1048576) {kind:Int} (A:0<=kind) (y:kind<6):
 decide (Qd H=ZgI 3 kind (Gv (Qd H)).1.first)=(ZbB H kind).isSome∧(∀ f,ZbB H kind=some f->(Gv (Qd H)).1.first=(f:Int))∧0<=(Gv (Qd H)).1.first∧(Gv (Qd H)).1.first<4611686018427387904:=by
 have p:=Zag [H] (by simpa using g)
 have D:Qf [H]=Qd H:=by simp[Qf]
 rw[D] at p
 have d:Gv (Qd H)=match Z0 H with
  | .error _=>(Zev,0,false)
  | .ok (v,k,f)=>(⟨k,f,(J4 v f [] [] 16).1⟩,(Qf ([H].take (1+(J4 v f [] [] 16).2.1))).length,true):=by
  unfold Gv ZwK;rw[p];rw[if_neg (by simp)]
  rfl
 have u:∀ f:Int,0<=f->f<4611686018427387904->ZgI 3 kind f=Qd (Xq 3 kind.toNat f.toNat):=fun f m q=>by
  unfold ZgI;rw[if_pos (by decide),if_pos ⟨A,y,m,q⟩]
  rfl
 have w:∀ f:Int,0<=f->f<4611686018427387904->(Xq 3 kind.toNat f.toNat).length<=1048576:=fun f m q=>by
  have:=ZcP (v:=3) (k:=kind.toNat) (f:=f.toNat) (by decide) (by omega) (by omega)
  omega
 cases hr:Z0 H with
 | error x=>
  rw[hr] at d;have i:(Gv (Qd H)).1.first=0:=by rw[d];rfl
  have c:ZbB H kind=none:=by unfold ZbB;rw[hr]
  rw[i,c];refine⟨?_,(fun f a=>by cases a),by decide,by decide⟩
  rw[u 0 (by decide) (by decide)]
  refine decide_eq_false fun a=>?_
  have:=Zgv g (w 0 (by decide) (by decide)) a
  rw[this,ZfS (by decide) (by decide) (by omega) (by decide)] at hr
  cases hr
 | ok t=>
  obtain⟨v,k,f⟩:=t;obtain⟨F,I,J,G,B⟩:=Zcl hr;rw[hr] at d;have i:(Gv (Qd H)).1.first=(f:Int):=by rw[d]
  rw[i,u f (by omega) (by omega)]
  have c:ZbB H kind=if v=3∧(k:Int)=kind then some f else none:=by unfold ZbB;rw[hr]
  have l:((f:Int)).toNat=f:=by omega
  rw[l];have n:=w f (by omega) (by omega)
  rw[l] at n;by_cases e:v=3∧(k:Int)=kind
  ·rw[c,if_pos e]
   refine⟨?_,fun C j=>by rw[Option.some.inj j],by omega,by omega⟩
   have E:kind.toNat=k:=by omega
   rw[F,e.1,E];exact decide_eq_true rfl
  ·rw[c,if_neg e]
   refine⟨decide_eq_false fun a=>?_,(fun C j=>by cases j),by omega,by omega⟩
   have z:=Zgv g n a;have b:=ZfS (v:=3) (k:=kind.toNat) (f:=f) (by decide) (by decide) (by omega) B
   rw[<-z,hr] at b
   injection b with b
   injection b with h5 h6
   injection h6 with h6 h7
   exact e ⟨h5,by omega⟩
theorem ZnY (q:Value) (H:List UInt8) (kind:Int) (w:World) (B:Rd w q H) (hH:H.length<=90000) (J:0<=kind) (O:kind<6):
 Calls prog 119 #[q,.int .i64 kind] w fun e w'=>∃ x:Int,e=.returned (.tuple #[.int .i64 x,.bool (ZbB H kind).isSome])∧(∀ f,ZbB H kind=some f->x=(f:Int))∧Below w.heap.size w w':=by
 obtain⟨j,t,U,q4⟩:=ZxH (H:=H) (by omega) J O
 have Q:=ZZ (Zdj q H w B);rw[ZlW (by omega)] at Q
 have p:=Zag [H] (by simp;omega)
 have y:Qf [H]=Qd H:=by simp[Qf]
 rw[y] at p;have Z:=Q9 H;have Y:(Lib.uvarint H.length).length<=10:=Gh (by omega)
 have i:=ZZ (fun k W (h:Rd W k (Qd H))=>ZjR k (Qd H) W h (by omega) (by rw[p];rfl))
 obtain⟨fs,m⟩:∃ fs,fs=(Gv (Qd H)).1.first:=⟨_,rfl⟩;have z:=ZZ (fun W=>ZnN 3 kind fs W)
 unfold Zbb at i;unfold Zrb at z;rw[<-m] at j i;have HQ:Hid (∀ f,ZbB H kind=some f->fs=(f:Int)):=ZZ (fun f hf=>by rw[m];exact t f hf)
 have R:=ZZ (fun l C W (ha:Rd W l (Qd H)) (hb:Rd W C (ZgI 3 kind fs))=>ZiU l C _ _ W ha hb)
 rw[j] at R;generalize (ZbB H kind).isSome=ai at *;generalize (Gv (Qd H)).1.kind=u at *;generalize ((Gv (Qd H)).2.1:Int)=rn at *;generalize (Gv (Qd H)).2.2=ro at *;generalize (Gv (Qd H)).1.recs=M at *;generalize ZgI 3 kind fs=HL at *;generalize Jj 3 kind fs=he at *;generalize Qd H=FH at *;obtain⟨l,vc,rfl,-⟩:=B;clear j t U q4 p y Z Y m J O
 go_enter func119,ntmps119
 go_wp2_with fail
 refine Q.o.mono ?_;rintro e W1 ⟨k,rfl,N,P⟩;have K:=ZZ N.rd;have v:=ZZ P;clear N P
 go_wp2_with fail
 refine(i.o _ _ K.o).mono ?_;rintro e b ⟨vl,rfl,ab,n⟩;obtain⟨D,lc,rfl,-⟩:=ab;have af:=ZZ n;have G:=ZZ (v.o.trans (n.mono v.o.size));obtain⟨a,g⟩:∃ a,a=b.alloc (.cells #[.int .i64 u,.int .i64 fs,.slice D M.length lc] 217):=⟨_,rfl⟩;have X:Hid (Bsg a b.heap.size #[.int .i64 u,.int .i64 fs,.slice D M.length lc]):=ZZ (by rw[g];exact heap_alloc_new b _)
 have I:Hid (Below b.heap.size b a):=ZZ (by rw[g];exact Jw _ _)
 have A:=ZZ (G.o.trans (I.o.mono G.o.size));have ac:=ZZ ((K.o.below af.o zL).below I.o zL);have L:Hid (∀ W,Below a.heap.size a W->W.cell? ⟨b.heap.size,1,none⟩=some (.int .i64 fs)):=ZZ (fun W S=>((X.o.below S zL).cell 1).1)
 have c1:=L.o a (Below.refl _ _);clear n
 go_upto_region 3 with fail
 rw[<-g];clear g
 go_wp2_with fail
 refine(z.o a).mono ?_;rintro e c ⟨v4,rfl,E,d⟩;have ag:=ZZ d;have aa:=ZZ (A.o.trans (d.mono A.o.size));have T:=ZZ E.rd;have ad:=ZZ (ac.o.below d zL);have ae:Hid (Below a.heap.size a c.drew):=ZZ d.drew;have F:Hid (Below c.heap.size c c.drew):=ZZ (Below.refl _ _).drew;have V:=ZZ (R.o _ _ c.drew (ad.o.below F.o zL) (T.o.below F.o zL));clear E d c1
 go_upto_region 4 with fail
 go_region_held(fun W=>W.cell? ⟨b.heap.size,1,none⟩=some (.int .i64 fs))
  (first | (with_reducible exact L.o _ ae.o))
  (first | (go_at_call 163;refine V.o.mono ?_;rintro e W5 ⟨rfl,rfl⟩))
 all_goals
  go_wp2;go_ret2;exact⟨fs,rfl,HQ.o,aa.o.drew⟩
theorem ZgM (w:World) (ty:TypeId) (B:Nat) (v:Value) (b:List Rec) (c:Xj w B v b) (g:Value) (l:List Rec) (j:RdR w g l)
 (C:b.length+l.length<=10000000) (f:B<=w.heap.size):
 ∃ v' w',(Builtin.append_ #[29,29] ty #[v,g]).run prog w=.ok v' w'∧Xj w' B v' (b++l)∧Below B w w':=by
 obtain⟨i,e,z,n,A⟩:=info_parts Zdg;obtain⟨ao,cap,rfl,E,D,m,_,y⟩:=j
 cases ao with
 | none=>
  have t:=m rfl;subst t;have p:l=[]:=List.eq_nil_of_length_eq_zero (by omega)
  subst p;have d:=run_append_owned_none (P:=prog) w B 29 ty 62 i 7 underlying29 e v b.length (Qt b) c;exact⟨v,w,d,by rw[List.append_nil];exact c,Below.refl _ _⟩
 | some a=>
  obtain⟨v',w',d,q,u,_⟩:=run_append_own (P:=prog) w B 29 ty 62 i _ 7 56 underlying29 e z n A rfl (by decide) v b.length (Qt b) c a l.length cap (Qt l)
   (Zl l) (RdR.cells y a rfl) (Zbw l) (by unfold maxLen;omega) (by omega) f
  refine⟨v',w',d,?_,?_⟩
  ·unfold Xj
   rw[length_append,ZaA];exact q
  ·exact(Below.refl _ _).grown u f (fun k x=>(World.ownsRow.lt c k x).1)
theorem ZdX (w:World) {d:Array Oper} {rest:List Oper} {o:Oper} {a:Act} {Q:Exit->Act->World->Prop} (p:o.guard=none) (s x:Operand)
 (m:o.op=.call { callee:=.builtin .append,args:=#[s,x],argTypes:=#[29,29] })
 (B:Nat) (v:Value) (b:List Rec) (q:a.eval s=v) (n:Xj w B v b) (c:Value) (l:List Rec) (t:a.eval x=c) (e:RdR w c l)
 (k:b.length+l.length<=10000000) (j:B<=w.heap.size)
 (h:∀ v' w',Xj w' B v' (b++l)->Below B w w'->wpList prog d Q rest (a.put o.dst v') w'):wpList prog d Q (o::rest) a w:=
 wpList_plain p fun _ f=>by
  obtain⟨v',w',u,g,i⟩:=ZgM w o.type B v b n c l e k j;unfold Oper.wp execOp;simp only [m,resolve,invoke,builtin,Sem.run_bind,Sem.run_pure,Result.andThen_ok,map_toArray,map_cons,map_nil,q,t,u];exact f _ _ (h v' w' g i)
theorem ZvK {L:List (List UInt8)} {q:Nat} (h:q<L.length):L.getD q [] ∈ L:=by
 rw[show L.getD q []=L[q] by simp[List.getD,h]]
 exact getElem_mem _
theorem ZxI {d:List UInt8} {n:Int} (h:DecB d l n):(n=0∧ZdK d=some l∧Yc l)∨(n=3∧ZdK d=none):=by
 rcases h with ⟨a,b,c⟩ | ⟨a,b,c⟩
 ·exact .inl ⟨a,by rw[<-c];exact ZmL b,b⟩
 ·refine .inr ⟨a,?_⟩
  unfold ZdK;rw[if_neg fun e=>c _ e.1 e.2]
theorem ZaC (first:Int) (d:List UInt8) (t:List (List UInt8)) (a:List Rec):Ys first (d::t) a=match ZdK d with
 | none=>a
 | some l=>if(l.headD Qi).idx=first+a.length then Ys first t (a++l) else a:=by
 rw[Ys]
 cases ZdK d <;> rfl
def Zqb (L:List (List UInt8)) (kind:Int):Option (Nat × List Rec):=
 match L with
 | []=>none
 | H::B=>(ZbB H kind).map fun f=>(f,Ys f B [])
theorem Zmh (b:List UInt8) (kind:Int):ZoH b kind=Zqb (Qp b).1 kind:=by
 unfold ZoH Zqb
 cases (Qp b).1 <;> rfl
def ZvL (w:World) (o:Option (Nat × List Rec)) (e:Ending) (w':World):Prop:=
 ∃ (x:Int) (a:Option Addr) (n c:Nat),e=.returned (.tuple #[.int .i64 x,.slice a n c,.bool o.isSome])∧(∀ f l,o=some (f,l)->x=(f:Int)∧Xj w' w.heap.size (.slice a n c) l)∧Below w.heap.size w w'
theorem Xj.rdF (h:Xj w B v l) (b:∀ r ∈ l,Qz r):RdR w v l:=h.rd fun r a=>ZaQ (b r a)
theorem ZiX (vb:Value) (b:List UInt8) (kind:Int) (w:World) (hr:Rd w vb b) (hb:b.length<=90000) (a5:0<=kind) (bf:kind<6):
 Calls prog 77 #[vb,.int .i64 kind] w fun e w'=>ZvL w (ZoH b kind) e w':=by
 have ae:=ZZ (ZkG vb b w hr (by omega))
 obtain⟨U,aM⟩:=ZeQ b;rw[Zmh];obtain⟨va,vc,rfl,-⟩:=hr;generalize (Qp b).2.1=tk at *;generalize (Qp b).1=L at *;obtain⟨u,au⟩:∃ u:Option (Nat × List Rec),u=Zqb L kind:=⟨_,rfl⟩;rw[<-au];have S:=ZZ au;clear au;have br:(L.length:Int)<=100000:=by omega
 by_cases R:L.length=0
 ·have e:L=[]:=List.eq_nil_of_length_eq_zero R
  have y:Hid (u=none):=ZZ (by rw[S.o,e];rfl)
  have aS:((L.length:Int) == 0)=true:=by rw[beq_iff_eq];omega
  clear R e U aM S
  go_enter func77,ntmps77
  go_wp2;go_step3
  go_wp2_with fail
  refine ae.o.mono ?_;rintro e I ⟨v1,rfl,C,N⟩;have F:=ZZ N;obtain⟨a1,c1,ap,-⟩:=C.rd;subst ap;clear C N;go_wp2
  try rw[Exit.noGoto_ret]
  go_ret3
  rw[y.o];exact⟨0,_,_,_,rfl,(fun f l i=>by cases i),F.o⟩
 have az:L≠[]:=fun e=>R (by rw[e];rfl)
 have aS:((L.length:Int) == 0)=false:=beq_eq_false_iff_ne.2 (by omega)
 have bv:(0:Int)<(L.length:Int):=by omega
 have ac:L.getD 0 []=L.headD []:=by cases L <;> rfl
 have ar:Hid (u=(ZbB (L.headD []) kind).map fun(f:Nat)=>(f,Ys (f:Int) L.tail [])):=ZZ (by
  rw[S.o]
  cases L with
  | nil=>exact absurd rfl az
  | cons H B=>rfl)
 have aF:(L.headD []).length<=90000:=by
  rw[<-ac];have:=(U (L.getD 0 []) (by rw[show L.getD 0 []=L[0]'(by omega) by simp[List.getD,show 0<L.length by omega]];exact getElem_mem _)).2
  omega
 have aO:=ZZ (fun P W (h:Rd W P (L.headD []))=>ZnY P (L.headD []) kind W h aF a5 bf)
 have bl:=ZZ (fun(q:Nat) (hq:q<L.tail.length) P W (h:Rd W P (L.tail.getD q []))=>ZgL P (L.tail.getD q []) W h (by
  have hm:L.tail.getD q [] ∈ L:=List.mem_of_mem_tail (ZvK hq);have:=(U _ hm).2
  omega))
 have bj:L.tail.length<=20000:=by rw[List.length_tail];omega
 clear U aM S R
 go_enter func77,ntmps77
 go_wp2;go_step3
 go_wp2_with fail
 refine ae.o.mono ?_;rintro e I ⟨v1,rfl,C,N⟩;have F:=ZZ N;have ag:=ZZ C.rd;obtain⟨a1,c1,ap,-⟩:=C.rd;subst ap;clear C N;obtain⟨b0,o0,x0,rfl,aA,X⟩:=ag.o.at 0 (by omega)
 obtain⟨am,cm,ad,av⟩:=ZvA I _ L L.length c1 rfl ag.o 1 (by omega)
 rw[List.drop_one] at ad av;rw[ac] at X;have km:=av 1 rfl;have aB:=ZZ ad;have aH:=aA I (Below.refl _ _);have aC:=ZZ (X I (Below.refl _ _));obtain⟨a0,q0,bg,-⟩:=X I (Below.refl _ _);subst bg;rw[Nat.add_zero] at aH;clear ad av aA X ac ag ae az;generalize L.tail=B at *;generalize L.headD []=H at *;generalize aX:H.length=hl at *;clear aX aF
 go_wp2_with fail
 refine(aO.o _ _ aC.o).mono ?_;rintro e m ⟨x,rfl,aJ,aq⟩;have z:=ZZ (F.o.trans (aq.mono F.o.size));have aG:=ZZ (aB.o.below aq zL);have aL:=ZZ aJ;clear aJ aq aH aC aB aO F
 cases i:ZbB H kind with
 | none=>
  have y:Hid (u=none):=ZZ (by rw[ar.o,i];rfl)
  clear i;simp only [Option.isSome_none];go_wp2
  try rw[Exit.noGoto_ret]
  go_ret3
  rw[y.o];exact⟨0,_,_,_,rfl,(fun f l h'=>by cases h'),z.o⟩
 | some f=>
  obtain rfl:=aL.o f i
  have a7:f<4611686018427387904:=by
   unfold ZbB at i;split at i
   ·rename_i v k f' aV
    split at i
    ·have:=(Zcl aV).2.2.2.2
     rw[<-Option.some.inj i];exact this
    ·cases i
   ·cases i
  have y:Hid (u=some (f,Ys f B [])):=ZZ (by rw[ar.o,i];rfl)
  simp only [Option.isSome_some];obtain⟨j,aa⟩:∃ j:Int,j=(f:Int):=⟨_,rfl⟩;have ai:=ZZ aa;have bz:0<=j:=by omega
  have bA:j<4611686018427387904:=by omega
  rw[<-aa];clear i aL ar aa a7;obtain⟨t,af⟩:∃ t,t=B.length:=⟨_,rfl⟩;rw[<-af] at km aG bj;have aR:=ZZ af;clear af;have bw:(t:Int)<=20000:=by omega
  have ao:Hid (∀ (wr:World) (K:Value) d,Xj wr w.heap.size K d->Ys f B []=d->Below w.heap.size w wr->ZvL w u (.returned (.tuple #[.int .i64 j,K,.bool true])) wr):=ZZ (fun wr K d ho hk bd=>by
   obtain⟨a,c,rfl⟩:=ho.shape;refine⟨j,a,_,c,by rw[y.o];rfl,fun f' l' T=>?_,bd⟩
   rw[y.o] at T;have T:=Option.some.inj T
   injection T with e1 e2
   rw[<-e1,<-e2,hk]
   exact⟨ai.o,ho⟩)
  go_wp2;go_step3;go_wp2
  go_loopw[11,37] (fun K vi wr=>∃ (q:Nat) (d:List Rec) (a:Option Addr) (n c:Nat),vi=.int .i64 (q:Int)∧q<=t∧K=.slice a n c∧Hid (Xj wr m.heap.size (.slice a n c) d)∧Hid (∀ r ∈ d,Qz r)∧Hid (d.length<=256*q)∧Hid (Ys f B []=Ys f (B.drop q) d)∧Hid (Below m.heap.size m wr)) (fun _ vi _=>t-(intOf vi).toNat)
  case atStart=>exact⟨0,[],none,0,0,rfl,Nat.zero_le _,rfl,ZZ (Xj.nil _ _),ZZ (fun r hr=>by cases hr),ZZ (Nat.zero_le _),ZZ rfl,ZZ (Below.refl _ _)⟩
  case round=>
   obtain⟨q,d,a,n,c,rfl,hq,rfl,HO,aT,bn,ak,V⟩:=hrel;have aw:Hid (Below w.heap.size w wr):=ZZ (z.o.trans (V.o.mono z.o.size));by_cases a8:q<t
   case neg=>
    have e:q=t:=by omega
    have Q:=ZZ (ao.o wr _ d (HO.o.mono z.o.size) (by
     rw[ak.o,e,aR.o,List.drop_length]
     rfl) aw.o)
    clear e;go_wp2
    try rw[Exit.noGoto_ret]
    go_ret3
    exact Q.o
   have ab:q<B.length:=by rw[<-aR.o];exact a8
   have bp:(q:Int)<(t:Int):=by omega
   have bt:=bn.o;obtain⟨bb,ob,xb,aW,ay,aK⟩:=(aG.o.below V.o zL).at q ab;subst aW;have cx:=ay wr (Below.refl _ _);have aD:=aK wr (Below.refl _ _);have O:=ZZ (bl.o q ab _ wr aD);unfold ZaP at O;have p:Hid (Ys f B []=Ys f (B.getD q []::B.drop (q+1)) d):=ZZ (by rw[ak.o,drop_one ab])
   rw[ZaC] at p;obtain⟨xa,xc,bm,-⟩:=aD;subst bm;generalize B.getD q []=dq at *;generalize aP:dq.length=dl at *;have bx:=ZZ aP;clear aP ay aK ak
   go_wp2_with fail
   refine O.o.mono ?_;rintro e J ⟨v3,g,n3,rfl,M,Z,E⟩;have aE:Hid (Below m.heap.size m J):=ZZ (V.o.trans (E.mono V.o.size));have aN:Hid (Below w.heap.size w J):=ZZ (aw.o.trans (E.mono aw.o.size));have Y:=ZZ (HO.o.below E zL);have ba:=ZZ M;rcases ZxI Z with ⟨rfl,A,G⟩ | ⟨rfl,A⟩
   case inr=>
    have Q:=ZZ (ao.o J _ d (Y.o.mono z.o.size) (by rw[p.o,A]) aN.o)
    clear A Z M E p O cx;go_wp2
    try rw[Exit.noGoto_ret]
    go_ret3
    exact Q.o
   have aQ:1<=g.length:=G.1;have bo:g.length<=256:=G.2.1;obtain⟨ra,rc,be,-,-,-,-,bk⟩:=id M;subst be;rcases bk with aU | ⟨rb,ro,rfl,al⟩
   ·rw[aU] at aQ;simp at aQ
   have an:g.getD 0 Qi=g.headD Qi:=by cases g <;> rfl
   have ci:=(al 0 (by omega)).1
   rw[an,Nat.zero_mul,Nat.add_zero] at ci;rw[A] at p
   dsimp only at p
   have bC:(d.length:Int)<=6000000:=by omega
   have ax:Hid (n=d.length):=ZZ (by
    obtain⟨a9,c9,e9⟩:=Y.o.shape
    injection e9 with _ e9 _)
   have bu:n<=6000000:=by rw[ax.o];omega
   have bD:(n:Int)<=6000000:=by omega
   have bB:IntKind.i64.wrap (j+(n:Int))=j+n:=by rw[IntKind.wrap_i64];omega
   have bq:(0:Int)<(g.length:Int):=by omega
   by_cases D:(g.headD Qi).idx=j+n
   case neg=>
    have Q:=ZZ (ao.o J _ d (Y.o.mono z.o.size) (by rw[p.o,if_neg (by rw[<-ai.o,<-ax.o];exact D)]) aN.o)
    have aY:((g.headD Qi).idx != j+(n:Int))=true:=by rw[bne_iff_ne];exact D
    generalize (g.headD Qi).idx=ix at *;clear A Z M E p O cx al an G D;go_wp2
    try rw[Exit.noGoto_ret]
    go_ret3
    exact Q.o
   have aY:((g.headD Qi).idx != j+(n:Int))=false:=by rw[D];simp
   have a2:Hid (Ys f B []=Ys f (B.drop (q+1)) (d++g)):=ZZ (by rw[p.o,if_pos (by rw[<-ai.o,<-ax.o];exact D)])
   have a3:Hid (∀ r ∈ d++g,Qz r):=ZZ (fun r hr=>by
    rcases List.mem_append.1 hr with hr | hr
    ·exact aT.o r hr
    ·exact G.2.2.1 r hr)
   have bi:Hid ((d++g).length<=256*(q+1)):=ZZ (by rw[length_append];omega)
   have aZ:Hid (d.length+g.length<=10000000):=ZZ (by omega)
   have bc:Hid (m.heap.size<=J.heap.size):=ZZ aE.o.size;generalize (g.headD Qi).idx=ix at *;clear A Z M E p O cx al an G D
   go_wp2_with(at_builtin;refine ZdX _ rfl _ _ rfl m.heap.size _ d rfl Y.o _ g rfl ba.o (by have:=aZ.o;omega) bc.o ?_)
   intro v4 W4 aj aI;have a4:=ZZ aj
   obtain⟨y1,y2,y3,hy⟩:∃ a n c,v4=Value.slice a n c:=by
    obtain⟨a,c,i⟩:=aj.shape;exact⟨a,_,c,i⟩
   subst hy;have a6:Hid (Below m.heap.size m W4):=ZZ (aE.o.trans aI);clear aj aI;go_wp2;go_roundw
   case rel=>exact⟨q+1,d++g,y1,y2,y3,by go_num,by omega,rfl,a4,a3,bi,a2,a6⟩
   case measure=>simp[intOf];omega
structure Zzf (g:Lgb):Prop where
 f0:0<=g.first
 f1:g.first<=4611686018427387904
 rl:g.recs.length<=9000000
 pl:g.pcs.length<=900000
 st:∀ p ∈ g.pcs,0<=p.stop∧p.stop<=4611686018427387904
def Jk (d:Dk) (kind:Int) (l:List Int) (q:Nat):Lgb:=(l.take q).foldl (logOne d kind) ZaE
theorem ZfV (d:Dk) (kind:Int) (l:List Int) (q:Nat) (a:q<l.length):Jk d kind l (q+1)=logOne d kind (Jk d kind l q) (l.getD q 0):=by
 unfold Jk;rw[List.take_add_one,List.foldl_append,show l.getD q 0=l[q] by simp[List.getD,a]]
 simp[a]
theorem ZiY (d:Dk) (kind:Int) (l:List Int) (q:Nat) (a:q=l.length):Jk d kind l q=l.foldl (logOne d kind) ZaE:=by
 subst a;unfold Jk;rw[List.take_length]
def ZvM (w:World) (g:Lgb) (e:Ending) (w':World):Prop:=
 ∃ rv pv,e=.returned (.agg #[.int .i64 g.first,rv,pv])∧Xj w' w.heap.size rv g.recs∧w'.ownsRow w.heap.size 108 3 pv g.pcs.length (Q6 g.pcs)∧Below w.heap.size w w'
theorem ZaS {base s:Nat} (h:w.ownsRow base t s v n xs) (e:∀ g,v.ownBlock=some g->b<=g):w.ownsRow b t s v n xs:=by
 obtain⟨d,a⟩:=h;refine⟨d,?_⟩;rcases a with a | ⟨g,cap,cur,c,f,r⟩
 ·exact .inl a
 ·exact .inr ⟨g,cap,cur,c,e g (by rw[c];rfl),r⟩
theorem Ztj {a:TypeId} {s:Nat} (h:Zix t w b o cs rv pv g) (f:w.ownsRow B a s v n xs) (p:a≠t) (i:a≠62) (j:a≠108)
 (l:Ql (ZjN b rv pv) w w'):w'.ownsRow B a s v n xs:=Qh f fun k m=>by
 obtain⟨c,d⟩:=X0 f m;refine l.block k d.lt fun hf=>?_
 rcases hf with hf | hf | hf
 ·subst hf
  exact(d.ne h.blk p) rfl
 ·obtain⟨c',e⟩:=X0 h.recs hf
  exact(d.ne e i) rfl
 ·obtain⟨c',e⟩:=X0 h.pcs hf
  exact(d.ne e j) rfl
theorem Zix.ltF (h:Zix t w b o cs rv pv g):∀ k,ZjN b rv pv k->k<w.heap.size:=fun k hk=>by
 rcases hk with hk | hk | hk
 ·subst hk;exact h.blk.lt
 ·obtain⟨c',a⟩:=X0 h.recs hk
  exact a.lt
 ·obtain⟨c',a⟩:=X0 h.pcs hk
  exact a.lt
structure ZfW (w W0:World) (v:Value) (l:List Int) (rv pv:Value) (g:Lgb) (wr:World):Prop where
 log:Zix 73 wr (w.heap.size+1) 0 #[.int .i64 g.first,rv,pv] rv pv g
 far:∀ k,ZjN (w.heap.size+1) rv pv k->w.heap.size+1<=k
 out:Bk 73 wr w.heap.size #[.int .i64 0,.slice none 0 0,.slice none 0 0]
 row:Qs wr W0.heap.size v l
 old:Below w.heap.size w wr
theorem ZfW.below {b:World} {l:List Int} (h:ZfW w b v l rv pv g wr) (a:Below wr.heap.size wr w'):ZfW w b v l rv pv g w':=
 ⟨h.log.below a,h.far,h.out.keep (a.block _ h.out.lt),h.row.below a zL,h.old.trans (a.mono h.old.size)⟩
theorem ZfW.did {d:World} {l:List Int} {g':Lgb} (h:ZfW w d v l rv pv g wr) (i:ZeM 73 wr (w.heap.size+1) 0 #[.int .i64 g.first,rv,pv] rv pv g' w'):
 ∃ b c,ZfW w d v l b c g' w'∧Ql (ZjN (w.heap.size+1) rv pv) wr w':=by
 obtain⟨b,c,f,a,e⟩:=i;have j:w.heap.size+1<wr.heap.size:=h.log.blk.lt;refine⟨b,c,⟨f,fun k hk=>?_,h.out.keep (a.block _ h.out.lt fun hk=>?_),Ztj h.log h.row (by decide) (by decide) (by decide) a,h.old.trans (a.below (by omega) fun k hk=>?_)⟩,a⟩
 ·rcases e k hk with hk | hk
  ·exact h.far k hk
  ·omega
 ·have:=h.far _ hk
  omega
 ·have:=h.far _ hk
  omega
def ZzS (g:Lgb) (n:Int):Option (Nat × List Rec)->Lgb
 | none=>g
 | some (f,l)=>if g.pcs.length=0∨(f:Int)=g.next then(g.start n f).add l else g
theorem Zqc {F:Nat->Prop} (kind:Int) (w:World) (h:Dsk F w p d N T) (hN:N<=1000000) (hT:T<=1000000000) (aW:0<=kind) (a4:kind<6) (aT:∀ n,(Zp d n).1.length<=90000)
 (aN:∀ n f l,ZoH (Zp d n).1 kind=some (f,l)->f<4611686018427387904∧∀ r ∈ l,Qz r) (aV:∀ q,Zzf (Jk d kind (Xk (Qk d) 2) q)):
 Calls prog 35 #[ptr p,.int .i64 kind] w fun e w'=>ZvM w (Jm d kind) e w':=by
 have ap:=ZZ (fun W (V:Below w.heap.size w W)=>Zcj 2 W (h.below V) hN (by omega) (by omega))
 have ba:=ZZ (fun n (y:I64 n) W (V:Below w.heap.size w W)=>Zna n y W (h.below V) hT)
 have bl:=ZZ (fun n vb W (hr:Rd W vb (Zp d n).1)=>ZiX vb _ kind W hr (aT n) aW a4)
 have HI:Hid (∀ n ∈ Xk (Qk d) 2,I64 n):=ZZ (by
  obtain⟨L,g1,A,-⟩:=h
  exact fun n y=>by
   have:=Zbg A n (List.mem_filter.1 y).1
   exact⟨by omega,by omega⟩)
 have aK:Hid ((Xk (Qk d) 2).length<=1000000):=ZZ (by
  obtain⟨L,g1,A,g3,-⟩:=h;have h3:=Zbt d d.waits.length;rw[Zdc] at h3;have:=g3.names;refine Nat.le_trans (List.length_filter_le _ _) ?_;unfold Qk;rw[length_map]
  omega)
 have bi:=ZZ aN;have aJ:=ZZ aV;have a6:Jm d kind=(Xk (Qk d) 2).foldl (logOne d kind) ZaE:=rfl;rw[a6];clear h aT aN aV a6 aW a4;obtain⟨l,hl⟩:∃ l,l=Xk (Qk d) 2:=⟨_,rfl⟩;rw[<-hl] at ap HI aK aJ ⊢;clear hl;obtain⟨t,O⟩:∃ t,t=(w.alloc (.cells #[.int .i64 0,.slice none 0 0,.slice none 0 0] 73)).alloc (.cells #[.int .i64 0,.slice none 0 0,.slice none 0 0] 73):=⟨_,rfl⟩;have ae:Hid (Below w.heap.size w t):=ZZ (by rw[O];exact((Below.refl _ _).alloc zL _).alloc (by simp) _)
 have HY:Hid (Bk 73 t w.heap.size #[.int .i64 0,.slice none 0 0,.slice none 0 0]):=ZZ (by rw[O];exact(Below.heap_alloc _ _ _ (by simp)).trans (heap_alloc_new w _))
 have HX:Hid (Bk 73 t (w.heap.size+1) #[.int .i64 0,.slice none 0 0,.slice none 0 0]):=ZZ (by rw[O];exact ZdR w _ _)
 have br:Hid (∀ (a b c:Value) (W:World),Below w.heap.size w W->Below w.heap.size w (((W.setCell ⟨w.heap.size,0,none⟩ a).setCell ⟨w.heap.size,1,none⟩ b).setCell ⟨w.heap.size,2,none⟩ c)):=ZZ (fun a b c W V=>((V.setCell (p:=⟨w.heap.size,0,none⟩) zL a).setCell (p:=⟨w.heap.size,1,none⟩) zL b).setCell (p:=⟨w.heap.size,2,none⟩) zL c)
 go_enter func35,ntmps35
 go_upto_region 2 with fail
 rw[<-O];clear O
 go_wp2_with fail
 refine(ap.o t ae.o).mono ?_;rintro e W1 ⟨v1,rfl,aA,ai⟩
 have aj:Hid (ZfW w t v1 l (.slice none 0 0) (.slice none 0 0) ZaE W1):=ZZ (by
  refine⟨(Zix.mk HX.o rfl rfl rfl (Xj.nil _ _) (World.ownsRow_nil _ _ _ _)).below ai,fun k hk=>?_,HY.o.keep (ai.block _ HY.o.lt),aA,ae.o.trans (ai.mono ae.o.size)⟩
  rcases hk with hk | hk | hk
  ·omega
  ·cases hk
  ·cases hk)
 obtain⟨a1,K,bm⟩:∃ a c,v1=.slice a l.length c:=aA.shape;subst bm;obtain⟨m,ab⟩:∃ m,m=l.length:=⟨_,rfl⟩;rw[<-ab] at aj aK;rw[<-ab];have a7:=ZZ ab;clear aA ai ap ab HX HY ae;have bC:=aK.o;have bz:(m:Int)<=1000000:=by omega
 have aX:Hid (∀ (g:Lgb) (rv pv:Value) (W:World),g=l.foldl (logOne d kind) ZaE->ZfW w t (.slice a1 m K) l rv pv g W->ZvM w (l.foldl (logOne d kind) ZaE) (.returned (.agg #[.int .i64 g.first,rv,pv])) (((W.setCell ⟨w.heap.size,0,none⟩ (.int .i64 g.first)).setCell ⟨w.heap.size,1,none⟩ rv).setCell ⟨w.heap.size,2,none⟩ pv)):=ZZ (fun g rv pv W he u=>by
  rw[<-he]
  have hk:∀ k,ZjN (w.heap.size+1) rv pv k->(((W.setCell ⟨w.heap.size,0,none⟩ (.int .i64 g.first)).setCell ⟨w.heap.size,1,none⟩ rv).setCell ⟨w.heap.size,2,none⟩ pv).heap[k]?=W.heap[k]?:=fun k hk=>by
   have:=u.far k hk;rw[Below.heap_setCell _ _ _ _ (by show k≠w.heap.size;omega),Below.heap_setCell _ _ _ _ (by show k≠w.heap.size;omega),Below.heap_setCell _ _ _ _ (by show k≠w.heap.size;omega)]
  refine⟨rv,pv,rfl,Qh (ZaS u.log.recs fun k I=>?_) fun k I=>hk k (.inr (.inl I)),Qh (ZaS u.log.pcs fun k I=>?_) fun k I=>hk k (.inr (.inr I)),br.o _ _ _ _ u.old⟩
  ·have:=u.far k (.inr (.inl I))
   omega
  ·have:=u.far k (.inr (.inr I))
   omega)
 go_wp2
 go_loopw[16] (fun vi wr=>∃ (q:Nat) (rv pv:Value),vi=.int .i64 (q:Int)∧q<=m∧Hid (ZfW w t (.slice a1 m K) l rv pv (Jk d kind l q) wr)) (fun vi _=>m-(intOf vi).toNat)
 case atStart=>exact⟨0,_,_,rfl,Nat.zero_le _,aj⟩
 case round=>
  obtain⟨q,rv,pv,rfl,hq,j⟩:=hrel;clear aj;by_cases bo:q<m
  case neg=>
   have e:q=m:=by omega
   have HF:=ZZ (aX.o _ rv pv wr (ZiY d kind l q (e.trans a7.o)) j.o);generalize Jk d kind l q=g at *;obtain⟨ra,rc,aB⟩:=j.o.log.recs.shape;obtain⟨pa,pc,az⟩:=Z8 j.o.log.pcs;subst aB az;obtain⟨x0,-⟩:=j.o.log.blk.cell 0 rfl;obtain⟨x1,-⟩:=j.o.log.blk.cell 1 rfl;obtain⟨x2,-⟩:=j.o.log.blk.cell 2 rfl;obtain⟨z0,y0⟩:=j.o.out.cell 0 rfl;obtain⟨z1,y1⟩:=j.o.out.cell 1 rfl;obtain⟨z2,y2⟩:=j.o.out.cell 2 rfl;subst e;clear j aX;go_wp2;refine bodyPost_ret (v:=.agg #[.int .i64 g.first,.slice ra g.recs.length rc,.slice pa g.pcs.length pc]) (by simp[results,Tryz.results35,go_sem,z0,z1,z2]) rfl ?_
   exact HF.o
  have Q:q<l.length:=by rw[<-a7.o];exact bo
  have bt:(q:Int)<(m:Int):=by omega
  have HS:Hid (Jk d kind l (q+1)=logOne d kind (Jk d kind l q) (l.getD q 0)):=ZZ (ZfV d kind l q Q);have E:=ZZ (aJ.o q);have a0:=ZZ (aJ.o (q+1));obtain⟨nq,aD⟩:∃ nq,nq=l.getD q 0:=⟨_,rfl⟩;obtain⟨ao,cap,bc,-,-,-,-,aq⟩:=j.o.row.rd HI.o
  injection bc with e1 e2 e3
  rcases aq with aq | ⟨bb,ag,a9,hc⟩
  ·rw[aq] at Q;simp at Q
  subst e1;subst a9;have cx:=hc q Q;rw[<-aD] at cx HS
  have bj:Hid (I64 nq):=ZZ (HI.o nq (by
   rw[aD,show l.getD q 0=l[q] by simp[List.getD,Q]]
   exact getElem_mem _))
  clear hc e2 e3 aD;have a5:=ZZ (ba.o nq bj.o wr j.o.old)
  go_wp2_with fail
  refine a5.o.mono ?_;rintro e W2 ⟨v2,rfl,am,aZ⟩;have af:=ZZ (j.o.below aZ);have aO:=ZZ am.rd;obtain⟨a2,c2,bd,-⟩:=am.rd;subst bd;clear am aZ a5 j cx;have aQ:=ZZ (bl.o nq _ W2 aO.o);generalize (Zp d nq).2=er at *;generalize bf:(Zp d nq).1.length=bu at *;clear bf
  go_wp2_with fail
  refine aQ.o.mono ?_;rintro e W3 ⟨x,Y,S,R,rfl,aU,aC⟩;have C:=ZZ (af.o.below aC);have ad:=ZZ aU;clear aU aQ aO;obtain⟨sg,aw⟩:∃ sg,sg=ZoH (Zp d nq).1 kind:=⟨_,rfl⟩;have ac:Hid (Jk d kind l (q+1)=ZzS (Jk d kind l q) nq sg):=ZZ (by rw[HS.o,aw];rfl)
  have ax:=ZZ (bi.o nq);rw[<-aw] at ax ad ⊢;generalize Jk d kind l q=g at *;obtain⟨A,M⟩:∃ A,A=Jk d kind l (q+1):=⟨_,rfl⟩;have aa:=ZZ M;rw[<-M] at ac a0;clear aw HS M
  cases sg with
  | none=>
   have J:Hid (Jk d kind l (q+1)=g):=ZZ (by rw[<-aa.o];exact ac.o)
   simp only [Option.isSome_none];clear aC ad af;go_wp2;go_roundw
   case rel=>exact⟨q+1,rv,pv,by go_num,by omega,ZZ (by rw[J.o];exact C.o)⟩
   case measure=>simp[intOf];omega
  | some fl=>
   obtain⟨f,i⟩:=fl;obtain⟨rfl,aR⟩:=ad.o f i rfl;obtain⟨bB,aY⟩:=ax.o f i rfl;have aP:=ZZ aY;have au:=ZZ aR;have aM:Hid (∀ k,ZjN (w.heap.size+1) rv pv k->k<W2.heap.size):=ZZ af.o.log.ltF;have an:Hid (A=if g.pcs.length=0∨(f:Int)=g.next then(g.start nq f).add i else g):=ZZ ac.o
   simp only [Option.isSome_some];clear aY aR ax ad ac aC
   have Z:Hid (∀ W,ZfW w t (.slice (some ⟨bb,ag,none⟩) m K) l rv pv g W->Xj W W2.heap.size (.slice Y S R) i->Calls prog 53 #[.pointer (some ⟨w.heap.size+1,0,none⟩),.int .i64 nq,.int .i64 (f:Int)] W fun e w'=>e=.returned (.tuple #[])∧∃ D G,Hid (ZfW w t (.slice (some ⟨bb,ag,none⟩) m K) l D G (g.start nq f) w')∧Hid (RdR w' (.slice Y S R) i)):=ZZ (fun W u ho=>by
    refine(Zkz 73 (by decide) (by decide) (w.heap.size+1) 0 _ rv pv g nq f W u.log (by have:=E.o.pl;omega)).mono ?_
    rintro e w' ⟨rfl,hd⟩;obtain⟨D,G,aI,bp⟩:=u.did hd;refine⟨rfl,D,G,ZZ aI,ZZ (Xj.rdF (B:=W2.heap.size) (Qh ho fun k hk=>?_) aP.o)⟩
    have bn:=World.ownsRow.lt ho k hk;refine bp.block k bn.2 fun hf=>?_
    have:=aM.o k hf
    omega)
   have z:Hid (A=(g.start nq f).add i->∀ D G W,ZfW w t (.slice (some ⟨bb,ag,none⟩) m K) l D G (g.start nq f) W->RdR W (.slice Y S R) i->Calls prog 54 #[.pointer (some ⟨w.heap.size+1,0,none⟩),.slice Y S R] W fun e w'=>e=.returned (.tuple #[])∧∃ al aF,Hid (ZfW w t (.slice (some ⟨bb,ag,none⟩) m K) l al aF ((g.start nq f).add i) w')):=ZZ (fun M D G W u hr=>by
    have ay:=a0.o.rl;rw[M] at ay
    have bx:(g.start nq f).recs.length+i.length<=9000000:=by
     have e:((g.start nq f).add i).recs=(g.start nq f).recs++i:=rfl;rw[e,length_append] at ay;exact ay
    have bA:(g.start nq f).pcs.length=g.pcs.length+1:=by
     show(g.pcs++[_]).length=_;simp
    refine(Zve 73 (by decide) (by decide) (w.heap.size+1) 0 _ D G (g.start nq f) (.slice Y S R) i W u.log hr (by omega) (by have:=E.o.pl;omega) (by omega) (fun p hp=>?_)).mono ?_
    ·have hp':p ∈ g.pcs++[(⟨nq,f,f⟩:Pce)]:=hp
     rcases List.mem_append.1 hp' with hp' | hp'
     ·exact E.o.st p hp'
     ·rw[List.mem_singleton.1 hp']
      show(0:Int)<=(f:Int)∧(f:Int)<=4611686018427387904;omega
    ·rintro e w' ⟨rfl,hd⟩
     obtain⟨al,aF,aI,-⟩:=u.did hd
     exact⟨rfl,al,aF,ZZ aI⟩)
   obtain⟨ra,rc,aB⟩:=C.o.log.recs.shape;obtain⟨pa,pc,az⟩:=Z8 C.o.log.pcs;subst aB az;obtain⟨x0,-⟩:=C.o.log.blk.cell 0 rfl;obtain⟨x1,-⟩:=C.o.log.blk.cell 1 rfl;obtain⟨x2,-⟩:=C.o.log.blk.cell 2 rfl;have a8:=E.o.f0;have bD:=E.o.f1;have bv:=E.o.rl;have bw:(g.pcs.length:Int)<=900000:=by have:=E.o.pl;omega
   have bk:g.first+(g.recs.length:Int)<=9000000000000000000:=by omega
   have aS:=ZZ (ZlK (w.heap.size+1) 0 g.first ra g.recs.length rc W3 x0 x1 a8 bk);clear af aM aP;by_cases P:g.pcs.length=0
   ·have be:((g.pcs.length:Int) == 0)=true:=by rw[beq_iff_eq];omega
    have H:A=(g.start nq f).add i:=by rw[an.o,if_pos (.inl P)]
    have J:Hid (Jk d kind l (q+1)=(g.start nq f).add i):=ZZ (by rw[<-aa.o];exact H)
    replace z:=ZZ (z.o H)
    clear H P
    go_wp2_with fail
    refine(Z.o W3 C.o au.o).mono ?_;rintro e W5 ⟨rfl,aG,ak,U,X⟩;clear Z
    go_wp2_with fail
    refine(z.o aG ak W5 U.o X.o).mono ?_;rintro e W6 ⟨rfl,aH,aE,av⟩;clear z X U;go_wp2;go_roundw
    case rel=>exact⟨q+1,aH,aE,by go_num,by omega,ZZ (by rw[J.o];exact av.o)⟩
    case measure=>simp[intOf];omega
   have be:((g.pcs.length:Int) == 0)=false:=beq_eq_false_iff_ne.2 (by omega)
   go_wp2_with fail
   refine aS.o.mono ?_;rintro e W4 ⟨rfl,ar⟩;have aL:=ZZ (C.o.below ar);have bg:=ZZ (au.o.below ar zL);clear ar aS C au x0 x1 x2;by_cases y:(f:Int)=g.first+(g.recs.length:Int)
   ·have bq:((f:Int) == g.first+(g.recs.length:Int))=true:=by rw[beq_iff_eq];exact y
    have H:A=(g.start nq f).add i:=by rw[an.o,if_pos (.inr y)]
    have J:Hid (Jk d kind l (q+1)=(g.start nq f).add i):=ZZ (by rw[<-aa.o];exact H)
    replace z:=ZZ (z.o H)
    clear H P y
    go_wp2_with fail
    refine(Z.o W4 aL.o bg.o).mono ?_;rintro e W5 ⟨rfl,aG,ak,U,X⟩;clear Z
    go_wp2_with fail
    refine(z.o aG ak W5 U.o X.o).mono ?_;rintro e W6 ⟨rfl,aH,aE,av⟩;clear z X U;go_wp2;go_roundw
    case rel=>exact⟨q+1,aH,aE,by go_num,by omega,ZZ (by rw[J.o];exact av.o)⟩
    case measure=>simp[intOf];omega
   ·have bq:((f:Int) == g.first+(g.recs.length:Int))=false:=beq_eq_false_iff_ne.2 y
    have J:Hid (Jk d kind l (q+1)=g):=ZZ (by
     rw[<-aa.o,an.o,if_neg];rintro(h | h)
     ·exact P h
     ·exact y h)
    clear P y Z z;go_wp2;go_roundw
    case rel=>exact⟨q+1,_,_,by go_num,by omega,ZZ (by rw[J.o];exact aL.o)⟩
    case measure=>simp[intOf];omega
theorem Zzg:(prog.info? 41).map (fun i=>(i.zero,i.size,i.bytes))=some (some (.agg #[.int .i64 0,.int .i64 0,.slice none 0 0,.bool false,.int .i64 0,.slice none 0 0]),6,80):=by kernel_rfl
def SlX (x:Q0 × Value × Value):Prop:=∃ a n c a' n' c',x.2.1=.slice a n c∧x.2.2=.slice a' n' c'
theorem Zqd (l:List (Q0 × Value × Value)) (h:∀ x ∈ l,SlX x):∀ u ∈ Xv l,u.oneCell'=true:=by
 induction l with
 | nil=>intro u hu;cases hu
 | cons c l d=>
  intro u hu;rw[Xv] at hu;rcases List.mem_append.1 hu with hu | hu
  ·obtain⟨a,n,k,a',n',g,e,b⟩:=h c (List.mem_cons_self ..)
   unfold snC at hu;rw[e,b] at hu;simp only [List.mem_cons,List.not_mem_nil,or_false] at hu;rcases hu with rfl | rfl | rfl | rfl | rfl | rfl <;> rfl
  ·exact d (fun x f=>h x (List.mem_cons_of_mem _ f)) u hu
theorem ZeX (w:World) (ty:TypeId) (v:Value) (l:List (Q0 × Value × Value)) (h:w.ownsRow 0 41 6 v l.length (Xv l)) (c:Q0 × Value × Value) (g:SlX c) (q:l.length<=10000000):
 ∃ v' w',(Builtin.append_ #[74,74] ty #[v,.slice (some ⟨w.heap.size,0,none⟩) 1 1]).run prog (w.alloc (.cells (snC c) 41))=.ok v' w'∧
  w'.ownsRow 0 41 6 v' (l++[c]).length (Xv (l++[c]))∧(w.alloc (.cells (snC c) 41)).grownBy w' v.ownBlock∧(v'.ownBlock=v.ownBlock∨v'.ownBlock=some (w.heap.size+1)):=by
 obtain⟨k,d,m,b,n⟩:=info_parts Zzg
 obtain⟨v',w',f,e,i,_,hl⟩:=run_append_own_at (P:=prog) (w.alloc (.cells (snC c) 41)) 0 74 ty 41 k _ 6 80 underlying74 d m b n rfl (by decide) v l.length (Xv l) (World.ownsRow.alloc h _)
  ⟨w.heap.size,0,none⟩ 1 1 (Xv [c]) (Zdv [c]) (fun j u a=>by
   rw[Addr.add_lit,Nat.zero_add,cell_of_row _ w.heap.size j _ 41 (0,0) (heap_alloc_new w _)]
   simpa[Xv] using a) (Zqd [c] (fun x p=>by rw[List.mem_singleton.1 p];exact g)) (by unfold maxLen;omega) (by omega) (Nat.zero_le _)
 refine⟨v',w',f,?_,i,?_⟩
 ·rw[length_append,Zip]
  exact e
 ·rcases hl with hl | hl
  ·exact .inl hl
  ·exact .inr (by rw[hl];simp)
theorem ZgN (w:World) {b:Array Oper} {rest:List Oper} {o:Oper} {a:Act} {Q:Exit->Act->World->Prop} (n:o.guard=none) (s x:Operand)
 (k:o.op=.call { callee:=.builtin .append,args:=#[s,x],argTypes:=#[74,74] })
 (v:Value) (l:List (Q0 × Value × Value)) (p:a.eval s=v) (h:w.ownsRow 0 41 6 v l.length (Xv l)) (c:Q0 × Value × Value) (m:SlX c) (q:a.eval x=.slice (some ⟨w.heap.size,0,none⟩) 1 1) (j:l.length<=10000000)
 (f:∀ v' w',w'.ownsRow 0 41 6 v' (l++[c]).length (Xv (l++[c]))->(w.alloc (.cells (snC c) 41)).grownBy w' v.ownBlock->(v'.ownBlock=v.ownBlock∨v'.ownBlock=some (w.heap.size+1))->
  wpList prog b Q rest (a.put o.dst v') w'):wpList prog b Q (o::rest) a (w.alloc (.cells (snC c) 41)):=
 wpList_plain n fun _ d=>by
  obtain⟨v',w',t,g,i,e⟩:=ZeX w o.type v l h c m j;unfold Oper.wp execOp;simp only [k,resolve,invoke,builtin,Sem.run_bind,Sem.run_pure,Result.andThen_ok,map_toArray,map_cons,map_nil,p,q,t];exact d _ _ (f v' w' g i e)
theorem ZeY:∀ (a b:List (SDk->SDk × Int)) (x:SDk),Qv (a++b) x=if(Qv a x).2=0 then Qv b (Qv a x).1 else Qv a x
 | [],b,x=>by simp[Qv]
 | f::a,b,x=>by
  rw[List.cons_append,Qv,Qv];by_cases h:(f x).2=0
  ·rw[if_pos h,if_pos h]
   exact ZeY a b _
  ·rw[if_neg h,if_neg h,if_neg h]
def ZdY (y:SDk):SDk × Int:=(y,0)
theorem Zdm (g:SDk->SDk × Int) (y:SDk):(Qv [g] y).1=(g y).1∧(Qv [g] y).2=(g y).2:=by
 unfold Qv;split
 ·rename_i h
  exact⟨rfl,h.symm⟩
 ·exact⟨rfl,rfl⟩
theorem Zrg {α:Type} {l:List α} {i:Nat} (a:i<l.length) (z:α):l.take (i+1)=l.take i++[l.getD i z]:=by
 rw[List.take_succ_eq_append_getElem a]
 congr 2
 simp[List.getD,a]
theorem ZnZ (gs:List (SDk->SDk × Int)) (x:SDk) (i:Nat) (a:i<gs.length) (b:(Qv (gs.take i) x).2=0):
 (Qv (gs.take (i+1)) x).1=(gs.getD i ZdY (Qv (gs.take i) x).1).1∧(Qv (gs.take (i+1)) x).2=(gs.getD i ZdY (Qv (gs.take i) x).1).2:=by
 rw[Zrg a ZdY,ZeY,if_pos b];exact Zdm _ _
theorem ZvN (gs:List (SDk->SDk × Int)) (x:SDk) (i:Nat) (e:i<gs.length) (f:(Qv (gs.take i) x).2=0) (c:(gs.getD i ZdY (Qv (gs.take i) x).1).2≠0):
 (Qv gs x).1=(gs.getD i ZdY (Qv (gs.take i) x).1).1∧(Qv gs x).2=(gs.getD i ZdY (Qv (gs.take i) x).1).2:=by
 have b:=ZnZ gs x i e f
 have d:Qv gs x=Qv (gs.take (i+1)) x:=by
  have a:=ZeY (gs.take (i+1)) (gs.drop (i+1)) x;rw[List.take_append_drop,if_neg (by rw[b.2];exact c)] at a
  exact a
 rw[d];exact b
def Ztk (K0 Kc:Nat->Prop) (pd p:Nat) (r:SDk × Int) (N T:Nat) (X:(Nat->Prop)->World->Prop) (W:World) (e:Ending) (w':World):Prop:=
 e=.returned (.int .i64 r.2)∧∃ Kd:Nat->Prop,(∀ k,Kc k->Kd k)∧(∀ k,Kd k->k<w'.heap.size)∧Ql (fun k=>¬ K0 k) W w'∧SD Kd w' pd p r.1.1 r.1.2 N T∧(r.2=0->X Kd w')
theorem ZvO {K2:Nat->Prop} (b cap:Nat) (fs:Nat->Stp) (gs:List (SDk->SDk × Int)) (x:SDk) (N T n f:Nat) (w:World) (X:Nat->(Nat->Prop)->World->Prop) (H:gs.length<=1000000)
 (K:K0 b) (cs:Array Value) (G:Bk 153 w b cs) (I:∀ i,i<gs.length->cs[i]?=some (fs i).val)
 (S:∀ k,K2 k->k<w.heap.size) (U:SD K2 w pd p x.1 x.2 N T) (P:X 0 K2 w)
 (Q:∀ i,i<gs.length->∀ (a:Nat->Prop) W,(∀ k,K2 k->a k)->(∀ k,a k->k<W.heap.size)->Ql (fun k=>¬ K0 k) w W->(Qv (gs.take i) x).2=0->SD a W pd p (Qv (gs.take i) x).1.1 (Qv (gs.take i) x).1.2 (N+n*i) (T+f*i)->X i a W->
  Calls prog (fs i).g ((fs i).bd++(fs i).cp) W fun e w'=>Ztk K0 a pd p (gs.getD i ZdY (Qv (gs.take i) x).1) (N+n*i+n) (T+f*i+f) (X (i+1)) W e w')
 (J:∀ i,i<gs.length->∀ args W,(callFunc (fs i).g args).run prog W=.ok (.enter (fs i).g args) W):
 Calls prog 62 #[.slice (some ⟨b,0,none⟩) gs.length cap] w fun e w'=>Ztk K0 K2 pd p (Qv gs x) (N+n*gs.length) (T+f*gs.length) (fun _ _=>True) w e w':=by
 refine(Znx b 0 cap gs.length fs w
  (fun i W=>(Qv (gs.take i) x).2=0∧∃ a:Nat->Prop,(∀ k,K2 k->a k)∧(∀ k,a k->k<W.heap.size)∧Ql (fun k=>¬ K0 k) w W∧SD a W pd p (Qv (gs.take i) x).1.1 (Qv (gs.take i) x).1.2 (N+n*i) (T+f*i)∧X i a W)
  (fun c W=>(Qv gs x).2=c∧∃ a:Nat->Prop,(∀ k,K2 k->a k)∧(∀ k,a k->k<W.heap.size)∧Ql (fun k=>¬ K0 k) w W∧SD a W pd p (Qv gs x).1.1 (Qv gs x).1.2 (N+n*gs.length) (T+f*gs.length)) H ?_ ?_ J ?_).mono ?_
 ·rintro i W j ⟨-,a,-,-,L,-⟩
  rw[Nat.zero_add];exact((G.keep (L.block b G.lt (fun V=>V K))).cell i (I i j)).1
 ·rintro i W j ⟨t,a,l,u,m,q,O⟩
  refine(Q i j a W l u m t q O).mono ?_;rintro e w' ⟨rfl,D,E,C,B,F,M⟩;refine⟨_,rfl,fun d=>?_,fun d=>?_⟩
  ·obtain⟨A,v⟩:=ZnZ gs x i j t
   refine⟨by rw[v];exact d,D,fun k z=>E k (l k z),C,m.trans B (fun _ _ h=>h),?_,M d⟩
   rw[A,Nat.mul_succ,Nat.mul_succ,<-Nat.add_assoc,<-Nat.add_assoc];exact F
  ·obtain⟨A,v⟩:=ZvN gs x i j t d
   refine⟨v,D,fun k z=>E k (l k z),C,m.trans B (fun _ _ h=>h),?_⟩
   rw[A];refine F.mono ?_ ?_
   ·have:=Nat.mul_le_mul_left n (show i+1<=gs.length from j)
    rw[Nat.mul_succ] at this;omega
   ·have:=Nat.mul_le_mul_left f (show i+1<=gs.length from j)
    rw[Nat.mul_succ] at this;omega
 ·exact⟨rfl,K2,fun _ h=>h,S,Ql.refl _ _,by rw[Nat.mul_zero,Nat.mul_zero];exact U,P⟩
 ·rintro e w' ⟨c,rfl,t,R⟩
  by_cases y:c=0
  ·obtain⟨d,a,l,u,m,q,-⟩:=t y
   rw[List.take_length] at d q;exact⟨by rw[d,y],a,l,u,m,q,fun _=>trivial⟩
  ·obtain⟨d,a,l,u,m,q⟩:=R y
   exact⟨by rw[d],a,l,u,m,q,fun _=>trivial⟩
theorem Jz.seqD {a:Nat->Prop} {r:SDk × Int} {N' T':Nat} {X:(Nat->Prop)->World->Prop} {e:Ending} (h:Jz a W pd p r N T e w') (d:∀ k,a k->k<W.heap.size) (i:∀ k,K0 k->a k) (j:N<=N') (l:T<=T') (m:Ql (fun k=>¬ a k) W w'->X a w'):Ztk K0 a pd p r N' T' X W e w':=by
 obtain⟨rfl,g,b⟩:=h;exact⟨rfl,a,fun _ h=>h,fun k c=>Nat.lt_of_lt_of_le (d k c) b.size,b.mono (fun k c f=>c (i k f)),g.mono j l,fun _=>m b⟩
theorem Rd.keepK {l:List UInt8} (h:Rd w v l) (hv:l=[]∨∀ k,v.ownBlock=some k->K k) (d:Ql (fun k=>¬ K k) w w'):Rd w' v l:=by
 rcases hv with rfl | hv
 ·obtain⟨ao,cap,rfl,b,c,e,g⟩:=h
  exact⟨ao,cap,rfl,b,c,e,.inl rfl⟩
 ·exact h.only d fun k a f=>f (hv k a)
def Gb (n:Q0):List UInt8:=if Z6 n then ZjA n else[]
theorem Ztl (n:Q0):(Gb n).length<=80000:=by
 unfold Gb;split
 ·rename_i h
  unfold ZjA ZaI;rw[Q8,length_append];have b:=Zay h;have e:=Zey (i:=n.idx.toNat) (by have:=h.1;omega) (w:=Xt n) (by omega)
  have c:=J7 (d:=Zbn n.idx.toNat (Xt n)) (by omega)
  have a:=Zaq _ (Xt n) zL;omega
 ·exact Nat.zero_le _
theorem Zqe {v0:Value} (w:World) (h:SD K w pd p s d N T) (hR:w.cell? ⟨R,0,none⟩=some (ptr p)) (z:Bk 53 w Rb #[v0]) (W:K Rb):
 Calls prog 55 #[.pointer (some ⟨R,0,none⟩),.pointer (some ⟨Rb,0,none⟩)] w fun e w'=>e=.returned (.int .i64 (if Z6 s.now then 0 else 1))∧∃ v',Bk 53 w' Rb #[v']∧Rd w' v' (Gb s.now)∧(∀ k,v'.ownBlock=some k->w.heap.size<=k∧k<w'.heap.size)∧
  SD (fun k=>K k∨(w.heap.size<=k∧k<w'.heap.size)) w' pd p s d N T∧Ql (fun k=>k=Rb) w w':=by
 have HS:=ZZ h;have n:=ZZ z;have ae:=ZZ W;obtain⟨F,M,I,L,h1,j,-⟩:=h;have C:=ZZ (ZpI (snV (L.nx s)) s.now w j.now.snV);obtain⟨c0,-,-,-,-,⟨c5,c6,Z,c8,c9,ad⟩,-⟩:=j.cs;obtain⟨q,t,lc,u,B,A,P,X⟩:=j.now.shape;have D:L.nl=.slice q t lc:=P;have l:L.nt=.slice u B A:=X;have O:Hid (snV (L.nx s)=.agg #[.int .i64 s.now.idx,.int .i64 s.now.st.kind,.slice q t lc,.bool s.now.st.shut,.int .i64 s.now.st.eng,.slice u B A]):=ZZ (by unfold snV snC ZdU.nx;rw[D,l])
 rw[O.o] at C;rw[D] at Z;rw[l] at ad;obtain⟨E,v⟩:∃ E:Int,E=if Z6 s.now then 0 else 1:=⟨_,rfl⟩
 have Y:Hid (Calls prog 56 #[.agg #[.int .i64 s.now.idx,.int .i64 s.now.st.kind,.slice q t lc,.bool s.now.st.shut,.int .i64 s.now.st.eng,.slice u B A]] w fun e w'=>∃ v',e=.returned (.tuple #[v',.int .i64 E])∧Own w' w.heap.size v' (Gb s.now)∧Below w.heap.size w w'):=ZZ (by rw[v];exact C.o)
 rw[<-v];have ac:Hid (Gb s.now=Gb s.now):=ZZ rfl;generalize Gb s.now=J at *;generalize s.now.idx=n0 at *;generalize s.now.st.kind=n1 at *;generalize s.now.st.shut=n2 at *;generalize s.now.st.eng=n3 at *;obtain⟨b0,f0⟩:=z.cell 0 rfl;clear h1 j P X D l O C v ac z W
 go_enter func55,ntmps55
 go_wp2_with fail
 refine Y.o.mono ?_;rintro e a ⟨v',rfl,m,y⟩;have V:=ZZ y;have G:=ZZ m;have H:=ZZ (n.o.keep (y.block _ n.o.lt));obtain⟨f,g,Q,-⟩:=m.rd;generalize aa:J.length=c at Q;clear aa;subst Q;obtain⟨b1,f1⟩:=H.o.cell 0 rfl
 have ab:Hid (∃ v',Bk 53 (a.setCell ⟨Rb,0,none⟩ (.slice f c g)) Rb #[v']∧Rd (a.setCell ⟨Rb,0,none⟩ (.slice f c g)) v' J∧(∀ k,v'.ownBlock=some k->w.heap.size<=k∧k<(a.setCell ⟨Rb,0,none⟩ (.slice f c g)).heap.size)∧
  SD (fun k=>K k∨(w.heap.size<=k∧k<(a.setCell ⟨Rb,0,none⟩ (.slice f c g)).heap.size)) (a.setCell ⟨Rb,0,none⟩ (.slice f c g)) pd p s d N T∧Ql (fun k=>k=Rb) w (a.setCell ⟨Rb,0,none⟩ (.slice f c g))):=ZZ (by
  have U:(a.setCell ⟨Rb,0,none⟩ (.slice f c g)).heap.size=a.heap.size:=ZqD _ _ _ _;have S:=World.ownsRow.lt G.o;have af:=n.o.lt;have x:Ql (fun k=>k=Rb) a (a.setCell ⟨Rb,0,none⟩ (.slice f c g)):=(Ql.refl (fun k=>k=Rb) a).setCell (b:=Rb) 0 (fun _=>rfl) _
  refine⟨_,H.o.set 0 _,?_,fun k i=>by rw[U];exact S k i,?_,(Ql.ofBelow V.o).trans x (fun _ _ h=>h)⟩
  ·exact G.o.rd.only x fun k i e=>by
    have:=S k i;omega
  ·rw[U]
   exact(HS.o.fresh V.o).onlyK (x.mono (fun k i=>by rw[i];exact .inl ae.o)))
 clear m y;go_wp2;go_ret;exact⟨rfl,ab.o⟩
theorem Ztm (w:World) (h:SD K w pd p s d N T) (f:∀ k,K k->k<w.heap.size) (P:w.cell? ⟨R,0,none⟩=some (ptr p)) (i:Bk 53 w Rb #[v]) (a:Rd w v (Gb s.now)) (j:Gb s.now=[]∨∀ k,v.ownBlock=some k->K k) (z:N<=1000000) (E:T<=1000000000):
 Calls prog 57 #[.pointer (some ⟨R,0,none⟩),.pointer (some ⟨Rb,0,none⟩)] w fun e w'=>Jz K w pd p (ZbN (s,d)) (N+2) (T+80000) e w':=by
 have g:Hid (∀ W,Below w.heap.size w W->Calls prog 52 #[ptr pd,.int .i64 1,v] W fun e w'=>Jz K W pd p (ZbN (s,d)) (N+2) (T+80000) e w'):=ZZ (fun W b=>(h.below b).step (fun d=>Qy d 1 (Gb s.now)) (fun k c=>Nat.lt_of_lt_of_le (f k c) b.size) (fun F B A=>by
  have J:=Ztl s.now;refine(Zkj 1 ⟨by decide,by decide⟩ v (Gb s.now) W B (a.below b zL) (j.imp id fun h k c x=>A k x (h k c)) z E (by omega)).mono ?_
  rintro e w' ⟨D,F',C,G⟩
  exact⟨D,F',C.mono zL (by omega),G⟩))
 obtain⟨⟨L,-⟩,-⟩:=h.cells;have l:Hid (Below w.heap.size w w.drew):=ZZ (Below.refl _ _).drew;obtain⟨I,-⟩:=i.cell 0 rfl;obtain⟨M,O,n,-⟩:=id a;generalize y:(Gb s.now).length=Q at n;obtain⟨r,t⟩:∃ r,r=ZbN (s,d):=⟨_,rfl⟩;rw[<-t] at g ⊢;subst n;clear h f t a j i y
 go_enter func57,ntmps57
 go_upto_region 1 with fail
 go_region_with(first | (go_at_call 52;refine(g.o _ l.o).mono ?_;rintro e H ⟨rfl,m,u⟩;have q:=ZZ (And.intro m u);clear m u))
 all_goals
  go_wp2;go_ret;exact⟨rfl,q.o.1,(Ql.ofBelow l.o).trans q.o.2 (fun _ _ h=>h)⟩
theorem Zzh:(prog.info? 153).map (fun i=>(i.zero,i.size,i.bytes))=some (some .nilFunc,1,8):=by kernel_rfl
def Za (l:List Stp):List Value:=l.map Stp.val
theorem ZjX (l:List Stp):(Za l).length=l.length*1:=by simp[Za]
theorem Zqf (l:List Stp):∀ u ∈ Za l,u.oneCell'=true:=fun u a=>by
 obtain⟨s,-,rfl⟩:=List.mem_map.1 a;rfl
theorem Zmi (w:World) (ty:TypeId) (v:Value) (l:List Stp) (h:w.ownsRow 0 153 1 v l.length (Za l)) (c:Stp) (p:l.length<=10000000):
 ∃ v' w',(Builtin.append_ #[106,106] ty #[v,.slice (some ⟨w.heap.size,0,none⟩) 1 1]).run prog (w.alloc (.cells #[c.val] 153))=.ok v' w'∧
  w'.ownsRow 0 153 1 v' (l++[c]).length (Za (l++[c]))∧(w.alloc (.cells #[c.val] 153)).grownBy w' v.ownBlock∧(v'.ownBlock=v.ownBlock∨v'.ownBlock=some (w.heap.size+1)):=by
 obtain⟨k,d,m,b,n⟩:=info_parts Zzh
 obtain⟨v',w',g,f,i,_,hl⟩:=run_append_own_at (P:=prog) (w.alloc (.cells #[c.val] 153)) 0 106 ty 153 k _ 1 8 underlying106 d m b n rfl (by decide) v l.length (Za l) (World.ownsRow.alloc h _)
  ⟨w.heap.size,0,none⟩ 1 1 (Za [c]) (ZjX [c]) (fun j u a=>by
   rw[Addr.add_lit,Nat.zero_add,cell_of_row _ w.heap.size j _ 153 (0,0) (heap_alloc_new w _)]
   simpa[Za] using a) (Zqf [c]) (by unfold maxLen;omega) (by omega) (Nat.zero_le _)
 refine⟨v',w',g,?_,i,?_⟩
 ·have e:Za (l++[c])=Za l++Za [c]:=by simp[Za]
  rw[length_append,e];exact f
 ·rcases hl with hl | hl
  ·exact .inl hl
  ·exact .inr (by rw[hl];simp)
theorem Zcv (w:World) {b:Array Oper} {rest:List Oper} {o:Oper} {a:Act} {Q:Exit->Act->World->Prop} (m:o.guard=none) (s x:Operand)
 (k:o.op=.call { callee:=.builtin .append,args:=#[s,x],argTypes:=#[106,106] })
 (v:Value) (l:List Stp) (n:a.eval s=v) (h:w.ownsRow 0 153 1 v l.length (Za l)) (c:Stp) (p:a.eval x=.slice (some ⟨w.heap.size,0,none⟩) 1 1) (j:l.length<=10000000)
 (f:∀ v' w',w'.ownsRow 0 153 1 v' (l++[c]).length (Za (l++[c]))->(w.alloc (.cells #[c.val] 153)).grownBy w' v.ownBlock->(v'.ownBlock=v.ownBlock∨v'.ownBlock=some (w.heap.size+1))->
  wpList prog b Q rest (a.put o.dst v') w'):wpList prog b Q (o::rest) a (w.alloc (.cells #[c.val] 153)):=
 wpList_plain m fun _ d=>by
  obtain⟨v',w',q,g,i,e⟩:=Zmi w o.type v l h c j;unfold Oper.wp execOp;simp only [k,resolve,invoke,builtin,Sem.run_bind,Sem.run_pure,Result.andThen_ok,map_toArray,map_cons,map_nil,n,p,q];exact d _ _ (f v' w' g i e)
theorem Jq.ofLogZ {M I Z:Nat->Prop} {L:ZdU} {b c:Value} (h:Jq M I w p pd L s) (t:∀ k,Z k->¬ I k)
 (a:Zix 76 w' p 1 ((((stC pd L s).setIfInBounds 1 (.int .i64 g.first)).setIfInBounds (1+1) b).setIfInBounds (1+2) c) b c g) (m:Ql (fun k=>k=p) w w') (j:∀ k,ZjN p b c k->ZjN p L.rv L.pv k∨Z k):
 ∃ M' L',Jq M' I w' p pd L' { s with log:=g }∧Ql M w w'∧∀ k,M' k->M k∨Z k:=by
 have f:Ql M w w':=m.mono (fun k hk=>by rw[hk];exact h.mh)
 have n:∀ k,I k->w'.heap[k]?=w.heap[k]?:=fun k hk=>f.block k (h.ltI k hk) fun a=>h.dis k a hk
 have u:((((stC pd L s).setIfInBounds 1 (.int .i64 g.first)).setIfInBounds (1+1) b).setIfInBounds (1+2) c)=stC pd { L with rv:=b,pv:=c } { s with log:=g }:=rfl
 rw[u] at a
 have v:∀ k,ZjN p b c k->k<w'.heap.size:=fun k hk=>by
  rcases hk with rfl | hk | hk
  ·exact a.blk.lt
  ·obtain⟨l,d⟩:=X0 a.recs hk
   exact d.lt
  ·obtain⟨l,d⟩:=X0 a.pcs hk
   exact d.lt
 refine⟨fun k=>M k∨ZjN p b c k,{ L with rv:=b,pv:=c },⟨a.blk,a.recs,a.pcs,Qh h.bases fun k hk=>?_,h.bsEq,h.now.keep h.inow n,fun x q=>(h.base x q).keep (h.ibase x q) n,.inr (.inl rfl),fun k hk=>.inr (.inr (.inl hk)),fun k hk=>.inr (.inr (.inr hk)),fun k hk=>.inl (h.mb k hk),h.inow,h.ibase,fun k hk=>?_,fun k hk=>Nat.lt_of_lt_of_le (h.ltI k hk) f.size,fun k hk i=>?_⟩,f,fun k hk=>?_⟩
 ·obtain⟨l,d⟩:=X0 h.bases hk
  exact m.block k d.lt (fun e=>by
   subst e
   exact(d.ne h.head (by decide)) rfl)
 ·rcases hk with hk | hk
  ·exact Nat.lt_of_lt_of_le (h.ltM k hk) f.size
  ·exact v k hk
 ·rcases hk with hk | hk
  ·exact h.dis k hk i
  ·rcases j k hk with h1 | h1
   ·exact h.dis k (h.logF k h1) i
   ·exact t k h1 i
 ·rcases hk with hk | hk
  ·exact .inl hk
  ·rcases j k hk with h1 | h1
   ·exact .inl (h.logF k h1)
   ·exact .inr h1
theorem SD.letGo {g:Nat->Prop} (h:SD g w pd p s d N T) (c:∀ k,K k->g k) (J:∀ k,g k->k<w.heap.size) (b:Value) (left:List Pce) (base:Int)
 (A:w.ownsRow 0 108 3 b left.length (Q6 left)) (x:∀ k,b.ownBlock=some k->g k∧¬ K k)
 (P:left.length<=1000000) (D:s.log.recs.length<=1000000) (v:∀ r ∈ s.log.recs,Zcx r) (O:s.log.first<=Zg left base) (z:Zg left base<=s.log.first+s.log.recs.length) (B:0<=s.log.first) (H:s.log.first+s.log.recs.length<=4611686018427387904):
 Calls prog 70 #[.pointer (some ⟨p,1,none⟩),b,.int .i64 base] w fun e w'=>e=.returned (.tuple #[])∧SD K w' pd p { s with log:=s.log.letGo left base } d N T∧Ql (fun k=>¬ K k) w w':=by
 obtain⟨F,M,I,L,q,f,l,i,t,m,y⟩:=h;refine(Zvg 76 (by decide) p 1 (stC pd L s) L.rv L.pv s.log b left base w f.toLog A P D v O z B H).mono ?_
 rintro e w' ⟨rfl,R,G,C,Q⟩
 have j:∀ k,(b.ownBlock=some k∨w.heap.size<=k)->¬ K k∧¬ F k∧¬ M k∧¬ I k:=fun k hk=>by
  rcases hk with hk | hk
  ·have a:=x k hk
   exact⟨a.2,fun hx=>l k hx a.1,fun hx=>i k hx a.1,fun hx=>t k hx a.1⟩
  ·refine⟨fun hx=>?_,fun hx=>?_,fun hx=>?_,fun hx=>?_⟩
   ·have:=J k (c k hx);omega
   ·have:=q.ltF k hx;omega
   ·have:=f.ltM k hx;omega
   ·have:=f.ltI k hx;omega
 obtain⟨M',L',E,u,n⟩:=f.ofLogZ (Z:=fun k=>b.ownBlock=some k∨w.heap.size<=k) (fun k hk=>(j k hk).2.2.2) G C (fun k hk=>by
  rcases hk with hk | hk | hk
  ·exact .inl (.inl hk)
  ·exact .inr (.inr (Q k hk))
  ·exact .inr (.inl hk))
 refine⟨rfl,⟨F,M',I,L',q.only u m,E,fun k hk a=>l k hk (c k a),fun k hk a=>?_,fun k hk a=>t k hk (c k a),fun k hk a=>?_,y⟩,u.mono (fun k hk a=>i k hk (c k a))⟩
 ·rcases n k hk with hx | hx
  ·exact i k hx (c k a)
  ·exact(j k hx).1 a
 ·rcases n k a with hx | hx
  ·exact m k hk hx
  ·exact(j k hx).2.1 hk
theorem Zqg {m:Nat} (a:Int) (w:World) (h:SD K w pd p s d N T) (b:∀ k,K k->k<w.heap.size) (B:w.cell? ⟨R,0,none⟩=some (ptr p)) (A:w.cell? ⟨m,0,none⟩=some (.int .i64 a)) (c:I64 a) (g:N<=1000000) (q:T<=1000000000):
 Calls prog 68 #[.pointer (some ⟨R,0,none⟩),.pointer (some ⟨m,0,none⟩)] w fun e w'=>Jz K w pd p (Xm (fun d=>Qj d a) (s,d)) (N+2) T e w':=by
 have f:Hid (∀ W,Below w.heap.size w W->Calls prog 69 #[ptr pd,.int .i64 a] W fun e w'=>Jz K W pd p (Xm (fun d=>Qj d a) (s,d)) (N+2) T e w'):=ZZ (fun W i=>(h.below i).step (fun d=>Qj d a) (fun k x=>Nat.lt_of_lt_of_le (b k x) i.size) (fun F v _=>Zkk a c _ v g q))
 obtain⟨⟨z,-⟩,-⟩:=h.cells;have j:Hid (Below w.heap.size w w.drew):=ZZ (Below.refl _ _).drew;obtain⟨r,t⟩:∃ r,r=Xm (fun d=>Qj d a) (s,d):=⟨_,rfl⟩
 rw[<-t] at f ⊢;clear h b t c g q
 go_enter func68,ntmps68
 go_upto_region 1 with fail
 go_region_with(first | (go_at_call 69;refine(f.o _ j.o).mono ?_;rintro e y ⟨rfl,l,u⟩;have n:=ZZ (And.intro l u);clear l u))
 all_goals
  go_wp2;go_ret;exact⟨rfl,n.o.1,(Ql.ofBelow j.o).trans n.o.2 (fun _ _ h=>h)⟩
theorem Zgw (q:Pce->Bool) (l:List Pce) (j:Nat) (a:j<l.length):(l.take (j+1)).filter q=(l.take j).filter q++if q (l.getD j Zj)=true then[l.getD j Zj] else[]:=by
 rw[Zrg a Zj,List.filter_append]
 congr 1
 rw[List.filter_cons];split <;> rfl
def ZjC (R b:Nat):Stp:=⟨68,#[],#[.pointer (some ⟨R,0,none⟩),.pointer (some ⟨b,0,none⟩)]⟩
structure ZdZ (w:World) (R:Nat) (gone left:List Pce) (bx:List Nat) (vs vl:Value) (wr:World):Prop where
 len:bx.length=gone.length
 row:wr.ownsRow 0 153 1 vs (bx.map (ZjC R)).length (Za (bx.map (ZjC R)))
 far:∀ k,vs.ownBlock=some k->w.heap.size<=k
 lrow:wr.ownsRow 0 108 3 vl left.length (Q6 left)
 lfar:∀ k,vl.ownBlock=some k->w.heap.size<=k
 box:∀ j,j<bx.length->w.heap.size<=bx.getD j 0∧vl.ownBlock≠some (bx.getD j 0)∧Bk 108 wr (bx.getD j 0) (pcC (gone.getD j Zj))
 old:Below w.heap.size w wr
theorem ZdZ.start (w:World) (R:Nat):ZdZ w R [] [] [] (.slice none 0 0) (.slice none 0 0) w:=
 ⟨rfl,⟨rfl,.inl ⟨rfl,rfl⟩⟩,(fun k a=>by cases a),⟨rfl,.inl ⟨rfl,rfl⟩⟩,(fun k a=>by cases a),fun j b=>absurd b (Nat.not_lt_zero _),Below.refl _ _⟩
theorem ZdZ.below {d:List Nat} {e:Value} (h:ZdZ w R gone left d vs e wr) (a:Below wr.heap.size wr w'):ZdZ w R gone left d vs e w':=
 ⟨h.len,Qh h.row fun g c=>a.block g (World.ownsRow.lt h.row g c).2,h.far,Qh h.lrow fun g c=>a.block g (World.ownsRow.lt h.lrow g c).2,h.lfar,fun j b=>⟨(h.box j b).1,(h.box j b).2.1,(h.box j b).2.2.keep (a.block _ (h.box j b).2.2.lt)⟩,h.old.trans (a.mono h.old.size)⟩
theorem ZiZ {α:Type} (l:List α) (x z:α) (j:Nat) (a:j<l.length):(l++[x]).getD j z=l.getD j z:=by
 simp[List.getD,List.getElem?_append_left a]
theorem Zja {α:Type} (l:List α) (x z:α):(l++[x]).getD l.length z=x:=by
 simp[List.getD]
theorem ZdZ.step {d:List Nat} {t:Value} (h:ZdZ w R gone left d vs t wr) (c:Pce) (a:Below wr.heap.size wr W) (D:Bk 108 W wr.heap.size (pcC c))
 (F:W'.ownsRow 0 153 1 v' (d.map (ZjC R)++[ZjC R wr.heap.size]).length (Za (d.map (ZjC R)++[ZjC R wr.heap.size]))) (i:(W.alloc (.cells #[(ZjC R wr.heap.size).val] 153)).grownBy W' vs.ownBlock) (h3:v'.ownBlock=vs.ownBlock∨v'.ownBlock=some (W.heap.size+1)):
 ZdZ w R (gone++[c]) left (d++[wr.heap.size]) v' t W':=by
 have p:(W.alloc (.cells #[(ZjC R wr.heap.size).val] 153)).heap.size=W.heap.size+1:=by simp
 have J:=a.size;have y:=h.old.size;have I:W.heap.size+1<=W'.heap.size:=by have:=i.size;rw[p] at this;exact this
 have u:∀ k,vs.ownBlock=some k->∃ cs,Bk 153 wr k cs:=fun k f=>X0 h.row f
 have f:∀ k,k<W.heap.size->vs.ownBlock≠some k->W'.heap[k]?=W.heap[k]?:=fun k f H=>by
  rw[i.block k (by rw[p];omega) (fun e=>H e.symm)]
  exact Below.heap_alloc _ _ _ (by omega)
 have v:∀ {k:Nat} {cs:Array Value},Bk 108 W k cs->Bk 108 W' k cs:=fun {k cs} b=>b.keep (f k b.lt (fun e=>by
  obtain⟨B,l⟩:=u k e
  exact b.ne (l.keep (a.block _ l.lt)) (by decide) rfl))
 refine⟨by rw[length_append,length_append,h.len];rfl,?_,fun k m=>?_,?_,h.lfar,fun j n=>?_,?_⟩
 ·rw[List.map_append]
  exact F
 ·rcases h3 with h3 | h3
  ·exact h.far k (by rw[<-h3];exact m)
  ·rw[h3] at m
   have:=Option.some.inj m;omega
 ·refine Qh h.lrow fun g A=>?_
  obtain⟨cs,b⟩:=X0 h.lrow A
  rw[f g (by have:=b.lt;omega) (fun e=>by
   obtain⟨B,l⟩:=u g e
   exact b.ne l (by decide) rfl)]
  exact a.block g b.lt
 ·rw[length_append] at n
  by_cases e:j<d.length
  ·rw[ZiZ _ _ _ _ e,ZiZ _ _ _ _ (by rw[<-h.len];exact e)]
   obtain⟨z,G,q⟩:=h.box j e;exact⟨z,G,v (q.keep (a.block _ q.lt))⟩
  ·have x:j=d.length:=by simp at n;omega
   rw[x,Zja,h.len,Zja];refine⟨y,fun E=>?_,v D⟩
   have:=(World.ownsRow.lt h.lrow _ E).2;omega
 ·refine⟨i.os.trans (a.os.trans h.old.os),i.tape.trans (a.tape.trans h.old.tape),i.output.trans (a.output.trans h.old.output),by omega,fun k C=>?_⟩
  rw[f k (by omega) (fun e=>by have:=h.far k e;omega),a.block k (by omega)]
  exact h.old.block k C
theorem ZdZ.leave {p:List Nat} {f:Value} (h:ZdZ w R gone left p vs f wr) (c:Pce) (a:Below wr.heap.size wr W)
 (z:W'.ownsRow 0 108 3 v' (left++[c]).length (Q6 (left++[c]))) (b:(W.alloc (.cells (pcC c) 108)).grownBy W' f.ownBlock) (h3:v'.ownBlock=f.ownBlock∨v'.ownBlock=some (W.heap.size+1)):
 ZdZ w R gone (left++[c]) p vs v' W':=by
 have n:(W.alloc (.cells (pcC c) 108)).heap.size=W.heap.size+1:=by simp
 have E:=a.size;have C:=h.old.size;have B:W.heap.size+1<=W'.heap.size:=by have:=b.size;rw[n] at this;exact this
 have i:∀ k,k<W.heap.size->f.ownBlock≠some k->W'.heap[k]?=W.heap[k]?:=fun k i A=>by
  rw[b.block k (by rw[n];omega) (fun e=>A e.symm)]
  exact Below.heap_alloc _ _ _ (by omega)
 refine⟨h.len,?_,h.far,z,fun k l=>?_,fun j t=>?_,?_⟩
 ·refine Qh h.row fun g v=>?_
  obtain⟨cs,m⟩:=X0 h.row v
  rw[i g (by have:=m.lt;omega) (fun e=>by
   obtain⟨D,y⟩:=X0 h.lrow e
   exact m.ne y (by decide) rfl)]
  exact a.block g m.lt
 ·rcases h3 with h3 | h3
  ·exact h.lfar k (by rw[<-h3];exact l)
  ·rw[h3] at l
   have:=Option.some.inj l;omega
 ·obtain⟨u,q,d⟩:=h.box j t
  refine⟨u,fun e=>?_,(d.keep (a.block _ d.lt)).keep (i _ (by have:=d.lt;omega) q)⟩
  rcases h3 with h3 | h3
  ·exact q (by rw[<-h3];exact e)
  ·rw[h3] at e
   have:=Option.some.inj e;have:=d.lt;omega
 ·refine⟨b.os.trans (a.os.trans h.old.os),b.tape.trans (a.tape.trans h.old.tape),b.output.trans (a.output.trans h.old.output),by omega,fun k x=>?_⟩
  rw[i k (by omega) (fun e=>by have:=h.lfar k e;omega),a.block k (by omega)]
  exact h.old.block k x
theorem ZdZ.last {d:List Nat} {q:Value} {c:Stp} {l:List Stp} (h:ZdZ w R gone left d vs q wr)
 (_h1:W'.ownsRow 0 153 1 v' l.length (Za l)) (b:(wr.alloc (.cells #[c.val] 153)).grownBy W' vs.ownBlock) (h3:v'.ownBlock=vs.ownBlock∨v'.ownBlock=some (wr.heap.size+1)):
 Below w.heap.size w W'∧W'.ownsRow 0 108 3 q left.length (Q6 left)∧(∀ j,j<d.length->w.heap.size<=d.getD j 0∧Bk 108 W' (d.getD j 0) (pcC (gone.getD j Zj)))∧(∀ k,v'.ownBlock=some k->w.heap.size<=k):=by
 have n:(wr.alloc (.cells #[c.val] 153)).heap.size=wr.heap.size+1:=by simp
 have C:=h.old.size;have B:wr.heap.size+1<=W'.heap.size:=by have:=b.size;rw[n] at this;exact this
 have t:∀ k,vs.ownBlock=some k->∃ cs,Bk 153 wr k cs:=fun k a=>X0 h.row a
 have a:∀ k,k<wr.heap.size->vs.ownBlock≠some k->W'.heap[k]?=wr.heap[k]?:=fun k a A=>by
  rw[b.block k (by rw[n];omega) (fun e=>A e.symm)]
  exact Below.heap_alloc _ _ _ (by omega)
 refine⟨⟨b.os.trans h.old.os,b.tape.trans h.old.tape,b.output.trans h.old.output,by omega,fun k z=>?_⟩,?_,fun j u=>?_,fun k f=>?_⟩
 ·rw[a k (by omega) (fun e=>by have:=h.far k e;omega)]
  exact h.old.block k z
 ·refine Qh h.lrow fun g x=>?_
  obtain⟨cs,p⟩:=X0 h.lrow x
  exact a g p.lt (fun e=>by
   obtain⟨y,m⟩:=t g e
   exact p.ne m (by decide) rfl)
 ·obtain⟨v,D,i⟩:=h.box j u
  exact⟨v,i.keep (a _ i.lt (fun e=>by
   obtain⟨y,m⟩:=t _ e
   exact i.ne m (by decide) rfl))⟩
 ·rcases h3 with h3 | h3
  ·exact h.far k (by rw[<-h3];exact f)
  ·rw[h3] at f
   have:=Option.some.inj f;omega
theorem ZAv {l:List Stp} (h:w.ownsRow 0 153 1 v l.length (Za l)) (d:l.length≠0) (z:Stp):
 ∃ g cap cs,v=.slice (some ⟨g,0,none⟩) l.length cap∧Bk 153 w g cs∧v.ownBlock=some g∧∀ i,i<l.length->cs[i]?=some (l.getD i z).val:=by
 rcases h.2 with ⟨_,j⟩ | ⟨g,cap,cur,a,m,f,n,p,k,e⟩
 ·exact absurd j d
 ·refine⟨g,cap,cur,a,f,by rw[a];rfl,fun i c=>?_⟩
  have b:(Za l)[i]?=some (l.getD i z).val:=by
   unfold Za;simp[List.getD,c]
  rw[<-e,List.getElem?_take,if_pos (by omega),Array.getElem?_toList] at b
  exact b
theorem Zzi {l:List Pce} (h:w.ownsRow 0 108 3 v l.length (Q6 l)) (j:Nat) (b:j<l.length):
 ∃ g cap,v=.slice (some ⟨g,0,none⟩) l.length cap∧w.cell? ⟨g,j*3,none⟩=some (.int .i64 (l.getD j Zj).name)∧w.cell? ⟨g,j*3+1,none⟩=some (.int .i64 (l.getD j Zj).first)∧w.cell? ⟨g,j*3+2,none⟩=some (.int .i64 (l.getD j Zj).stop):=by
 rcases h.2 with ⟨_,t⟩ | ⟨g,cap,cur,c,m,e,p,q,i,d⟩
 ·omega
 ·have n:=Zas l
  have key:∀ k,k<3->w.cell? ⟨g,j*3+k,none⟩=(pcC (l.getD j Zj))[k]?:=fun k f=>by
   have a:=Zci l j k b f;rw[<-d,List.getElem?_take,if_pos (by omega),Array.getElem?_toList] at a
   rw[cell_of_row w g _ _ _ _ e];exact a
  exact⟨g,cap,c,key 0 (by decide),key 1 (by decide),key 2 (by decide)⟩
theorem Zoa {α β:Type} (f:α->β) (l:List α) (y z:β) (b:α) (i:Nat) (a:i<l.length):(l.map f++[y]).getD i z=f (l.getD i b):=by
 rw[ZiZ _ _ _ _ (by rw[length_map];exact a)]
 simp[List.getD,a]
theorem Zob {α β:Type} (f:α->β) (l:List α) (y z:β) (i:Nat) (a:i=l.length):(l.map f++[y]).getD i z=y:=by
 have h:=Zja (l.map f) y z;rw[length_map] at h;rw[a];exact h
def Ztn (p R:Nat) (bx:List Nat) (i:Nat):Stp:=(bx.map (ZjC R)++[(⟨64,#[ptr p],#[]⟩:Stp)]).getD i (⟨0,#[],#[]⟩:Stp)
theorem ZvP {cap:Nat} {a:List Nat} (w:World) (X:SD K0 w pd p s d N T) (v:∀ k,K0 k->k<w.heap.size) (J:K0 b) (O:K0 R) (U:∀ j,j<a.length->K0 (a.getD j 0)∧Bk 108 w (a.getD j 0) (pcC (gone.getD j Zj))) (x:a.length=gone.length)
 (D:Bk 28 w R #[ptr p]) (cs:Array Value) (Z:Bk 153 w b cs) (H:∀ i,i<a.length+1->cs[i]?=some (Ztn p R a i).val) (P:∀ q ∈ gone,I64 q.name) (aa:gone.length<=100000) (hN:N<=700000) (hT:T<=900000000):
 Calls prog 62 #[.slice (some ⟨b,0,none⟩) (a.length+1) cap] w fun e w'=>Ztk K0 K0 pd p (Qv ((gone.map fun q=>Xm (fun d=>Qj d q.name))++[Qq]) (s,d)) (N+2*(a.length+1)) T (fun _ _=>True) w e w':=by
 obtain⟨gs,l⟩:∃ gs,gs=(gone.map fun q:Pce=>Xm (fun d=>Qj d q.name))++[Qq]:=⟨_,rfl⟩
 have M:gs.length=a.length+1:=by rw[l,length_append,length_map,x];rfl
 rw[<-l,<-M]
 have A:∀ i,i<a.length->gs.getD i ZdY=Xm (fun d=>Qj d (gone.getD i Zj).name)∧Ztn p R a i=ZjC R (a.getD i 0):=fun i g=>by
  have m:i<gone.length:=by omega
  refine⟨?_,?_⟩
  ·rw[l]
   exact Zoa (fun q:Pce=>Xm (fun d=>Qj d q.name)) gone Qq ZdY Zj i m
  ·unfold Ztn
   exact Zoa (ZjC R) a _ _ 0 i g
 have n:gs.getD a.length ZdY=Qq∧Ztn p R a a.length=⟨64,#[ptr p],#[]⟩:=by
  refine⟨?_,?_⟩
  ·rw[l]
   exact Zob (fun q:Pce=>Xm (fun d=>Qj d q.name)) gone Qq ZdY a.length x
  ·unfold Ztn
   exact Zob (ZjC R) a _ _ a.length rfl
 have C:=ZvO (K0:=K0) (K2:=K0) (pd:=pd) (p:=p) b cap (Ztn p R a) gs (s,d) N T 2 0 w (fun _ _ _=>True) (by omega) J cs Z (fun i g=>H i (by omega)) v X trivial (fun i g Kc W B f G h4 t _=>?_) (fun i g args W=>?_)
 ·rw[Nat.zero_mul,Nat.add_zero] at C
  exact C
 ·rw[Nat.zero_mul,Nat.add_zero] at t
  have z:∀ k,K0 k->W.heap[k]?=w.heap[k]?:=fun k y=>G.block k (v k y) (fun Y=>Y y)
  by_cases e:i<a.length
  ·obtain⟨Q,F⟩:=A i e
   rw[Q,F];obtain⟨L,V⟩:=U i e;have E:=((V.keep (z _ L)).cell 0 rfl).1;have K:=((D.keep (z _ O)).cell 0 rfl).1
   have I:(gone.getD i Zj) ∈ gone:=by
    have m:i<gone.length:=by omega
    have:gone.getD i Zj=gone[i]:=by simp[List.getD,m]
    rw[this];exact getElem_mem m
   refine(Zqg (gone.getD i Zj).name W t f K E (P _ I) (by omega) (by omega)).mono ?_
   intro c S u;exact u.seqD f B zL (by omega) (fun _=>trivial)
  ·have c:i=a.length:=by omega
   subst c;rw[n.1,n.2];refine(ZcM W t f).mono ?_;intro c S u;exact u.seqD f B zL (by omega) (fun _=>trivial)
 ·by_cases e:i<a.length
  ·rw[(A i e).2]
   exact(enters_of func68 (by kernel_rfl) rfl) args W
  ·have c:i=a.length:=by omega
   subst c;rw[n.2];exact(enters_of func64 (by kernel_rfl) rfl) args W
end Go.Proofs.YtnahjngbneicaaaGreatDoor
