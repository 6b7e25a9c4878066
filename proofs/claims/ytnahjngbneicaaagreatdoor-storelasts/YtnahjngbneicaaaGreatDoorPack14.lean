import Derived.Test.YtnahjngbneicaaaGreatDoorPack13
namespace Go.Proofs.YtnahjngbneicaaaGreatDoor
open _root_.Go.Proofs.Tryz
open List (getElem_mem length_append length_map length_set map_cons map_nil map_toArray)
set_option maxHeartbeats 4000000
set_option maxRecDepth 100000
open Go.RowKit
variable {W W' w w' wr:World} {pv rv v v' vs:Value} {B N R Rb T b n o p pd q:Nat} {d:Dk} {l:List Rec} {s:Sto} {t:TypeId} {xs:List Value} {cs:Array Value} {g:Lgb} {K K0:Nat->Prop} {gone left:List Pce}
abbrev zeq:=@Go.Exit.noGoto_ret
abbrev zgr:=@Nat.mul_succ
structure DIB (w wr:World) (b:List UInt8) (first count g B:Nat) (L:List Rec) (vl:Value) (m:List UInt8) (t:Bool):Prop where
 row:ZjB wr g (L++List.replicate (count-L.length) Qi)
 map:ZfU wr B L.length (Q7 L)
 rd:Rd wr vl m
 le:m.length<=b.length
 read:Zqa b first count L m t
 below:Below w.heap.size w wr
theorem Zmg (L:List Rec):∀ u ∈ Qt L,∃ n,u=Value.int .i64 n:=by
 induction L with
 | nil=>intro u a;simp[Qt] at a
 | cons r t b=>
  intro u a;rw[Qt] at a;rcases zaw.1 a with h | h
  ·simp[Ja] at h
   rcases h with rfl | rfl | rfl | rfl | rfl | rfl | rfl <;> exact⟨_,rfl⟩
  ·exact b u h
theorem Rd.row {m:List UInt8} (h:Rd w v m) {g:Nat} {L:List Rec} (p:ZjB w g L) (l:But g g w w'):Rd w' v m:=by
 obtain⟨A,z,B,x,k,d,f⟩:=h;refine⟨A,z,B,x,k,d,?_⟩;rcases f with f | ⟨c,i,u,t⟩
 ·exact .inl f
 ·refine .inr ⟨c,i,u,fun j y=>?_⟩
  have b:=t j y;by_cases e:c=g
  ·rw[e,(p.cell _).1] at b
   obtain⟨n,d⟩:=Zmg L _ (List.mem_of_getElem? b)
   cases d
  ·have q:c<w.heap.size:=zau w ⟨c,i+j,none⟩ b
   rw[zb2 (a:=⟨c,i+j,none⟩) (l.block c q e e)];exact b
theorem ZfU.row {f:Int->Int} (h:ZfU w b n f) {g:Nat} {L:List Rec} (d:ZjB w g L) (c:But g g w w'):ZfU w' b n f:=by
 have a:b≠g:=fun e=>h.apart d e.symm
 exact h.keep (c.block b h.lt a a)
theorem Zze (L:List Rec) (a:Nat) (b:L.length<a) (r:Rec):(L++List.replicate (a-L.length) Qi).set L.length r=(L++[r])++List.replicate (a-(L++[r]).length) Qi:=by
 have e:a-L.length=(a-(L++[r]).length)+1:=by simp;omega
 rw[e,zf1,zeu _ _ zL,Nat.sub_self];simp
theorem ZgL (vb:Value) (b:List UInt8) (w:World) (hr:Rd w vb b) (bA:b.length<=1000000):
 Calls prog 120 #[vb] w fun e w'=>ZaP w b e w':=by
 have HR:=ZZ hr
 obtain⟨va,vc,rfl⟩:∃ va vc,vb=.slice va b.length vc:=by
  obtain⟨va,vc,rfl,_⟩:=hr;exact⟨va,vc,rfl⟩
 clear hr;have aW:=ZZ (fun q n E=>ZpO (l:=q) (b:=b) n E)
 obtain⟨i,P⟩:=zgy (behind (Qb b).2 b);obtain⟨B,aa⟩:=zgy (behind (Qb i).2 i)
 have am:Hid (∀ W v,Rd W v b->Calls prog 167 #[v,.func (.func 168) #[] #[]] W fun e w'=>∃ v',e=.returned (.tuple #[.int .i64 ((Qb b).1:Nat),v',.bool (decide ((Qb b).2≠0))])∧Rd w' v' i∧Below W.heap.size W w'):=ZZ (fun W v h=>by
  have:=ZdW ((Qb b).1:Nat) (Qb b).2 v b W h (Ju b) (ZcJ v b W h);rw[<-P] at this
  exact this)
 have ak:Hid (∀ W v,Rd W v i->Calls prog 167 #[v,.func (.func 168) #[] #[]] W fun e w'=>∃ v',e=.returned (.tuple #[.int .i64 ((Qb i).1:Nat),v',.bool (decide ((Qb i).2≠0))])∧Rd w' v' B∧Below W.heap.size W w'):=ZZ (fun W v h=>by
  have:=ZdW ((Qb i).1:Nat) (Qb i).2 v i W h (Ju i) (ZcJ v i W h);rw[<-aa] at this
  exact this)
 have l1:=Je (Qb b).2 b;have l2:=Je (Qb i).2 i;rw[<-P] at l1;rw[<-aa] at l2
 have c1:(Qb b).1<4611686018427387904:=by
  rcases Xf b with h | h
  ·rw[h];decide
  ·exact h.1
 have HW:Hid (∀ q,Yc q->X9 q=b->(Qb i).2≠0∧q.length=(Qb i).1∧B=Yg [] q∧(q.headD Qi).idx=((Qb b).1:Nat)):=ZZ (fun q n E=>by
  obtain⟨g1,g2,g3,g4,g5⟩:=aW.o q n E;rw[Yv g2] at P;rw[<-P] at g3 g4 g5;rw[Yv g4] at aa;refine⟨g4,g3.symm,?_,g1.symm⟩;rw[<-zdp,<-P,<-aa] at g5
  exact g5)
 have HS:Hid ((Qb i).2≠0->b=Lib.uvarint (Qb b).1++(Lib.uvarint (Qb i).1++B)):=ZZ (fun h=>by
  have h1:(Qb b).2≠0:=Zcn (l:=b) (by rw[<-P];exact Ztf h)
  have K:=ZiV h1;have M:=ZiV h;rw[<-P] at K;rw[<-aa] at M
  exact K.trans (congrArg (Lib.uvarint (Qb b).1++·) M))
 have bl:Hid (∀ W v l,RdR W v l->Calls prog 48 #[v] W fun e w'=>e=.returned (.bool (decide (Yc l)))∧Below W.heap.size W w'):=ZZ (fun W v l h=>ZbF v l W h)
 clear P aa aW;generalize decide ((Qb b).2≠0)=T0 at *;generalize (Qb b).1=first at *;generalize (Qb i).1=g at *;obtain⟨T1,X⟩:=zgy (decide ((Qb i).2≠0));rw[<-X] at ak;by_cases ag:(Qb i).2=0∨256<g
 ·have A:Hid (∀ q,Yc q->X9 q≠b):=ZZ (fun q n E=>by
   obtain⟨g1,g2,_⟩:=HW.o q n E;have:=n.2.1
   omega)
  by_cases I:(Qb i).2=0
  ·have n:T1=false:=by rw[X];exact zae (fun h=>h I)
   subst n;clear ag HW HS I X
   go_enter func120,ntmps120
   go_wp2_with fail
   refine(am.o _ _ HR.o).mono ?_;rintro e W1 ⟨v1,rfl,y,S⟩;obtain⟨a1,n1,K,-⟩:=id y;subst K;have Z:=ZZ y;have G:=ZZ S;clear y S
   go_wp2_with fail
   refine(ak.o _ _ Z.o).mono ?_;rintro e f ⟨v2,rfl,F,Q⟩;obtain⟨a2,n2,M,-⟩:=id F;subst M;have J:=ZZ (G.o.trans (Q.mono G.o.size));clear F Q;go_wp2;go_ret2;exact ZaP.none A.o J.o
  ·have n:T1=true:=by rw[X];exact zah I
   subst n;have bG:256<(g:Int):=by omega
   clear ag HW HS I X
   go_enter func120,ntmps120
   go_wp2_with fail
   refine(am.o _ _ HR.o).mono ?_;rintro e W1 ⟨v1,rfl,y,S⟩;obtain⟨a1,n1,K,-⟩:=id y;subst K;have Z:=ZZ y;have G:=ZZ S;clear y S
   go_wp2_with fail
   refine(ak.o _ _ Z.o).mono ?_;rintro e f ⟨v2,rfl,F,Q⟩;obtain⟨a2,n2,M,-⟩:=id F;subst M;have J:=ZZ (G.o.trans (Q.mono G.o.size));clear F Q;go_wp2;go_ret2;exact ZaP.none A.o J.o
 have I:(Qb i).2≠0:=fun h=>ag (.inl h)
 have bu:g<=256:=Nat.le_of_not_lt (fun h=>ag (.inr h))
 have n:T1=true:=by rw[X];exact zah I
 subst n
 have bk:Hid (Zqa b first g [] B true):=ZZ ⟨trivial,(fun r h=>by simp at h),(fun _ _=>HS.o I),(fun h=>by cases h),fun q n E=>by
  obtain⟨g1,g2,g3,g4⟩:=HW.o q n E
  exact⟨g2,by simp,by simpa using g3,rfl,g4⟩⟩
 have bH:¬ 256<(g:Int):=by omega
 have bd:=Zmf;have bm:∀ W:World,(Instr.makeSlice 29 (.int .i64 (g:Int)) (.int .i64 (g:Int))).run prog W=.ok (.slice (some ⟨W.heap.size,0,none⟩) g g) (W.alloc (.cells (Qt (List.replicate g Qi)).toArray 62)):=fun W=>bd W g (by omega)
 have bD:=@run_makeMap prog;have bq:B.length<=b.length:=by omega
 clear ag HW HS I X bd l1 l2;obtain⟨ZR,aE⟩:=zgy ((Qt (List.replicate g Qi)).toArray);rw[<-aE] at bm;have bn:=ZZ aE;clear aE
 go_enter func120,ntmps120
 go_wp2_with fail
 refine(am.o _ _ HR.o).mono ?_;rintro e W1 ⟨v1,rfl,y,S⟩;obtain⟨a1,n1,K,-⟩:=id y;subst K;have Z:=ZZ y;have G:=ZZ S;clear y S
 go_wp2_with fail
 refine(ak.o _ _ Z.o).mono ?_;rintro e f ⟨v2,rfl,F,Q⟩;obtain⟨a2,n2,M,-⟩:=id F;subst M;have bj:=ZZ F;have J:=ZZ (G.o.trans (Q.mono G.o.size));clear F Q Z G am ak
 have ba:Hid (DIB w ((f.alloc (.cells ZR 62)).alloc (.map #[] 0)) b first g f.heap.size (f.heap.size+1) [] (.slice a2 B.length n2) B true):=ZZ (by
  have u:Below f.heap.size f ((f.alloc (.cells ZR 62)).alloc (.map #[] 0)):=((zac _ _).alloc zL _).alloc (by simp) _
  have hs:(f.alloc (.cells ZR 62)).heap.size=f.heap.size+1:=by simp
  refine⟨?_,?_,bj.o.below u zL,bq,bk.o,J.o.trans (u.mono J.o.size)⟩
  ·rw[ze6,zcr,zef]
   unfold ZjB;rw[<-bn.o];exact(zao _ _ _ (by simp)).trans (zaf f _)
  ·have h:=ZfU.made (f.alloc (.cells ZR 62))
   rw[hs] at h
   exact h)
 have A:=ZZ J.o.size;clear bj J bk;go_wp2
 go_loopw[5,8,35] (fun vl vt vi wr=>∃ (t:Bool) (L:List Rec) (m:List UInt8),vt=.bool t∧vi=.int .i64 (L.length:Int)∧L.length<=g∧Hid (DIB w wr b first g f.heap.size (f.heap.size+1) L vl m t)) (fun _ _ vi _=>g-(intOf vi).toNat)
 case atStart=>exact⟨true,[],B,rfl,rfl,zai _,ba⟩
 case round=>
  clear ba;obtain⟨t,L,m,rfl,rfl,hk,p⟩:=hrel;by_cases aA:L.length<g
  case neg=>
   obtain rfl:g=L.length:=by omega
   have bI:¬ (L.length:Int)<(L.length:Int):=by omega
   have aF:=p.out.row;rw[Nat.sub_self,List.replicate_zero,zcx] at aF;have bc:=ZZ (aF.rd p.out.read.ok (by unfold maxLen;omega))
   have aq:=ZZ (bl.o wr _ L bc.o);have ai:=ZZ p.out.read.done.1;have U:=ZZ p.out.read.done.2;have ab:=ZZ p.out.below
   obtain⟨C,H,aU⟩:∃ C H,u5=.slice C m.length H:=by
    obtain⟨C,H,h,-⟩:=p.out.rd;exact⟨C,H,h⟩
   subst aU;clear aF p
   cases t with
   | false=>
    have aj:=ZZ (U.o (fun h=>by cases h.1))
    clear ai U;go_wp2;go_ret2;exact ZaP.none aj.o ab.o
   | true=>
    by_cases hm:m=[]
    case neg=>
     have aj:=ZZ (U.o (fun h=>hm h.2.1))
     have br:0<m.length:=Nat.pos_of_ne_zero (fun e=>hm (zaj e))
     clear ai U hm;generalize m.length=ln at *;have bC:decide (0<ln)=true:=zah br;go_wp2;go_ret2;exact ZaP.none aj.o ab.o
    subst hm;by_cases n:Yc L
    ·have HE:=ZZ (ai.o ⟨rfl,rfl,n⟩)
     rw[zah n] at aq;have bx:=ZZ n;clear ai U n
     go_wp2_with fail
     refine aq.o.mono ?_;rintro e W3 ⟨rfl,u⟩;have V:=ZZ (ab.o.trans (u.mono ab.o.size));have aw:=ZZ (bc.o.below u zL);clear u;go_wp2;go_ret2;exact⟨_,L,0,rfl,aw.o,.inl ⟨rfl,bx.o,HE.o⟩,V.o⟩
    ·have aj:=ZZ (U.o (fun h=>n h.2.2))
     rw[zae n] at aq;clear ai U n
     go_wp2_with fail
     refine aq.o.mono ?_;rintro e W3 ⟨rfl,u⟩;have V:=ZZ (ab.o.trans (u.mono ab.o.size));clear u;go_wp2;go_ret2;exact ZaP.none aj.o V.o
  have bF:(L.length:Int)<(g:Int):=by omega
  obtain⟨R,d,m',t',hT⟩:∃ R d m' t',Jy m=(R,d,m',t'):=⟨_,_,_,_,rfl⟩;have af:=ZZ (ZjW _ m wr p.out.rd (by have:=p.out.le;omega))
  have aZ:=ZZ (p.out.read.step c1 aA bu hT);have aR:=Zzd m;have aC:=ZvI m;rw[hT] at af aR aC;have aS:=ZZ aC;have aV:Hid (m'.length<=b.length):=ZZ (zas aR p.out.le)
  obtain⟨C,H,aU⟩:∃ C H,u5=.slice C m.length H:=by
   obtain⟨C,H,h,-⟩:=p.out.rd;exact⟨C,H,h⟩
  subst aU;clear hT aR aC;unfold Zso at af
  dsimp only at af
  have aY:(L++List.replicate (g-L.length) Qi).length=g:=by simp;omega
  have a4:=ZZ aY;clear aY
  go_wp2_with fail
  refine af.o.mono ?_;rintro e W3 ⟨v3,rfl,aI,u⟩;obtain⟨a3,n3,e3,-⟩:=id aI;subst e3;have ad:=ZZ (p.out.row.below u zL);have bb:=ZZ (p.out.map.below u zL);have aw:=ZZ aI;have V:=ZZ (p.out.below.trans (u.mono p.out.below.size));clear aI u af p
  have O:∀ j,j<7->∃ x,W3.cell? ⟨f.heap.size,L.length*7+j,none⟩=some x∧W3.frozen? ⟨f.heap.size,L.length*7+j,none⟩=false:=fun j hj=>by
   have h:=ad.o.cell (L.length*7+j);obtain⟨x,hx⟩:∃ x,(Qt (L++List.replicate (g-L.length) Qi))[L.length*7+j]?=some x:=⟨_,za3 (by rw[Zl,a4.o];omega)⟩
   exact⟨x,h.1.trans hx,h.2⟩
  obtain⟨x0,k0,f0⟩:=O 0 (by decide)
  obtain⟨x1,k1,f1⟩:=O 1 (by decide)
  obtain⟨x2,k2,f2⟩:=O 2 (by decide)
  obtain⟨x3,k3,f3⟩:=O 3 (by decide)
  obtain⟨x4,k4,f4⟩:=O 4 (by decide)
  obtain⟨x5,k5,f5⟩:=O 5 (by decide)
  obtain⟨x6,k6,f6⟩:=O 6 (by decide)
  rw[zcw] at k0 f0;clear O
  go_upto_region 12 with fail
  obtain⟨T,ay⟩:=zgy (((((((W3.setCell ⟨f.heap.size,L.length*7,none⟩ (.int .i64 R.idx)).setCell ⟨f.heap.size,L.length*7+1,none⟩ (.int .i64 R.proc)).setCell ⟨f.heap.size,L.length*7+2,none⟩ (.int .i64 R.seq)).setCell ⟨f.heap.size,L.length*7+3,none⟩ (.int .i64 R.op.code)).setCell ⟨f.heap.size,L.length*7+4,none⟩ (.int .i64 R.op.a)).setCell ⟨f.heap.size,L.length*7+5,none⟩ (.int .i64 R.op.b)).setCell ⟨f.heap.size,L.length*7+6,none⟩ (.int .i64 R.resp));rw[<-ay];have ap:L.length<(L++List.replicate (g-L.length) Qi).length:=by rw[a4.o];exact aA
  have N:=ZZ ap;have aM:=ad.o.seven ap R.idx R.proc R.seq R.op.code R.op.a R.op.b R.resp;rw[<-ay] at aM
  have av:Hid (But f.heap.size f.heap.size W3 T):=ZZ (by
   rw[ay]
   exact(((((((But.refl _ _ _).set _ _ (.inl rfl) _).set _ _ (.inl rfl) _).set _ _ (.inl rfl) _).set _ _ (.inl rfl) _).set _ _ (.inl rfl) _).set _ _ (.inl rfl) _).set _ _ (.inl rfl) _)
  have bi:=ZZ (aw.o.row ad.o av.o);have aX:=ZZ (bb.o.row ad.o av.o);have aO:=ZZ (Zaf V.o av.o V.o.size A.o A.o);have Y:=ZZ aM;obtain⟨⟨bB,bp⟩,bo⟩:(∃ x,T.cell? ⟨f.heap.size,L.length*7,none⟩=some x)∧T.frozen? ⟨f.heap.size,L.length*7,none⟩=false:=⟨⟨_,(Y.o.at (k:=L.length) (by rw[length_set];exact ap)).1⟩,(Y.o.cell _).2⟩
  clear ay aM ap ad aw bb V av k0 k1 k2 k3 k4 k5 k6 f0 f1 f2 f3 f4 f5 f6
  go_upto_region 13 with fail
  obtain⟨W5,an⟩:=zgy (T.setCell ⟨f.heap.size,L.length*7,none⟩ (.int .i64 ((first:Int)+(L.length:Int))));rw[<-an];have a8:L.length<((L++List.replicate (g-L.length) Qi).set L.length ⟨R.idx,R.proc,R.seq,⟨R.op.code,R.op.a,R.op.b⟩,R.resp⟩).length:=by rw[length_set];exact N.o
  have aH:=Y.o.set a8 0 (by decide) (.int .i64 ((first:Int)+(L.length:Int))) ⟨(first:Int)+L.length,R.proc,R.seq,⟨R.op.code,R.op.a,R.op.b⟩,R.resp⟩ (by rw[Zav N.o];rfl)
  rw[zcw,<-an,zeg] at aH
  have al:Hid (But f.heap.size f.heap.size T W5):=ZZ (by
   rw[an]
   exact(But.refl _ _ _).set _ _ (.inl rfl) _)
  have be:=ZZ (bi.o.row Y.o al.o);have aL:=ZZ (aX.o.row Y.o al.o);have aG:=ZZ (Zaf aO.o al.o aO.o.size A.o A.o);have ac:=ZZ aH;have ao:=ac.o.at (k:=L.length) (by rw[length_set];exact N.o)
  rw[Zav N.o] at ao;have k1:=ao.2.1;have k2:=ao.2.2.1;have f2:=(ac.o.cell (L.length*7+2)).2;have bf:=aL.o.look aS.o.1
  dsimp only at k1 k2
  clear an aH a8 ao Y bi aX aO al bp bo;obtain⟨ls,aP⟩:=zgy (Q7 L R.proc);rw[<-aP] at bf;have a5:=ZZ aP;clear aP
  go_upto_region 14 with fail
  obtain⟨z,aK⟩:=zgy (wrap64 (ls+d));rw[<-aK]
  have aQ:IntKind.i64.wrap (Q7 L R.proc+d)=z:=by
   rw[aK,<-a5.o];unfold wrap64;exact zbe _
  have a0:Hid ((⟨(first:Int)+L.length,R.proc,z,⟨R.op.code,R.op.a,R.op.b⟩,R.resp⟩:Rec)=ZcU first L R d):=ZZ (by
   unfold ZcU
   rw[aQ])
  have bt:Hid (I64 z):=ZZ (by rw[<-aQ];exact ZiW _)
  clear aQ aK a5;obtain⟨W6,ar⟩:=zgy (W5.setCell ⟨f.heap.size,L.length*7+2,none⟩ (.int .i64 z));rw[<-ar];have a9:L.length<((L++List.replicate (g-L.length) Qi).set L.length ⟨(first:Int)+L.length,R.proc,R.seq,⟨R.op.code,R.op.a,R.op.b⟩,R.resp⟩).length:=by rw[length_set];exact N.o
  have ae:=ac.o.set a9 2 (by decide) (.int .i64 z) ⟨(first:Int)+L.length,R.proc,z,⟨R.op.code,R.op.a,R.op.b⟩,R.resp⟩ (by rw[Zav N.o];rfl)
  rw[<-ar,zeg] at ae
  have au:Hid (But f.heap.size f.heap.size W5 W6):=ZZ (by
   rw[ar]
   exact(But.refl _ _ _).set _ _ (.inl rfl) _)
  have a6:=ZZ (be.o.row ac.o au.o);have aT:=ZZ (aL.o.row ac.o au.o);have aN:=ZZ (Zaf aG.o au.o aG.o.size A.o A.o);have ax:=ae.at (k:=L.length) (by rw[length_set];exact N.o)
  rw[Zav N.o] at ax;have j1:=ax.2.1;have j2:=ax.2.2.1
  dsimp only at j1 j2
  rw[a0.o,Zze L g aA] at ae;have aB:=ZZ ae;clear ar ae a9 ax ac be aL aG au k1 k2 f2 bf;have a7:ZfU W6.drew (f.heap.size+1) L.length (Q7 L):=aT.o.keep rfl;obtain⟨W7,bE,aJ,az⟩:=a7.put aS.o.1 bt.o (by omega)
  have bg:Zzu (Q7 L) R.proc z=Q7 (L++[ZcU first L R d]):=by
   rw[<-a0.o];exact ZiJ L ⟨(first:Int)+L.length,R.proc,z,⟨R.op.code,R.op.a,R.op.b⟩,R.resp⟩
  rw[bg] at aJ;have aD:(L++[ZcU first L R d]).length=L.length+1:=by simp
  have bw:Hid (DIB w W7 b first g f.heap.size (f.heap.size+1) (L++[ZcU first L R d]) (.slice a3 m'.length n3) m' t'):=ZZ (by
   have bJ:some f.heap.size≠some (f.heap.size+1):=by simp
   have bv:∀ c,c<W6.heap.size->c≠f.heap.size+1->W7.heap[c]?=W6.heap[c]?:=fun c hc hn=>az.block c hc (fun e=>hn (by simpa using e))
   refine⟨(bv _ aB.o.lt (by omega)).trans aB.o,by rw[aD];exact aJ,?_,aV.o,aZ.o,(aN.o.drew).grown az aN.o.size (fun j hj=>by cases hj;have:=A.o;omega)⟩
   obtain⟨va,vc,h1,h2,h3,hn,h4⟩:=a6.o;refine⟨va,vc,h1,h2,h3,hn,?_⟩;rcases h4 with h4 | ⟨c,bz,h5,h6⟩
   ·exact .inl h4
   ·refine .inr ⟨c,bz,h5,fun j hj=>?_⟩
    have hc:=h6 j hj
    exact az.cell hc (fun e=>by
     have e':c=f.heap.size+1:=by simpa using e
     obtain⟨D,⟨es,bK,E,_⟩,_⟩:=aT.o;rw[e'] at hc
     simp[World.cell?,E] at hc))
  clear a7 aJ az bg aT aB a6 aN aZ aS aV
  go_region
  all_goals
   go_wp2;go_roundw
   case rel=>exact⟨t',L++[ZcU first L R d],m',rfl,by rw[aD];go_num,by rw[aD];omega,bw⟩
   case measure=>simp[intOf];omega
theorem Zgv {a b:List UInt8} (g:a.length<=1048576) (e:b.length<=1048576) (h:Qd a=Qd b):a=b:=by
 have c:=Zag [a] (by simpa using g)
 have d:=Zag [b] (by simpa using e)
 have i:Qf [a]=Qd a:=by simp[Qf]
 have f:Qf [b]=Qd b:=by simp[Qf]
 rw[i,h] at c;rw[f] at d;have:=congrArg Prod.fst (c.symm.trans d);simpa using this
theorem ZxH {H:List UInt8} (g:H.length<=1048576) {kind:Int} (A:0<=kind) (F:kind<6):
 decide (Qd H=ZgI 3 kind (Gv (Qd H)).1.first)=(ZbB H kind).isSome∧(∀ f,ZbB H kind=some f->(Gv (Qd H)).1.first=(f:Int))∧0<=(Gv (Qd H)).1.first∧(Gv (Qd H)).1.first<4611686018427387904:=by
 have n:=Zag [H] (by simpa using g)
 have z:Qf [H]=Qd H:=by simp[Qf]
 rw[z] at n
 have c:Gv (Qd H)=match Z0 H with
  | .error _=>(Zev,0,false)
  | .ok (v,k,f)=>(⟨k,f,(J4 v f [] [] 16).1⟩,(Qf ([H].take (1+(J4 v f [] [] 16).2.1))).length,true):=by
  unfold Gv ZwK;rw[n];rw[zaa (by simp)]
  rfl
 have l:∀ f:Int,0<=f->f<4611686018427387904->ZgI 3 kind f=Qd (Xq 3 kind.toNat f.toNat):=fun f m w=>by
  unfold ZgI;rw[zab (by decide),zab ⟨A,F,m,w⟩]
  rfl
 have p:∀ f:Int,0<=f->f<4611686018427387904->(Xq 3 kind.toNat f.toNat).length<=1048576:=fun f m w=>by
  have:=ZcP (v:=3) (k:=kind.toNat) (f:=f.toNat) (by decide) (by omega) (by omega)
  omega
 cases hr:Z0 H with
 | error x=>
  rw[hr] at c;have i:(Gv (Qd H)).1.first=0:=by rw[c];rfl
  have b:ZbB H kind=none:=by unfold ZbB;rw[hr]
  rw[i,b];refine⟨?_,(fun f a=>by cases a),by decide,by decide⟩
  rw[l 0 (by decide) (by decide)]
  refine zae fun a=>?_
  have:=Zgv g (p 0 (by decide) (by decide)) a
  rw[this,ZfS (by decide) (by decide) (by omega) (by decide)] at hr
  cases hr
 | ok t=>
  obtain⟨v,k,f⟩:=t;obtain⟨D,J,I,G,B⟩:=Zcl hr;rw[hr] at c;have i:(Gv (Qd H)).1.first=(f:Int):=by rw[c]
  rw[i,l f (by omega) (by omega)]
  have b:ZbB H kind=if v=3∧(k:Int)=kind then some f else none:=by unfold ZbB;rw[hr]
  have u:((f:Int)).toNat=f:=by omega
  rw[u];have q:=p f (by omega) (by omega)
  rw[u] at q;by_cases e:v=3∧(k:Int)=kind
  ·rw[b,zab e]
   refine⟨?_,fun C j=>by rw[zak j],by omega,by omega⟩
   have E:kind.toNat=k:=by omega
   rw[D,e.1,E];exact zah rfl
  ·rw[b,zaa e]
   refine⟨zae fun a=>?_,(fun C j=>by cases j),by omega,by omega⟩
   have y:=Zgv g q a;have d:=ZfS (v:=3) (k:=kind.toNat) (f:=f) (by decide) (by decide) (by omega) B
   rw[<-y,hr] at d
   injection d with d
   injection d with h5 h6
   injection h6 with h6 h7
   exact e ⟨h5,by omega⟩
theorem ZnY (m:Value) (H:List UInt8) (kind:Int) (w:World) (z:Rd w m H) (hH:H.length<=90000) (y:0<=kind) (N:kind<6):
 Calls prog 119 #[m,.int .i64 kind] w fun e w'=>∃ x:Int,e=.returned (.tuple #[.int .i64 x,.bool (ZbB H kind).isSome])∧(∀ f,ZbB H kind=some f->x=(f:Int))∧Below w.heap.size w w':=by
 obtain⟨k,E,U,q4⟩:=ZxH (H:=H) (by omega) y N
 have B:=ZZ (Zdj m H w z);rw[ZlW (by omega)] at B
 have p:=Zag [H] (by simp;omega)
 have A:Qf [H]=Qd H:=by simp[Qf]
 rw[A] at p;have X:=Q9 H;have S:(Lib.uvarint H.length).length<=10:=Gh (by omega)
 have i:=ZZ (fun q W (h:Rd W q (Qd H))=>ZjR q (Qd H) W h (by omega) (by rw[p];rfl))
 obtain⟨fs,l⟩:=zgy ((Gv (Qd H)).1.first);have I:=ZZ (fun W=>ZnN 3 kind fs W)
 unfold Zbb at i;unfold Zrb at I;rw[<-l] at k i;have HQ:Hid (∀ f,ZbB H kind=some f->fs=(f:Int)):=ZZ (fun f hf=>by rw[l];exact E f hf)
 have J:=ZZ (fun j D W (ha:Rd W j (Qd H)) (hb:Rd W D (ZgI 3 kind fs))=>ZiU j D _ _ W ha hb)
 rw[k] at J;generalize (ZbB H kind).isSome=af at *;generalize (Gv (Qd H)).1.kind=t at *;generalize ((Gv (Qd H)).2.1:Int)=rn at *;generalize (Gv (Qd H)).2.2=ro at *;generalize (Gv (Qd H)).1.recs=R at *;generalize ZgI 3 kind fs=HL at *;generalize Jj 3 kind fs=he at *;generalize Qd H=FH at *;obtain⟨j,vc,rfl,-⟩:=z;clear k E U q4 p A X S l y N
 go_enter func119,ntmps119
 go_wp2_with fail
 refine B.o.mono ?_;rintro e W1 ⟨q,rfl,G,Q⟩;have v:=ZZ G.rd;have O:=ZZ Q;clear G Q
 go_wp2_with fail
 refine(i.o _ _ v.o).mono ?_;rintro e b ⟨vl,rfl,ae,n⟩;obtain⟨F,lc,rfl,-⟩:=ae;have Z:=ZZ n;have u:=ZZ (O.o.trans (n.mono O.o.size));obtain⟨a,g⟩:=zgy (b.alloc (.cells #[.int .i64 t,.int .i64 fs,.slice F R.length lc] 217));have V:Hid (Bsg a b.heap.size #[.int .i64 t,.int .i64 fs,.slice F R.length lc]):=ZZ (by rw[g];exact zaf b _)
 have L:Hid (Below b.heap.size b a):=ZZ (by rw[g];exact Jw _ _)
 have M:=ZZ (u.o.trans (L.o.mono u.o.size));have aa:=ZZ ((v.o.below Z.o zL).below L.o zL);have C:Hid (∀ W,Below a.heap.size a W->W.cell? ⟨b.heap.size,1,none⟩=some (.int .i64 fs)):=ZZ (fun W hW=>((V.o.below hW zL).cell 1).1)
 have c1:=C.o a (zac _ _);clear n
 go_upto_region 3 with fail
 rw[<-g];clear g
 go_wp2_with fail
 refine(I.o a).mono ?_;rintro e c ⟨v4,rfl,K,d⟩;have ag:=ZZ d;have ab:=ZZ (M.o.trans (d.mono M.o.size));have ad:=ZZ K.rd;have Y:=ZZ (aa.o.below d zL);have ac:Hid (Below a.heap.size a c.drew):=ZZ d.drew;have P:Hid (Below c.heap.size c c.drew):=ZZ (zac _ _).drew;have T:=ZZ (J.o _ _ c.drew (Y.o.below P.o zL) (ad.o.below P.o zL));clear K d c1
 go_upto_region 4 with fail
 go_region_held(fun W=>W.cell? ⟨b.heap.size,1,none⟩=some (.int .i64 fs))
  (first | (with_reducible exact C.o _ ac.o))
  (first | (go_at_call 163;refine T.o.mono ?_;rintro e W5 ⟨rfl,rfl⟩))
 all_goals
  go_wp2;go_ret2;exact⟨fs,rfl,HQ.o,ab.o.drew⟩
theorem ZgM (w:World) (ty:TypeId) (B:Nat) (v:Value) (b:List Rec) (c:Xj w B v b) (f:Value) (l:List Rec) (q:RdR w f l)
 (E:b.length+l.length<=10000000) (e:B<=w.heap.size):
 ∃ v' w',(Builtin.append_ #[29,29] ty #[v,f]).run prog w=.ok v' w'∧Xj w' B v' (b++l)∧Below B w w':=by
 obtain⟨g,i,j,m,A⟩:=zbo Zdg;obtain⟨ao,cap,rfl,C,D,u,_,x⟩:=q
 cases ao with
 | none=>
  have y:=u rfl;subst y;have t:l=[]:=zaj (by omega)
  subst t;have d:=zc5 (P:=prog) w B 29 ty 62 g 7 underlying29 i v b.length (Qt b) c;exact⟨v,w,d,by rw[zcx];exact c,zac _ _⟩
 | some a=>
  obtain⟨v',w',d,z,p,_⟩:=zdc (P:=prog) w B 29 ty 62 g _ 7 56 underlying29 i j m A rfl (by decide) v b.length (Qt b) c a l.length cap (Qt l)
   (Zl l) (RdR.cells x a rfl) (Zbw l) (by unfold maxLen;omega) (by omega) e
  refine⟨v',w',d,?_,?_⟩
  ·unfold Xj
   rw[length_append,ZaA];exact z
  ·exact(zac _ _).grown p e (fun k n=>(zar c k n).1)
theorem ZdX (w:World) {d:Array Oper} {rest:List Oper} {o:Oper} {a:Act} {Q:Exit->Act->World->Prop} (g:o.guard=none) (s x:Operand)
 (p:o.op=.call { callee:=.builtin .append,args:=#[s,x],argTypes:=#[29,29] })
 (B:Nat) (v:Value) (b:List Rec) (q:a.eval s=v) (m:Xj w B v b) (c:Value) (l:List Rec) (u:a.eval x=c) (k:RdR w c l)
 (i:b.length+l.length<=10000000) (f:B<=w.heap.size)
 (h:∀ v' w',Xj w' B v' (b++l)->Below B w w'->wpList prog d Q rest (a.put o.dst v') w'):wpList prog d Q (o::rest) a w:=
 zbr g fun _ t=>by
  obtain⟨v',w',n,j,e⟩:=ZgM w o.type B v b m c l k i f;unfold Oper.wp execOp;simp only [p,resolve,invoke,builtin,zbk,zbn,za7,map_toArray,map_cons,map_nil,q,u,n];exact t _ _ (h v' w' j e)
theorem ZvK {L:List (List UInt8)} (h:q<L.length):L.getD q [] ∈ L:=by
 rw[show L.getD q []=L[q] by simp[List.getD,h]]
 exact getElem_mem _
theorem ZxI {d:List UInt8} {n:Int} (h:DecB d l n):(n=0∧ZdK d=some l∧Yc l)∨(n=3∧ZdK d=none):=by
 rcases h with ⟨b,c,a⟩ | ⟨b,c,a⟩
 ·exact .inl ⟨b,by rw[<-a];exact ZmL c,c⟩
 ·refine .inr ⟨b,?_⟩
  unfold ZdK;rw[zaa fun e=>a _ e.1 e.2]
theorem ZaC (first:Int) (d:List UInt8) (t:List (List UInt8)) (a:List Rec):Ys first (d::t) a=match ZdK d with
 | none=>a
 | some l=>if(l.headD Qi).idx=first+a.length then Ys first t (a++l) else a:=by
 rw[Ys]
 cases ZdK d <;> rfl
def Zqb (L:List (List UInt8)) (kind:Int):Option (Nat × List Rec):=
 match L with
 | []=>none
 | H::B=>(ZbB H kind).map fun f=>(f,Ys f B [])
theorem Zmh (b:List UInt8) (kind:Int):ZoH b kind=Zqb (Qp b).1 kind:=by
 unfold ZoH Zqb
 cases (Qp b).1 <;> rfl
def ZvL (w:World) (o:Option (Nat × List Rec)) (e:Ending) (w':World):Prop:=
 ∃ (x:Int) (a:Option Addr) (n c:Nat),e=.returned (.tuple #[.int .i64 x,.slice a n c,.bool o.isSome])∧(∀ f l,o=some (f,l)->x=(f:Int)∧Xj w' w.heap.size (.slice a n c) l)∧Below w.heap.size w w'
theorem Xj.rdF (h:Xj w B v l) (a:∀ r ∈ l,Qz r):RdR w v l:=h.rd fun r b=>ZaQ (a r b)
theorem ZiX (vb:Value) (b:List UInt8) (kind:Int) (w:World) (hr:Rd w vb b) (hb:b.length<=90000) (aW:0<=kind) (be:kind<6):
 Calls prog 77 #[vb,.int .i64 kind] w fun e w'=>ZvL w (ZoH b kind) e w':=by
 have ai:=ZZ (ZkG vb b w hr (by omega))
 obtain⟨V,aG⟩:=ZeQ b;rw[Zmh];obtain⟨va,vc,rfl,-⟩:=hr;generalize (Qp b).2.1=tk at *;generalize (Qp b).1=L at *;obtain⟨u,ae⟩:∃ u:Option (Nat × List Rec),u=Zqb L kind:=⟨_,rfl⟩;rw[<-ae];have R:=ZZ ae;clear ae;have bD:(L.length:Int)<=100000:=by omega
 by_cases S:L.length=0
 ·have e:L=[]:=zaj S
  have z:Hid (u=none):=ZZ (by rw[R.o,e];rfl)
  have aT:((L.length:Int) == 0)=true:=by rw[za8];omega
  clear S e V aG R
  go_enter func77,ntmps77
  go_wp2;go_step3
  go_wp2_with fail
  refine ai.o.mono ?_;rintro e N ⟨v1,rfl,D,Q⟩;have P:=ZZ Q;obtain⟨a1,c1,aq,-⟩:=D.rd;subst aq;clear D Q;go_wp2
  try rw[zeq]
  go_ret3
  rw[z.o];exact⟨0,_,_,_,rfl,(fun f l i=>by cases i),P.o⟩
 have aN:L≠[]:=fun e=>S (by rw[e];rfl)
 have aT:((L.length:Int) == 0)=false:=zad.2 (by omega)
 have bv:(0:Int)<(L.length:Int):=by omega
 have ap:L.getD 0 []=L.headD []:=by cases L <;> rfl
 have ax:Hid (u=(ZbB (L.headD []) kind).map fun(f:Nat)=>(f,Ys (f:Int) L.tail [])):=ZZ (by
  rw[R.o]
  cases L with
  | nil=>exact absurd rfl aN
  | cons H B=>rfl)
 have ay:(L.headD []).length<=90000:=by
  rw[<-ap];have:=(V (L.getD 0 []) (by rw[show L.getD 0 []=L[0]'(by omega) by simp[List.getD,show 0<L.length by omega]];exact getElem_mem _)).2
  omega
 have aA:=ZZ (fun O W (h:Rd W O (L.headD []))=>ZnY O (L.headD []) kind W h ay aW be)
 have a5:=ZZ (fun(q:Nat) (hq:q<L.tail.length) O W (h:Rd W O (L.tail.getD q []))=>ZgL O (L.tail.getD q []) W h (by
  have hm:L.tail.getD q [] ∈ L:=List.mem_of_mem_tail (ZvK hq);have:=(V _ hm).2
  omega))
 have bm:L.tail.length<=20000:=by rw[List.length_tail];omega
 clear V aG R S
 go_enter func77,ntmps77
 go_wp2;go_step3
 go_wp2_with fail
 refine ai.o.mono ?_;rintro e N ⟨v1,rfl,D,Q⟩;have P:=ZZ Q;have af:=ZZ D.rd;obtain⟨a1,c1,aq,-⟩:=D.rd;subst aq;clear D Q;obtain⟨b0,o0,x0,rfl,az,U⟩:=af.o.at 0 (by omega)
 obtain⟨am,cm,al,ag⟩:=ZvA N _ L L.length c1 rfl af.o 1 (by omega)
 rw[List.drop_one] at al ag;rw[ap] at U;have km:=ag 1 rfl;have aI:=ZZ al;have aD:=az N (zac _ _);have aB:=ZZ (U N (zac _ _));obtain⟨a0,q0,bn,-⟩:=U N (zac _ _);subst bn;rw[zcw] at aD;clear al ag az U ap af ai aN;generalize L.tail=B at *;generalize L.headD []=H at *;generalize a4:H.length=hl at *;clear a4 ay
 go_wp2_with fail
 refine(aA.o _ _ aB.o).mono ?_;rintro e p ⟨x,rfl,aP,ar⟩;have y:=ZZ (P.o.trans (ar.mono P.o.size));have aR:=ZZ (aI.o.below ar zL);have aJ:=ZZ aP;clear aP ar aD aB aI aA P
 cases i:ZbB H kind with
 | none=>
  have z:Hid (u=none):=ZZ (by rw[ax.o,i];rfl)
  clear i;simp only [zd3];go_wp2
  try rw[zeq]
  go_ret3
  rw[z.o];exact⟨0,_,_,_,rfl,(fun f l h'=>by cases h'),y.o⟩
 | some f=>
  obtain rfl:=aJ.o f i
  have bc:f<4611686018427387904:=by
   unfold ZbB at i;split at i
   ·rename_i v k f' a7
    split at i
    ·have:=(Zcl a7).2.2.2.2
     rw[<-zak i];exact this
    ·cases i
   ·cases i
  have z:Hid (u=some (f,Ys f B [])):=ZZ (by rw[ax.o,i];rfl)
  simp only [zd4];obtain⟨j,aj⟩:∃ j:Int,j=(f:Int):=⟨_,rfl⟩;have ad:=ZZ aj;have bt:0<=j:=by omega
  have bB:j<4611686018427387904:=by omega
  rw[<-aj];clear i aJ ax aj bc;obtain⟨t,aw⟩:=zgy B.length;rw[<-aw] at km aR bm;have aL:=ZZ aw;clear aw;have bx:(t:Int)<=20000:=by omega
  have au:Hid (∀ (wr:World) (K:Value) d,Xj wr w.heap.size K d->Ys f B []=d->Below w.heap.size w wr->ZvL w u (.returned (.tuple #[.int .i64 j,K,.bool true])) wr):=ZZ (fun wr K d ho hk bd=>by
   obtain⟨a,c,rfl⟩:=ho.shape;refine⟨j,a,_,c,by rw[z.o];rfl,fun f' l' Z=>?_,bd⟩
   rw[z.o] at Z;have Z:=zak Z
   injection Z with e1 e2
   rw[<-e1,<-e2,hk]
   exact⟨ad.o,ho⟩)
  go_wp2;go_step3;go_wp2
  go_loopw[11,37] (fun K vi wr=>∃ (q:Nat) (d:List Rec) (a:Option Addr) (n c:Nat),vi=.int .i64 (q:Int)∧q<=t∧K=.slice a n c∧Hid (Xj wr p.heap.size (.slice a n c) d)∧Hid (∀ r ∈ d,Qz r)∧Hid (d.length<=256*q)∧Hid (Ys f B []=Ys f (B.drop q) d)∧Hid (Below p.heap.size p wr)) (fun _ vi _=>t-(intOf vi).toNat)
  case atStart=>exact⟨0,[],none,0,0,rfl,zai _,rfl,ZZ (Xj.nil _ _),ZZ (fun r hr=>by cases hr),ZZ (zai _),ZZ rfl,ZZ (zac _ _)⟩
  case round=>
   obtain⟨q,d,a,n,c,rfl,hq,rfl,HO,a2,aS,ac,X⟩:=hrel;have ab:Hid (Below w.heap.size w wr):=ZZ (y.o.trans (X.o.mono y.o.size));by_cases aU:q<t
   case neg=>
    have e:q=t:=by omega
    have F:=ZZ (au.o wr _ d (HO.o.mono y.o.size) (by
     rw[ac.o,e,aL.o,zez]
     rfl) ab.o)
    clear e;go_wp2
    try rw[zeq]
    go_ret3
    exact F.o
   have av:q<B.length:=by rw[<-aL.o];exact aU
   have br:(q:Int)<(t:Int):=by omega
   have bA:=aS.o;obtain⟨bb,ob,xb,bi,aO,aM⟩:=(aR.o.below X.o zL).at q av;subst bi;have cx:=aO wr (zac _ _);have aE:=aM wr (zac _ _);have G:=ZZ (a5.o q av _ wr aE);unfold ZaP at G;have m:Hid (Ys f B []=Ys f (B.getD q []::B.drop (q+1)) d):=ZZ (by rw[ac.o,drop_one av])
   rw[ZaC] at m;obtain⟨xa,xc,bl,-⟩:=aE;subst bl;generalize B.getD q []=dq at *;generalize aC:dq.length=dl at *;have bo:=ZZ aC;clear aC aO aM ac
   go_wp2_with fail
   refine G.o.mono ?_;rintro e I ⟨v3,g,n3,rfl,J,Y,C⟩;have aK:Hid (Below p.heap.size p I):=ZZ (X.o.trans (C.mono X.o.size));have aF:Hid (Below w.heap.size w I):=ZZ (ab.o.trans (C.mono ab.o.size));have T:=ZZ (HO.o.below C zL);have bf:=ZZ J;rcases ZxI Y with ⟨rfl,E,M⟩ | ⟨rfl,E⟩
   case inr=>
    have F:=ZZ (au.o I _ d (T.o.mono y.o.size) (by rw[m.o,E]) aF.o)
    clear E Y J C m G cx;go_wp2
    try rw[zeq]
    go_ret3
    exact F.o
   have aH:1<=g.length:=M.1;have bu:g.length<=256:=M.2.1;obtain⟨ra,rc,a8,-,-,-,-,a3⟩:=id J;subst a8;rcases a3 with bk | ⟨rb,ro,rfl,aa⟩
   ·rw[bk] at aH;simp at aH
   have ak:g.getD 0 Qi=g.headD Qi:=by cases g <;> rfl
   have ci:=(aa 0 (by omega)).1
   rw[ak,zc3,zcw] at ci;rw[E] at m
   dsimp only at m
   have bq:(d.length:Int)<=6000000:=by omega
   have an:Hid (n=d.length):=ZZ (by
    obtain⟨a9,c9,e9⟩:=T.o.shape
    injection e9 with _ e9 _)
   have bz:n<=6000000:=by rw[an.o];omega
   have bC:(n:Int)<=6000000:=by omega
   have bw:IntKind.i64.wrap (j+(n:Int))=j+n:=by rw[zbe];omega
   have bp:(0:Int)<(g.length:Int):=by omega
   by_cases A:(g.headD Qi).idx=j+n
   case neg=>
    have F:=ZZ (au.o I _ d (T.o.mono y.o.size) (by rw[m.o,zaa (by rw[<-ad.o,<-an.o];exact A)]) aF.o)
    have aX:((g.headD Qi).idx != j+(n:Int))=true:=by rw[zbf];exact A
    generalize (g.headD Qi).idx=ix at *;clear E Y J C m G cx aa ak M A;go_wp2
    try rw[zeq]
    go_ret3
    exact F.o
   have aX:((g.headD Qi).idx != j+(n:Int))=false:=by rw[A];simp
   have aZ:Hid (Ys f B []=Ys f (B.drop (q+1)) (d++g)):=ZZ (by rw[m.o,zab (by rw[<-ad.o,<-an.o];exact A)])
   have ba:Hid (∀ r ∈ d++g,Qz r):=ZZ (fun r hr=>by
    rcases zaw.1 hr with hr | hr
    ·exact a2.o r hr
    ·exact M.2.2.1 r hr)
   have a6:Hid ((d++g).length<=256*(q+1)):=ZZ (by rw[length_append];omega)
   have aV:Hid (d.length+g.length<=10000000):=ZZ (by omega)
   have bj:Hid (p.heap.size<=I.heap.size):=ZZ aK.o.size;generalize (g.headD Qi).idx=ix at *;clear E Y J C m G cx aa ak M A
   go_wp2_with(at_builtin;refine ZdX _ rfl _ _ rfl p.heap.size _ d rfl T.o _ g rfl bf.o (by have:=aV.o;omega) bj.o ?_)
   intro v4 W4 ao aQ;have aY:=ZZ ao
   obtain⟨y1,y2,y3,hy⟩:∃ a n c,v4=Value.slice a n c:=by
    obtain⟨a,c,i⟩:=ao.shape;exact⟨a,_,c,i⟩
   subst hy;have bg:Hid (Below p.heap.size p W4):=ZZ (aK.o.trans aQ);clear ao aQ;go_wp2;go_roundw
   case rel=>exact⟨q+1,d++g,y1,y2,y3,by go_num,by omega,rfl,aY,ba,a6,aZ,bg⟩
   case measure=>simp[intOf];omega
structure Zzf (g:Lgb):Prop where
 f0:0<=g.first
 f1:g.first<=4611686018427387904
 rl:g.recs.length<=9000000
 pl:g.pcs.length<=900000
 st:∀ p ∈ g.pcs,0<=p.stop∧p.stop<=4611686018427387904
def Jk (d:Dk) (kind:Int) (l:List Int) (q:Nat):Lgb:=(l.take q).foldl (logOne d kind) ZaE
theorem ZfV (d:Dk) (kind:Int) (l:List Int) (q:Nat) (a:q<l.length):Jk d kind l (q+1)=logOne d kind (Jk d kind l q) (l.getD q 0):=by
 unfold Jk;rw[zb4,zdf,show l.getD q 0=l[q] by simp[List.getD,a]]
 simp[a]
theorem ZiY (d:Dk) (kind:Int) (l:List Int) (q:Nat) (a:q=l.length):Jk d kind l q=l.foldl (logOne d kind) ZaE:=by
 subst a;unfold Jk;rw[zb1]
def ZvM (w:World) (g:Lgb) (e:Ending) (w':World):Prop:=
 ∃ rv pv,e=.returned (.agg #[.int .i64 g.first,rv,pv])∧Xj w' w.heap.size rv g.recs∧w'.ownsRow w.heap.size 108 3 pv g.pcs.length (Q6 g.pcs)∧Below w.heap.size w w'
theorem ZaS {base s:Nat} (h:w.ownsRow base t s v n xs) (d:∀ g,v.ownBlock=some g->b<=g):w.ownsRow b t s v n xs:=by
 obtain⟨e,a⟩:=h;refine⟨e,?_⟩;rcases a with a | ⟨g,cap,cur,c,f,r⟩
 ·exact .inl a
 ·exact .inr ⟨g,cap,cur,c,d g (by rw[c];rfl),r⟩
theorem Ztj {a:TypeId} {s:Nat} (h:Zix t w b o cs rv pv g) (f:w.ownsRow B a s v n xs) (p:a≠t) (l:a≠62) (i:a≠108)
 (m:Ql (ZjN b rv pv) w w'):w'.ownsRow B a s v n xs:=Qh f fun k j=>by
 obtain⟨c,d⟩:=X0 f j;refine m.block k d.lt fun hf=>?_
 rcases hf with hf | hf | hf
 ·subst hf
  exact(d.ne h.blk p) rfl
 ·obtain⟨c',e⟩:=X0 h.recs hf
  exact(d.ne e l) rfl
 ·obtain⟨c',e⟩:=X0 h.pcs hf
  exact(d.ne e i) rfl
theorem Zix.ltF (h:Zix t w b o cs rv pv g):∀ k,ZjN b rv pv k->k<w.heap.size:=fun k hk=>by
 rcases hk with hk | hk | hk
 ·subst hk;exact h.blk.lt
 ·obtain⟨c',a⟩:=X0 h.recs hk
  exact a.lt
 ·obtain⟨c',a⟩:=X0 h.pcs hk
  exact a.lt
structure ZfW (w W0:World) (v:Value) (l:List Int) (rv pv:Value) (g:Lgb) (wr:World):Prop where
 log:Zix 73 wr (w.heap.size+1) 0 #[.int .i64 g.first,rv,pv] rv pv g
 far:∀ k,ZjN (w.heap.size+1) rv pv k->w.heap.size+1<=k
 out:Bk 73 wr w.heap.size #[.int .i64 0,.slice none 0 0,.slice none 0 0]
 row:Qs wr W0.heap.size v l
 old:Below w.heap.size w wr
theorem ZfW.below {b:World} {l:List Int} (h:ZfW w b v l rv pv g wr) (a:Below wr.heap.size wr w'):ZfW w b v l rv pv g w':=
 ⟨h.log.below a,h.far,h.out.keep (a.block _ h.out.lt),h.row.below a zL,h.old.trans (a.mono h.old.size)⟩
theorem ZfW.did {d:World} {l:List Int} {g':Lgb} (h:ZfW w d v l rv pv g wr) (e:ZeM 73 wr (w.heap.size+1) 0 #[.int .i64 g.first,rv,pv] rv pv g' w'):
 ∃ b c,ZfW w d v l b c g' w'∧Ql (ZjN (w.heap.size+1) rv pv) wr w':=by
 obtain⟨b,c,i,a,f⟩:=e;have j:w.heap.size+1<wr.heap.size:=h.log.blk.lt;refine⟨b,c,⟨i,fun k hk=>?_,h.out.keep (a.block _ h.out.lt fun hk=>?_),Ztj h.log h.row (by decide) (by decide) (by decide) a,h.old.trans (a.below (by omega) fun k hk=>?_)⟩,a⟩
 ·rcases f k hk with hk | hk
  ·exact h.far k hk
  ·omega
 ·have:=h.far _ hk
  omega
 ·have:=h.far _ hk
  omega
def ZzS (g:Lgb) (n:Int):Option (Nat × List Rec)->Lgb
 | none=>g
 | some (f,l)=>if g.pcs.length=0∨(f:Int)=g.next then(g.start n f).add l else g
theorem Zqc {F:Nat->Prop} (kind:Int) (w:World) (h:Dsk F w p d N T) (hN:N<=1000000) (hT:T<=1000000000) (aO:0<=kind) (aZ:kind<6) (aQ:∀ n,(Zp d n).1.length<=90000)
 (aR:∀ n f l,ZoH (Zp d n).1 kind=some (f,l)->f<4611686018427387904∧∀ r ∈ l,Qz r) (aT:∀ q,Zzf (Jk d kind (Xk (Qk d) 2) q)):
 Calls prog 35 #[ptr p,.int .i64 kind] w fun e w'=>ZvM w (Jm d kind) e w':=by
 have am:=ZZ (fun W (Z:Below w.heap.size w W)=>Zcj 2 W (h.below Z) hN (by omega) (by omega))
 have bo:=ZZ (fun n (y:I64 n) W (Z:Below w.heap.size w W)=>Zna n y W (h.below Z) hT)
 have bk:=ZZ (fun n vb W (hr:Rd W vb (Zp d n).1)=>ZiX vb _ kind W hr (aQ n) aO aZ)
 have HI:Hid (∀ n ∈ Xk (Qk d) 2,I64 n):=ZZ (by
  obtain⟨L,g1,A,-⟩:=h
  exact fun n y=>by
   have:=Zbg A n (zax.1 y).1
   exact⟨by omega,by omega⟩)
 have al:Hid ((Xk (Qk d) 2).length<=1000000):=ZZ (by
  obtain⟨L,g1,A,g3,-⟩:=h;have h3:=Zbt d d.waits.length;rw[Zdc] at h3;have:=g3.names;refine zas (zdn _ _) ?_;unfold Qk;rw[length_map]
  omega)
 have bc:=ZZ aR;have ak:=ZZ aT;have aP:Jm d kind=(Xk (Qk d) 2).foldl (logOne d kind) ZaE:=rfl;rw[aP];clear h aQ aR aT aP aO aZ;obtain⟨l,hl⟩:=zgy (Xk (Qk d) 2);rw[<-hl] at am HI al ak ⊢;clear hl;obtain⟨t,P⟩:=zgy ((w.alloc (.cells #[.int .i64 0,.slice none 0 0,.slice none 0 0] 73)).alloc (.cells #[.int .i64 0,.slice none 0 0,.slice none 0 0] 73));have aa:Hid (Below w.heap.size w t):=ZZ (by rw[P];exact((zac _ _).alloc zL _).alloc (by simp) _)
 have HY:Hid (Bk 73 t w.heap.size #[.int .i64 0,.slice none 0 0,.slice none 0 0]):=ZZ (by rw[P];exact(zao _ _ _ (by simp)).trans (zaf w _))
 have HX:Hid (Bk 73 t (w.heap.size+1) #[.int .i64 0,.slice none 0 0,.slice none 0 0]):=ZZ (by rw[P];exact ZdR w _ _)
 have bn:Hid (∀ (a b c:Value) (W:World),Below w.heap.size w W->Below w.heap.size w (((W.setCell ⟨w.heap.size,0,none⟩ a).setCell ⟨w.heap.size,1,none⟩ b).setCell ⟨w.heap.size,2,none⟩ c)):=ZZ (fun a b c W Z=>((Z.setCell (p:=⟨w.heap.size,0,none⟩) zL a).setCell (p:=⟨w.heap.size,1,none⟩) zL b).setCell (p:=⟨w.heap.size,2,none⟩) zL c)
 go_enter func35,ntmps35
 go_upto_region 2 with fail
 rw[<-P];clear P
 go_wp2_with fail
 refine(am.o t aa.o).mono ?_;rintro e W1 ⟨v1,rfl,ay,af⟩
 have ax:Hid (ZfW w t v1 l (.slice none 0 0) (.slice none 0 0) ZaE W1):=ZZ (by
  refine⟨(Zix.mk HX.o rfl rfl rfl (Xj.nil _ _) (zcb _ _ _ _)).below af,fun k hk=>?_,HY.o.keep (af.block _ HY.o.lt),ay,aa.o.trans (af.mono aa.o.size)⟩
  rcases hk with hk | hk | hk
  ·omega
  ·cases hk
  ·cases hk)
 obtain⟨a1,K,bp⟩:∃ a c,v1=.slice a l.length c:=ay.shape;subst bp;obtain⟨m,ae⟩:=zgy l.length;rw[<-ae] at ax al;rw[<-ae];have a0:=ZZ ae;clear ay af am ae HX HY aa;have bD:=al.o;have bz:(m:Int)<=1000000:=by omega
 have a6:Hid (∀ (g:Lgb) (rv pv:Value) (W:World),g=l.foldl (logOne d kind) ZaE->ZfW w t (.slice a1 m K) l rv pv g W->ZvM w (l.foldl (logOne d kind) ZaE) (.returned (.agg #[.int .i64 g.first,rv,pv])) (((W.setCell ⟨w.heap.size,0,none⟩ (.int .i64 g.first)).setCell ⟨w.heap.size,1,none⟩ rv).setCell ⟨w.heap.size,2,none⟩ pv)):=ZZ (fun g rv pv W he u=>by
  rw[<-he]
  have hk:∀ k,ZjN (w.heap.size+1) rv pv k->(((W.setCell ⟨w.heap.size,0,none⟩ (.int .i64 g.first)).setCell ⟨w.heap.size,1,none⟩ rv).setCell ⟨w.heap.size,2,none⟩ pv).heap[k]?=W.heap[k]?:=fun k hk=>by
   have:=u.far k hk;rw[zal _ _ _ _ (by show k≠w.heap.size;omega),zal _ _ _ _ (by show k≠w.heap.size;omega),zal _ _ _ _ (by show k≠w.heap.size;omega)]
  refine⟨rv,pv,rfl,Qh (ZaS u.log.recs fun k E=>?_) fun k E=>hk k (.inr (.inl E)),Qh (ZaS u.log.pcs fun k E=>?_) fun k E=>hk k (.inr (.inr E)),bn.o _ _ _ _ u.old⟩
  ·have:=u.far k (.inr (.inl E))
   omega
  ·have:=u.far k (.inr (.inr E))
   omega)
 go_wp2
 go_loopw[16] (fun vi wr=>∃ (q:Nat) (rv pv:Value),vi=.int .i64 (q:Int)∧q<=m∧Hid (ZfW w t (.slice a1 m K) l rv pv (Jk d kind l q) wr)) (fun vi _=>m-(intOf vi).toNat)
 case atStart=>exact⟨0,_,_,rfl,zai _,ax⟩
 case round=>
  obtain⟨q,rv,pv,rfl,hq,j⟩:=hrel;clear ax;by_cases a9:q<m
  case neg=>
   have e:q=m:=by omega
   have HF:=ZZ (a6.o _ rv pv wr (ZiY d kind l q (e.trans a0.o)) j.o);generalize Jk d kind l q=g at *;obtain⟨ra,rc,aw⟩:=j.o.log.recs.shape;obtain⟨pa,pc,aj⟩:=Z8 j.o.log.pcs;subst aw aj;obtain⟨x0,-⟩:=j.o.log.blk.cell 0 rfl;obtain⟨x1,-⟩:=j.o.log.blk.cell 1 rfl;obtain⟨x2,-⟩:=j.o.log.blk.cell 2 rfl;obtain⟨z0,y0⟩:=j.o.out.cell 0 rfl;obtain⟨z1,y1⟩:=j.o.out.cell 1 rfl;obtain⟨z2,y2⟩:=j.o.out.cell 2 rfl;subst e;clear j a6;go_wp2;refine zap (v:=.agg #[.int .i64 g.first,.slice ra g.recs.length rc,.slice pa g.pcs.length pc]) (by simp[results,Tryz.results35,go_sem,z0,z1,z2]) rfl ?_
   exact HF.o
  have X:q<l.length:=by rw[<-a0.o];exact a9
  have bv:(q:Int)<(m:Int):=by omega
  have HS:Hid (Jk d kind l (q+1)=logOne d kind (Jk d kind l q) (l.getD q 0)):=ZZ (ZfV d kind l q X);have I:=ZZ (ak.o q);have aY:=ZZ (ak.o (q+1));obtain⟨nq,aB⟩:=zgy (l.getD q 0);obtain⟨ao,cap,bj,-,-,-,-,aH⟩:=j.o.row.rd HI.o
  injection bj with e1 e2 e3
  rcases aH with aH | ⟨bb,ai,bl,hc⟩
  ·rw[aH] at X;simp at X
  subst e1;subst bl;have cx:=hc q X;rw[<-aB] at cx HS
  have a8:Hid (I64 nq):=ZZ (HI.o nq (by
   rw[aB,show l.getD q 0=l[q] by simp[List.getD,X]]
   exact getElem_mem _))
  clear hc e2 e3 aB;have aL:=ZZ (bo.o nq a8.o wr j.o.old)
  go_wp2_with fail
  refine aL.o.mono ?_;rintro e W2 ⟨v2,rfl,aE,a5⟩;have ag:=ZZ (j.o.below a5);have aW:=ZZ aE.rd;obtain⟨a2,c2,bq,-⟩:=aE.rd;subst bq;clear aE a5 aL j cx;have aV:=ZZ (bk.o nq _ W2 aW.o);generalize (Zp d nq).2=er at *;generalize bd:(Zp d nq).1.length=bB at *;clear bd
  go_wp2_with fail
  refine aV.o.mono ?_;rintro e W3 ⟨x,U,R,Q,rfl,a4,aq⟩;have C:=ZZ (ag.o.below aq);have ad:=ZZ a4;clear a4 aV aW;obtain⟨sg,aC⟩:=zgy (ZoH (Zp d nq).1 kind);have ac:Hid (Jk d kind l (q+1)=ZzS (Jk d kind l q) nq sg):=ZZ (by rw[HS.o,aC];rfl)
  have aA:=ZZ (bc.o nq);rw[<-aC] at aA ad ⊢;generalize Jk d kind l q=g at *;obtain⟨A,O⟩:=zgy (Jk d kind l (q+1));have ab:=ZZ O;rw[<-O] at ac aY;clear aC HS O
  cases sg with
  | none=>
   have G:Hid (Jk d kind l (q+1)=g):=ZZ (by rw[<-ab.o];exact ac.o)
   simp only [zd3];clear aq ad ag;go_wp2;go_roundw
   case rel=>exact⟨q+1,rv,pv,by go_num,by omega,ZZ (by rw[G.o];exact C.o)⟩
   case measure=>simp[intOf];omega
  | some fl=>
   obtain⟨f,i⟩:=fl;obtain⟨rfl,aS⟩:=ad.o f i rfl;obtain⟨bx,aX⟩:=aA.o f i rfl;have aM:=ZZ aX;have ap:=ZZ aS;have aN:Hid (∀ k,ZjN (w.heap.size+1) rv pv k->k<W2.heap.size):=ZZ ag.o.log.ltF;have aD:Hid (A=if g.pcs.length=0∨(f:Int)=g.next then(g.start nq f).add i else g):=ZZ ac.o
   simp only [zd4];clear aX aS aA ad ac aq
   have S:Hid (∀ W,ZfW w t (.slice (some ⟨bb,ai,none⟩) m K) l rv pv g W->Xj W W2.heap.size (.slice U R Q) i->Calls prog 53 #[.pointer (some ⟨w.heap.size+1,0,none⟩),.int .i64 nq,.int .i64 (f:Int)] W fun e w'=>e=.returned (.tuple #[])∧∃ H J,Hid (ZfW w t (.slice (some ⟨bb,ai,none⟩) m K) l H J (g.start nq f) w')∧Hid (RdR w' (.slice U R Q) i)):=ZZ (fun W u ho=>by
    refine(Zkz 73 (by decide) (by decide) (w.heap.size+1) 0 _ rv pv g nq f W u.log (by have:=I.o.pl;omega)).mono ?_
    rintro e w' ⟨rfl,hd⟩;obtain⟨H,J,aF,br⟩:=u.did hd;refine⟨rfl,H,J,ZZ aF,ZZ (Xj.rdF (B:=W2.heap.size) (Qh ho fun k hk=>?_) aM.o)⟩
    have bg:=zar ho k hk;refine br.block k bg.2 fun hf=>?_
    have:=aN.o k hf
    omega)
   have z:Hid (A=(g.start nq f).add i->∀ H J W,ZfW w t (.slice (some ⟨bb,ai,none⟩) m K) l H J (g.start nq f) W->RdR W (.slice U R Q) i->Calls prog 54 #[.pointer (some ⟨w.heap.size+1,0,none⟩),.slice U R Q] W fun e w'=>e=.returned (.tuple #[])∧∃ aJ au,Hid (ZfW w t (.slice (some ⟨bb,ai,none⟩) m K) l aJ au ((g.start nq f).add i) w')):=ZZ (fun O H J W u hr=>by
    have aK:=aY.o.rl;rw[O] at aK
    have bC:(g.start nq f).recs.length+i.length<=9000000:=by
     have e:((g.start nq f).add i).recs=(g.start nq f).recs++i:=rfl;rw[e,length_append] at aK;exact aK
    have bw:(g.start nq f).pcs.length=g.pcs.length+1:=by
     show(g.pcs++[_]).length=_;simp
    refine(Zve 73 (by decide) (by decide) (w.heap.size+1) 0 _ H J (g.start nq f) (.slice U R Q) i W u.log hr (by omega) (by have:=I.o.pl;omega) (by omega) (fun p hp=>?_)).mono ?_
    ·have hp':p ∈ g.pcs++[(⟨nq,f,f⟩:Pce)]:=hp
     rcases zaw.1 hp' with hp' | hp'
     ·exact I.o.st p hp'
     ·rw[zaq.1 hp']
      show(0:Int)<=(f:Int)∧(f:Int)<=4611686018427387904;omega
    ·rintro e w' ⟨rfl,hd⟩
     obtain⟨aJ,au,aF,-⟩:=u.did hd
     exact⟨rfl,aJ,au,ZZ aF⟩)
   obtain⟨ra,rc,aw⟩:=C.o.log.recs.shape;obtain⟨pa,pc,aj⟩:=Z8 C.o.log.pcs;subst aw aj;obtain⟨x0,-⟩:=C.o.log.blk.cell 0 rfl;obtain⟨x1,-⟩:=C.o.log.blk.cell 1 rfl;obtain⟨x2,-⟩:=C.o.log.blk.cell 2 rfl;have be:=I.o.f0;have bA:=I.o.f1;have bt:=I.o.rl;have bu:(g.pcs.length:Int)<=900000:=by have:=I.o.pl;omega
   have ba:g.first+(g.recs.length:Int)<=9000000000000000000:=by omega
   have aU:=ZZ (ZlK (w.heap.size+1) 0 g.first ra g.recs.length rc W3 x0 x1 be ba);clear ag aN aM;by_cases M:g.pcs.length=0
   ·have bf:((g.pcs.length:Int) == 0)=true:=by rw[za8];omega
    have D:A=(g.start nq f).add i:=by rw[aD.o,zab (.inl M)]
    have G:Hid (Jk d kind l (q+1)=(g.start nq f).add i):=ZZ (by rw[<-ab.o];exact D)
    replace z:=ZZ (z.o D)
    clear D M
    go_wp2_with fail
    refine(S.o W3 C.o ap.o).mono ?_;rintro e W5 ⟨rfl,an,az,V,Y⟩;clear S
    go_wp2_with fail
    refine(z.o an az W5 V.o Y.o).mono ?_;rintro e W6 ⟨rfl,aG,av,ar⟩;clear z Y V;go_wp2;go_roundw
    case rel=>exact⟨q+1,aG,av,by go_num,by omega,ZZ (by rw[G.o];exact ar.o)⟩
    case measure=>simp[intOf];omega
   have bf:((g.pcs.length:Int) == 0)=false:=zad.2 (by omega)
   go_wp2_with fail
   refine aU.o.mono ?_;rintro e W4 ⟨rfl,aI⟩;have a7:=ZZ (C.o.below aI);have bi:=ZZ (ap.o.below aI zL);clear aI aU C ap x0 x1 x2;by_cases y:(f:Int)=g.first+(g.recs.length:Int)
   ·have bm:((f:Int) == g.first+(g.recs.length:Int))=true:=by rw[za8];exact y
    have D:A=(g.start nq f).add i:=by rw[aD.o,zab (.inr y)]
    have G:Hid (Jk d kind l (q+1)=(g.start nq f).add i):=ZZ (by rw[<-ab.o];exact D)
    replace z:=ZZ (z.o D)
    clear D M y
    go_wp2_with fail
    refine(S.o W4 a7.o bi.o).mono ?_;rintro e W5 ⟨rfl,an,az,V,Y⟩;clear S
    go_wp2_with fail
    refine(z.o an az W5 V.o Y.o).mono ?_;rintro e W6 ⟨rfl,aG,av,ar⟩;clear z Y V;go_wp2;go_roundw
    case rel=>exact⟨q+1,aG,av,by go_num,by omega,ZZ (by rw[G.o];exact ar.o)⟩
    case measure=>simp[intOf];omega
   ·have bm:((f:Int) == g.first+(g.recs.length:Int))=false:=zad.2 y
    have G:Hid (Jk d kind l (q+1)=g):=ZZ (by
     rw[<-ab.o,aD.o,zaa];rintro(h | h)
     ·exact M h
     ·exact y h)
    clear M y S z;go_wp2;go_roundw
    case rel=>exact⟨q+1,_,_,by go_num,by omega,ZZ (by rw[G.o];exact a7.o)⟩
    case measure=>simp[intOf];omega
theorem Zzg:(prog.info? 41).map (fun i=>(i.zero,i.size,i.bytes))=some (some (.agg #[.int .i64 0,.int .i64 0,.slice none 0 0,.bool false,.int .i64 0,.slice none 0 0]),6,80):=by kernel_rfl
def SlX (x:Q0 × Value × Value):Prop:=∃ a n c a' n' c',x.2.1=.slice a n c∧x.2.2=.slice a' n' c'
theorem Zqd (l:List (Q0 × Value × Value)) (h:∀ x ∈ l,SlX x):∀ u ∈ Xv l,u.oneCell'=true:=by
 induction l with
 | nil=>intro u hu;cases hu
 | cons c l b=>
  intro u hu;rw[Xv] at hu;rcases zaw.1 hu with hu | hu
  ·obtain⟨a,n,k,a',n',g,f,d⟩:=h c (zbi ..)
   unfold snC at hu;rw[f,d] at hu;simp only [za6,zc9,zf6] at hu;rcases hu with rfl | rfl | rfl | rfl | rfl | rfl <;> rfl
  ·exact b (fun x e=>h x (za4 _ e)) u hu
theorem ZeX (w:World) (ty:TypeId) (v:Value) (l:List (Q0 × Value × Value)) (h:w.ownsRow 0 41 6 v l.length (Xv l)) (c:Q0 × Value × Value) (i:SlX c) (q:l.length<=10000000):
 ∃ v' w',(Builtin.append_ #[74,74] ty #[v,.slice (some ⟨w.heap.size,0,none⟩) 1 1]).run prog (w.alloc (.cells (snC c) 41))=.ok v' w'∧
  w'.ownsRow 0 41 6 v' (l++[c]).length (Xv (l++[c]))∧(w.alloc (.cells (snC c) 41)).grownBy w' v.ownBlock∧(v'.ownBlock=v.ownBlock∨v'.ownBlock=some (w.heap.size+1)):=by
 obtain⟨e,d,a,b,p⟩:=zbo Zzg
 obtain⟨v',w',k,m,f,_,hl⟩:=zdx (P:=prog) (w.alloc (.cells (snC c) 41)) 0 74 ty 41 e _ 6 80 underlying74 d a b p rfl (by decide) v l.length (Xv l) (zb0 h _)
  ⟨w.heap.size,0,none⟩ 1 1 (Xv [c]) (Zdv [c]) (fun j u g=>by
   rw[zbg,za5,zam _ w.heap.size j _ 41 (0,0) (zaf w _)]
   simpa[Xv] using g) (Zqd [c] (fun x n=>by rw[zaq.1 n];exact i)) (by unfold maxLen;omega) (by omega) (zai _)
 refine⟨v',w',k,?_,f,?_⟩
 ·rw[length_append,Zip]
  exact m
 ·rcases hl with hl | hl
  ·exact .inl hl
  ·exact .inr (by rw[hl];simp)
theorem ZgN (w:World) {b:Array Oper} {rest:List Oper} {o:Oper} {a:Act} {Q:Exit->Act->World->Prop} (e:o.guard=none) (s x:Operand)
 (m:o.op=.call { callee:=.builtin .append,args:=#[s,x],argTypes:=#[74,74] })
 (v:Value) (l:List (Q0 × Value × Value)) (p:a.eval s=v) (h:w.ownsRow 0 41 6 v l.length (Xv l)) (c:Q0 × Value × Value) (j:SlX c) (t:a.eval x=.slice (some ⟨w.heap.size,0,none⟩) 1 1) (f:l.length<=10000000)
 (q:∀ v' w',w'.ownsRow 0 41 6 v' (l++[c]).length (Xv (l++[c]))->(w.alloc (.cells (snC c) 41)).grownBy w' v.ownBlock->(v'.ownBlock=v.ownBlock∨v'.ownBlock=some (w.heap.size+1))->
  wpList prog b Q rest (a.put o.dst v') w'):wpList prog b Q (o::rest) a (w.alloc (.cells (snC c) 41)):=
 zbr e fun _ n=>by
  obtain⟨v',w',k,g,d,i⟩:=ZeX w o.type v l h c j f;unfold Oper.wp execOp;simp only [m,resolve,invoke,builtin,zbk,zbn,za7,map_toArray,map_cons,map_nil,p,t,k];exact n _ _ (q v' w' g d i)
theorem ZeY:∀ (a b:List (SDk->SDk × Int)) (x:SDk),Qv (a++b) x=if(Qv a x).2=0 then Qv b (Qv a x).1 else Qv a x
 | [],b,x=>by simp[Qv]
 | f::a,b,x=>by
  rw[zck,Qv,Qv];by_cases h:(f x).2=0
  ·rw[zab h,zab h]
   exact ZeY a b _
  ·rw[zaa h,zaa h,zaa h]
def ZdY (y:SDk):SDk × Int:=(y,0)
theorem Zdm (g:SDk->SDk × Int) (y:SDk):(Qv [g] y).1=(g y).1∧(Qv [g] y).2=(g y).2:=by
 unfold Qv;split
 ·rename_i h
  exact⟨rfl,h.symm⟩
 ·exact⟨rfl,rfl⟩
theorem Zrg {α:Type} {l:List α} {i:Nat} (a:i<l.length) (z:α):l.take (i+1)=l.take i++[l.getD i z]:=by
 rw[zdm a]
 congr 2
 simp[List.getD,a]
theorem ZnZ (gs:List (SDk->SDk × Int)) (x:SDk) (i:Nat) (b:i<gs.length) (a:(Qv (gs.take i) x).2=0):
 (Qv (gs.take (i+1)) x).1=(gs.getD i ZdY (Qv (gs.take i) x).1).1∧(Qv (gs.take (i+1)) x).2=(gs.getD i ZdY (Qv (gs.take i) x).1).2:=by
 rw[Zrg b ZdY,ZeY,zab a];exact Zdm _ _
theorem ZvN (gs:List (SDk->SDk × Int)) (x:SDk) (i:Nat) (e:i<gs.length) (d:(Qv (gs.take i) x).2=0) (f:(gs.getD i ZdY (Qv (gs.take i) x).1).2≠0):
 (Qv gs x).1=(gs.getD i ZdY (Qv (gs.take i) x).1).1∧(Qv gs x).2=(gs.getD i ZdY (Qv (gs.take i) x).1).2:=by
 have b:=ZnZ gs x i e d
 have c:Qv gs x=Qv (gs.take (i+1)) x:=by
  have a:=ZeY (gs.take (i+1)) (gs.drop (i+1)) x;rw[zbz,zaa (by rw[b.2];exact f)] at a
  exact a
 rw[c];exact b
def Ztk (K0 Kc:Nat->Prop) (pd p:Nat) (r:SDk × Int) (N T:Nat) (X:(Nat->Prop)->World->Prop) (W:World) (e:Ending) (w':World):Prop:=
 e=.returned (.int .i64 r.2)∧∃ Kd:Nat->Prop,(∀ k,Kc k->Kd k)∧(∀ k,Kd k->k<w'.heap.size)∧Ql (fun k=>¬ K0 k) W w'∧SD Kd w' pd p r.1.1 r.1.2 N T∧(r.2=0->X Kd w')
theorem ZvO {K2:Nat->Prop} (b cap:Nat) (fs:Nat->Stp) (gs:List (SDk->SDk × Int)) (x:SDk) (N T n m:Nat) (w:World) (X:Nat->(Nat->Prop)->World->Prop) (L:gs.length<=1000000)
 (U:K0 b) (cs:Array Value) (C:Bk 153 w b cs) (I:∀ i,i<gs.length->cs[i]?=some (fs i).val)
 (R:∀ k,K2 k->k<w.heap.size) (S:SD K2 w pd p x.1 x.2 N T) (M:X 0 K2 w)
 (J:∀ i,i<gs.length->∀ (a:Nat->Prop) W,(∀ k,K2 k->a k)->(∀ k,a k->k<W.heap.size)->Ql (fun k=>¬ K0 k) w W->(Qv (gs.take i) x).2=0->SD a W pd p (Qv (gs.take i) x).1.1 (Qv (gs.take i) x).1.2 (N+n*i) (T+m*i)->X i a W->
  Calls prog (fs i).g ((fs i).bd++(fs i).cp) W fun e w'=>Ztk K0 a pd p (gs.getD i ZdY (Qv (gs.take i) x).1) (N+n*i+n) (T+m*i+m) (X (i+1)) W e w')
 (K:∀ i,i<gs.length->∀ args W,(callFunc (fs i).g args).run prog W=.ok (.enter (fs i).g args) W):
 Calls prog 62 #[.slice (some ⟨b,0,none⟩) gs.length cap] w fun e w'=>Ztk K0 K2 pd p (Qv gs x) (N+n*gs.length) (T+m*gs.length) (fun _ _=>True) w e w':=by
 refine(Znx b 0 cap gs.length fs w
  (fun i W=>(Qv (gs.take i) x).2=0∧∃ a:Nat->Prop,(∀ k,K2 k->a k)∧(∀ k,a k->k<W.heap.size)∧Ql (fun k=>¬ K0 k) w W∧SD a W pd p (Qv (gs.take i) x).1.1 (Qv (gs.take i) x).1.2 (N+n*i) (T+m*i)∧X i a W)
  (fun c W=>(Qv gs x).2=c∧∃ a:Nat->Prop,(∀ k,K2 k->a k)∧(∀ k,a k->k<W.heap.size)∧Ql (fun k=>¬ K0 k) w W∧SD a W pd p (Qv gs x).1.1 (Qv gs x).1.2 (N+n*gs.length) (T+m*gs.length)) L ?_ ?_ K ?_).mono ?_
 ·rintro i W j ⟨-,a,-,-,Q,-⟩
  rw[za5];exact((C.keep (Q.block b C.lt (fun O=>O U))).cell i (I i j)).1
 ·rintro i W j ⟨t,a,l,u,f,q,P⟩
  refine(J i j a W l u f t q P).mono ?_;rintro e w' ⟨rfl,B,E,F,G,D,H⟩;refine⟨_,rfl,fun d=>?_,fun d=>?_⟩
  ·obtain⟨y,A⟩:=ZnZ gs x i j t
   refine⟨by rw[A];exact d,B,fun k v=>E k (l k v),F,f.trans G (fun _ _ h=>h),?_,H d⟩
   rw[y,zgr,zgr,<-zbs,<-zbs];exact D
  ·obtain⟨y,A⟩:=ZvN gs x i j t d
   refine⟨A,B,fun k v=>E k (l k v),F,f.trans G (fun _ _ h=>h),?_⟩
   rw[y];refine D.mono ?_ ?_
   ·have:=Nat.mul_le_mul_left n (show i+1<=gs.length from j)
    rw[zgr] at this;omega
   ·have:=Nat.mul_le_mul_left m (show i+1<=gs.length from j)
    rw[zgr] at this;omega
 ·exact⟨rfl,K2,fun _ h=>h,R,Ql.refl _ _,by rw[Nat.mul_zero,Nat.mul_zero];exact S,M⟩
 ·rintro e w' ⟨c,rfl,t,V⟩
  by_cases z:c=0
  ·obtain⟨d,a,l,u,f,q,-⟩:=t z
   rw[zb1] at d q;exact⟨by rw[d,z],a,l,u,f,q,fun _=>trivial⟩
  ·obtain⟨d,a,l,u,f,q⟩:=V z
   exact⟨by rw[d],a,l,u,f,q,fun _=>trivial⟩
theorem Jz.seqD {a:Nat->Prop} {r:SDk × Int} {N' T':Nat} {X:(Nat->Prop)->World->Prop} {e:Ending} (h:Jz a W pd p r N T e w') (m:∀ k,a k->k<W.heap.size) (d:∀ k,K0 k->a k) (f:N<=N') (g:T<=T') (j:Ql (fun k=>¬ a k) W w'->X a w'):Ztk K0 a pd p r N' T' X W e w':=by
 obtain⟨rfl,l,b⟩:=h;exact⟨rfl,a,fun _ h=>h,fun k c=>zav (m k c) b.size,b.mono (fun k c i=>c (d k i)),l.mono f g,fun _=>j b⟩
theorem Rd.keepK {l:List UInt8} (h:Rd w v l) (hv:l=[]∨∀ k,v.ownBlock=some k->K k) (d:Ql (fun k=>¬ K k) w w'):Rd w' v l:=by
 rcases hv with rfl | hv
 ·obtain⟨ao,cap,rfl,f,b,e,g⟩:=h
  exact⟨ao,cap,rfl,f,b,e,.inl rfl⟩
 ·exact h.only d fun k a c=>c (hv k a)
def Gb (n:Q0):List UInt8:=if Z6 n then ZjA n else[]
theorem Ztl (n:Q0):(Gb n).length<=80000:=by
 unfold Gb;split
 ·rename_i h
  unfold ZjA ZaI;rw[Q8,length_append];have c:=Zay h;have e:=Zey (i:=n.idx.toNat) (by have:=h.1;omega) (w:=Xt n) (by omega)
  have a:=J7 (d:=Zbn n.idx.toNat (Xt n)) (by omega)
  have b:=Zaq _ (Xt n) zL;omega
 ·exact zai _
theorem Zqe {v0:Value} (w:World) (h:SD K w pd p s d N T) (hR:w.cell? ⟨R,0,none⟩=some (ptr p)) (C:Bk 53 w Rb #[v0]) (J:K Rb):
 Calls prog 55 #[.pointer (some ⟨R,0,none⟩),.pointer (some ⟨Rb,0,none⟩)] w fun e w'=>e=.returned (.int .i64 (if Z6 s.now then 0 else 1))∧∃ v',Bk 53 w' Rb #[v']∧Rd w' v' (Gb s.now)∧(∀ k,v'.ownBlock=some k->w.heap.size<=k∧k<w'.heap.size)∧
  SD (fun k=>K k∨(w.heap.size<=k∧k<w'.heap.size)) w' pd p s d N T∧Ql (fun k=>k=Rb) w w':=by
 have HS:=ZZ h;have z:=ZZ C;have Z:=ZZ J;obtain⟨F,M,I,L,h1,j,-⟩:=h;have q:=ZZ (ZpI (snV (L.nx s)) s.now w j.now.snV);obtain⟨c0,-,-,-,-,⟨c5,c6,c7,c8,c9,aa⟩,-⟩:=j.cs;obtain⟨t,m,lc,l,y,n,G,O⟩:=j.now.shape;have B:L.nl=.slice t m lc:=G;have A:L.nt=.slice l y n:=O;have V:Hid (snV (L.nx s)=.agg #[.int .i64 s.now.idx,.int .i64 s.now.st.kind,.slice t m lc,.bool s.now.st.shut,.int .i64 s.now.st.eng,.slice l y n]):=ZZ (by unfold snV snC ZdU.nx;rw[B,A])
 rw[V.o] at q;rw[B] at c7;rw[A] at aa;obtain⟨E,x⟩:∃ E:Int,E=if Z6 s.now then 0 else 1:=⟨_,rfl⟩
 have ab:Hid (Calls prog 56 #[.agg #[.int .i64 s.now.idx,.int .i64 s.now.st.kind,.slice t m lc,.bool s.now.st.shut,.int .i64 s.now.st.eng,.slice l y n]] w fun e w'=>∃ v',e=.returned (.tuple #[v',.int .i64 E])∧Own w' w.heap.size v' (Gb s.now)∧Below w.heap.size w w'):=ZZ (by rw[x];exact q.o)
 rw[<-x];have ad:Hid (Gb s.now=Gb s.now):=ZZ rfl;generalize Gb s.now=P at *;generalize s.now.idx=n0 at *;generalize s.now.st.kind=n1 at *;generalize s.now.st.shut=n2 at *;generalize s.now.st.eng=n3 at *;obtain⟨b0,f0⟩:=C.cell 0 rfl;clear h1 j G O B A V q x ad C J
 go_enter func55,ntmps55
 go_wp2_with fail
 refine ab.o.mono ?_;rintro e a ⟨v',rfl,v,D⟩;have U:=ZZ D;have Q:=ZZ v;have W:=ZZ (z.o.keep (D.block _ z.o.lt));obtain⟨f,c,H,-⟩:=v.rd;generalize ac:P.length=g at H;clear ac;subst H;obtain⟨b1,f1⟩:=W.o.cell 0 rfl
 have Y:Hid (∃ v',Bk 53 (a.setCell ⟨Rb,0,none⟩ (.slice f g c)) Rb #[v']∧Rd (a.setCell ⟨Rb,0,none⟩ (.slice f g c)) v' P∧(∀ k,v'.ownBlock=some k->w.heap.size<=k∧k<(a.setCell ⟨Rb,0,none⟩ (.slice f g c)).heap.size)∧
  SD (fun k=>K k∨(w.heap.size<=k∧k<(a.setCell ⟨Rb,0,none⟩ (.slice f g c)).heap.size)) (a.setCell ⟨Rb,0,none⟩ (.slice f g c)) pd p s d N T∧Ql (fun k=>k=Rb) w (a.setCell ⟨Rb,0,none⟩ (.slice f g c))):=ZZ (by
  have X:(a.setCell ⟨Rb,0,none⟩ (.slice f g c)).heap.size=a.heap.size:=ZqD _ _ _ _;have S:=zar Q.o;have ae:=z.o.lt;have u:Ql (fun k=>k=Rb) a (a.setCell ⟨Rb,0,none⟩ (.slice f g c)):=(Ql.refl (fun k=>k=Rb) a).setCell (b:=Rb) 0 (fun _=>rfl) _
  refine⟨_,W.o.set 0 _,?_,fun k i=>by rw[X];exact S k i,?_,(Ql.ofBelow U.o).trans u (fun _ _ h=>h)⟩
  ·exact Q.o.rd.only u fun k i e=>by
    have:=S k i;omega
  ·rw[X]
   exact(HS.o.fresh U.o).onlyK (u.mono (fun k i=>by rw[i];exact .inl Z.o)))
 clear v D;go_wp2;go_ret;exact⟨rfl,Y.o⟩
theorem Ztm (w:World) (h:SD K w pd p s d N T) (t:∀ k,K k->k<w.heap.size) (Q:w.cell? ⟨R,0,none⟩=some (ptr p)) (q:Bk 53 w Rb #[v]) (b:Rd w v (Gb s.now)) (i:Gb s.now=[]∨∀ k,v.ownBlock=some k->K k) (y:N<=1000000) (B:T<=1000000000):
 Calls prog 57 #[.pointer (some ⟨R,0,none⟩),.pointer (some ⟨Rb,0,none⟩)] w fun e w'=>Jz K w pd p (ZbN (s,d)) (N+2) (T+80000) e w':=by
 have g:Hid (∀ W,Below w.heap.size w W->Calls prog 52 #[ptr pd,.int .i64 1,v] W fun e w'=>Jz K W pd p (ZbN (s,d)) (N+2) (T+80000) e w'):=ZZ (fun W c=>(h.below c).step (fun d=>Qy d 1 (Gb s.now)) (fun k a=>zav (t k a) c.size) (fun F A x=>by
  have I:=Ztl s.now;refine(Zkj 1 ⟨by decide,by decide⟩ v (Gb s.now) W A (b.below c zL) (i.imp id fun h k a D=>x k D (h k a)) y B (by omega)).mono ?_
  rintro e w' ⟨C,F',z,E⟩
  exact⟨C,F',z.mono zL (by omega),E⟩))
 obtain⟨⟨H,-⟩,-⟩:=h.cells;have m:Hid (Below w.heap.size w w.drew):=ZZ (zac _ _).drew;obtain⟨L,-⟩:=q.cell 0 rfl;obtain⟨M,J,u,-⟩:=id b;generalize G:(Gb s.now).length=O at u;obtain⟨r,f⟩:=zgy (ZbN (s,d));rw[<-f] at g ⊢;subst u;clear h t f b i q G
 go_enter func57,ntmps57
 go_upto_region 1 with fail
 go_region_with(first | (go_at_call 52;refine(g.o _ m.o).mono ?_;rintro e P ⟨rfl,j,n⟩;have l:=ZZ (And.intro j n);clear j n))
 all_goals
  go_wp2;go_ret;exact⟨rfl,l.o.1,(Ql.ofBelow m.o).trans l.o.2 (fun _ _ h=>h)⟩
theorem Zzh:(prog.info? 153).map (fun i=>(i.zero,i.size,i.bytes))=some (some .nilFunc,1,8):=by kernel_rfl
def Za (l:List Stp):List Value:=l.map Stp.val
theorem ZjX (l:List Stp):(Za l).length=l.length*1:=by simp[Za]
theorem Zqf (l:List Stp):∀ u ∈ Za l,u.oneCell'=true:=fun u a=>by
 obtain⟨s,-,rfl⟩:=zbd.1 a;rfl
theorem Zmi (w:World) (ty:TypeId) (v:Value) (l:List Stp) (h:w.ownsRow 0 153 1 v l.length (Za l)) (c:Stp) (p:l.length<=10000000):
 ∃ v' w',(Builtin.append_ #[106,106] ty #[v,.slice (some ⟨w.heap.size,0,none⟩) 1 1]).run prog (w.alloc (.cells #[c.val] 153))=.ok v' w'∧
  w'.ownsRow 0 153 1 v' (l++[c]).length (Za (l++[c]))∧(w.alloc (.cells #[c.val] 153)).grownBy w' v.ownBlock∧(v'.ownBlock=v.ownBlock∨v'.ownBlock=some (w.heap.size+1)):=by
 obtain⟨f,d,a,b,n⟩:=zbo Zzh
 obtain⟨v',w',k,m,g,_,hl⟩:=zdx (P:=prog) (w.alloc (.cells #[c.val] 153)) 0 106 ty 153 f _ 1 8 underlying106 d a b n rfl (by decide) v l.length (Za l) (zb0 h _)
  ⟨w.heap.size,0,none⟩ 1 1 (Za [c]) (ZjX [c]) (fun j u i=>by
   rw[zbg,za5,zam _ w.heap.size j _ 153 (0,0) (zaf w _)]
   simpa[Za] using i) (Zqf [c]) (by unfold maxLen;omega) (by omega) (zai _)
 refine⟨v',w',k,?_,g,?_⟩
 ·have e:Za (l++[c])=Za l++Za [c]:=by simp[Za]
  rw[length_append,e];exact m
 ·rcases hl with hl | hl
  ·exact .inl hl
  ·exact .inr (by rw[hl];simp)
theorem Zcv (w:World) {b:Array Oper} {rest:List Oper} {o:Oper} {a:Act} {Q:Exit->Act->World->Prop} (e:o.guard=none) (s x:Operand)
 (k:o.op=.call { callee:=.builtin .append,args:=#[s,x],argTypes:=#[106,106] })
 (v:Value) (l:List Stp) (n:a.eval s=v) (h:w.ownsRow 0 153 1 v l.length (Za l)) (c:Stp) (q:a.eval x=.slice (some ⟨w.heap.size,0,none⟩) 1 1) (f:l.length<=10000000)
 (p:∀ v' w',w'.ownsRow 0 153 1 v' (l++[c]).length (Za (l++[c]))->(w.alloc (.cells #[c.val] 153)).grownBy w' v.ownBlock->(v'.ownBlock=v.ownBlock∨v'.ownBlock=some (w.heap.size+1))->
  wpList prog b Q rest (a.put o.dst v') w'):wpList prog b Q (o::rest) a (w.alloc (.cells #[c.val] 153)):=
 zbr e fun _ m=>by
  obtain⟨v',w',j,g,d,i⟩:=Zmi w o.type v l h c f;unfold Oper.wp execOp;simp only [k,resolve,invoke,builtin,zbk,zbn,za7,map_toArray,map_cons,map_nil,n,q,j];exact m _ _ (p v' w' g d i)
theorem Jq.ofLogZ {M I Z:Nat->Prop} {L:ZdU} {b c:Value} (h:Jq M I w p pd L s) (u:∀ k,Z k->¬ I k)
 (a:Zix 76 w' p 1 ((((stC pd L s).setIfInBounds 1 (.int .i64 g.first)).setIfInBounds (1+1) b).setIfInBounds (1+2) c) b c g) (l:Ql (fun k=>k=p) w w') (j:∀ k,ZjN p b c k->ZjN p L.rv L.pv k∨Z k):
 ∃ M' L',Jq M' I w' p pd L' { s with log:=g }∧Ql M w w'∧∀ k,M' k->M k∨Z k:=by
 have f:Ql M w w':=l.mono (fun k hk=>by rw[hk];exact h.mh)
 have n:∀ k,I k->w'.heap[k]?=w.heap[k]?:=fun k hk=>f.block k (h.ltI k hk) fun a=>h.dis k a hk
 have t:((((stC pd L s).setIfInBounds 1 (.int .i64 g.first)).setIfInBounds (1+1) b).setIfInBounds (1+2) c)=stC pd { L with rv:=b,pv:=c } { s with log:=g }:=rfl
 rw[t] at a
 have v:∀ k,ZjN p b c k->k<w'.heap.size:=fun k hk=>by
  rcases hk with rfl | hk | hk
  ·exact a.blk.lt
  ·obtain⟨q,d⟩:=X0 a.recs hk
   exact d.lt
  ·obtain⟨q,d⟩:=X0 a.pcs hk
   exact d.lt
 refine⟨fun k=>M k∨ZjN p b c k,{ L with rv:=b,pv:=c },⟨a.blk,a.recs,a.pcs,Qh h.bases fun k hk=>?_,h.bsEq,h.now.keep h.inow n,fun x m=>(h.base x m).keep (h.ibase x m) n,.inr (.inl rfl),fun k hk=>.inr (.inr (.inl hk)),fun k hk=>.inr (.inr (.inr hk)),fun k hk=>.inl (h.mb k hk),h.inow,h.ibase,fun k hk=>?_,fun k hk=>zav (h.ltI k hk) f.size,fun k hk i=>?_⟩,f,fun k hk=>?_⟩
 ·obtain⟨q,d⟩:=X0 h.bases hk
  exact l.block k d.lt (fun e=>by
   subst e
   exact(d.ne h.head (by decide)) rfl)
 ·rcases hk with hk | hk
  ·exact zav (h.ltM k hk) f.size
  ·exact v k hk
 ·rcases hk with hk | hk
  ·exact h.dis k hk i
  ·rcases j k hk with h1 | h1
   ·exact h.dis k (h.logF k h1) i
   ·exact u k h1 i
 ·rcases hk with hk | hk
  ·exact .inl hk
  ·rcases j k hk with h1 | h1
   ·exact .inl (h.logF k h1)
   ·exact .inr h1
theorem SD.letGo {g:Nat->Prop} (h:SD g w pd p s d N T) (c:∀ k,K k->g k) (z:∀ k,g k->k<w.heap.size) (b:Value) (left:List Pce) (base:Int)
 (C:w.ownsRow 0 108 3 b left.length (Q6 left)) (v:∀ k,b.ownBlock=some k->g k∧¬ K k)
 (E:left.length<=1000000) (A:s.log.recs.length<=1000000) (H:∀ r ∈ s.log.recs,Zcx r) (O:s.log.first<=Zg left base) (J:Zg left base<=s.log.first+s.log.recs.length) (B:0<=s.log.first) (P:s.log.first+s.log.recs.length<=4611686018427387904):
 Calls prog 70 #[.pointer (some ⟨p,1,none⟩),b,.int .i64 base] w fun e w'=>e=.returned (.tuple #[])∧SD K w' pd p { s with log:=s.log.letGo left base } d N T∧Ql (fun k=>¬ K k) w w':=by
 obtain⟨F,M,I,L,u,f,l,j,q,n,D⟩:=h;refine(Zvg 76 (by decide) p 1 (stC pd L s) L.rv L.pv s.log b left base w f.toLog C E A H O J B P).mono ?_
 rintro e w' ⟨rfl,R,Q,G,x⟩
 have i:∀ k,(b.ownBlock=some k∨w.heap.size<=k)->¬ K k∧¬ F k∧¬ M k∧¬ I k:=fun k hk=>by
  rcases hk with hk | hk
  ·have a:=v k hk
   exact⟨a.2,fun hx=>l k hx a.1,fun hx=>j k hx a.1,fun hx=>q k hx a.1⟩
  ·refine⟨fun hx=>?_,fun hx=>?_,fun hx=>?_,fun hx=>?_⟩
   ·have:=z k (c k hx);omega
   ·have:=u.ltF k hx;omega
   ·have:=f.ltM k hx;omega
   ·have:=f.ltI k hx;omega
 obtain⟨M',L',y,t,m⟩:=f.ofLogZ (Z:=fun k=>b.ownBlock=some k∨w.heap.size<=k) (fun k hk=>(i k hk).2.2.2) Q G (fun k hk=>by
  rcases hk with hk | hk | hk
  ·exact .inl (.inl hk)
  ·exact .inr (.inr (x k hk))
  ·exact .inr (.inl hk))
 refine⟨rfl,⟨F,M',I,L',u.only t n,y,fun k hk a=>l k hk (c k a),fun k hk a=>?_,fun k hk a=>q k hk (c k a),fun k hk a=>?_,D⟩,t.mono (fun k hk a=>j k hk (c k a))⟩
 ·rcases m k hk with hx | hx
  ·exact j k hx (c k a)
  ·exact(i k hx).1 a
 ·rcases m k a with hx | hx
  ·exact n k hk hx
  ·exact(i k hx).2.1 hk
theorem Zqg (a:Int) (w:World) (h:SD K w pd p s d N T) (u:∀ k,K k->k<w.heap.size) (B:w.cell? ⟨R,0,none⟩=some (ptr p)) (z:w.cell? ⟨q,0,none⟩=some (.int .i64 a)) (l:I64 a) (g:N<=1000000) (m:T<=1000000000):
 Calls prog 68 #[.pointer (some ⟨R,0,none⟩),.pointer (some ⟨q,0,none⟩)] w fun e w'=>Jz K w pd p (Xm (fun d=>Qj d a) (s,d)) (N+2) T e w':=by
 have c:Hid (∀ W,Below w.heap.size w W->Calls prog 69 #[ptr pd,.int .i64 a] W fun e w'=>Jz K W pd p (Xm (fun d=>Qj d a) (s,d)) (N+2) T e w'):=ZZ (fun W t=>(h.below t).step (fun d=>Qj d a) (fun k v=>zav (u k v) t.size) (fun F x _=>Zkk a l _ x g m))
 obtain⟨⟨y,-⟩,-⟩:=h.cells;have j:Hid (Below w.heap.size w w.drew):=ZZ (zac _ _).drew;obtain⟨r,b⟩:=zgy (Xm (fun d=>Qj d a) (s,d))
 rw[<-b] at c ⊢;clear h u b l g m
 go_enter func68,ntmps68
 go_upto_region 1 with fail
 go_region_with(first | (go_at_call 69;refine(c.o _ j.o).mono ?_;rintro e A ⟨rfl,f,n⟩;have i:=ZZ (And.intro f n);clear f n))
 all_goals
  go_wp2;go_ret;exact⟨rfl,i.o.1,(Ql.ofBelow j.o).trans i.o.2 (fun _ _ h=>h)⟩
theorem Zgw (q:Pce->Bool) (l:List Pce) (j:Nat) (a:j<l.length):(l.take (j+1)).filter q=(l.take j).filter q++if q (l.getD j Zj)=true then[l.getD j Zj] else[]:=by
 rw[Zrg a Zj,zeo]
 congr 1
 rw[zc6];split <;> rfl
def ZjC (R b:Nat):Stp:=⟨68,#[],#[.pointer (some ⟨R,0,none⟩),.pointer (some ⟨b,0,none⟩)]⟩
structure ZdZ (w:World) (R:Nat) (gone left:List Pce) (bx:List Nat) (vs vl:Value) (wr:World):Prop where
 len:bx.length=gone.length
 row:wr.ownsRow 0 153 1 vs (bx.map (ZjC R)).length (Za (bx.map (ZjC R)))
 far:∀ k,vs.ownBlock=some k->w.heap.size<=k
 lrow:wr.ownsRow 0 108 3 vl left.length (Q6 left)
 lfar:∀ k,vl.ownBlock=some k->w.heap.size<=k
 box:∀ j,j<bx.length->w.heap.size<=bx.getD j 0∧vl.ownBlock≠some (bx.getD j 0)∧Bk 108 wr (bx.getD j 0) (pcC (gone.getD j Zj))
 old:Below w.heap.size w wr
theorem ZdZ.start (w:World) (R:Nat):ZdZ w R [] [] [] (.slice none 0 0) (.slice none 0 0) w:=
 ⟨rfl,⟨rfl,.inl ⟨rfl,rfl⟩⟩,(fun k a=>by cases a),⟨rfl,.inl ⟨rfl,rfl⟩⟩,(fun k a=>by cases a),fun j b=>absurd b (zcj _),zac _ _⟩
theorem ZdZ.below {e:List Nat} {d:Value} (h:ZdZ w R gone left e vs d wr) (a:Below wr.heap.size wr w'):ZdZ w R gone left e vs d w':=
 ⟨h.len,Qh h.row fun g c=>a.block g (zar h.row g c).2,h.far,Qh h.lrow fun g c=>a.block g (zar h.lrow g c).2,h.lfar,fun j b=>⟨(h.box j b).1,(h.box j b).2.1,(h.box j b).2.2.keep (a.block _ (h.box j b).2.2.lt)⟩,h.old.trans (a.mono h.old.size)⟩
theorem ZiZ {α:Type} (l:List α) (x z:α) (j:Nat) (a:j<l.length):(l++[x]).getD j z=l.getD j z:=by
 simp[List.getD,zbb a]
theorem Zja {α:Type} (l:List α) (x z:α):(l++[x]).getD l.length z=x:=by
 simp[List.getD]
theorem ZdZ.step {f:List Nat} {p:Value} (h:ZdZ w R gone left f vs p wr) (c:Pce) (a:Below wr.heap.size wr W) (x:Bk 108 W wr.heap.size (pcC c))
 (G:W'.ownsRow 0 153 1 v' (f.map (ZjC R)++[ZjC R wr.heap.size]).length (Za (f.map (ZjC R)++[ZjC R wr.heap.size]))) (i:(W.alloc (.cells #[(ZjC R wr.heap.size).val] 153)).grownBy W' vs.ownBlock) (h3:v'.ownBlock=vs.ownBlock∨v'.ownBlock=some (W.heap.size+1)):
 ZdZ w R (gone++[c]) left (f++[wr.heap.size]) v' p W':=by
 have u:(W.alloc (.cells #[(ZjC R wr.heap.size).val] 153)).heap.size=W.heap.size+1:=by simp
 have J:=a.size;have D:=h.old.size;have I:W.heap.size+1<=W'.heap.size:=by have:=i.size;rw[u] at this;exact this
 have v:∀ k,vs.ownBlock=some k->∃ cs,Bk 153 wr k cs:=fun k d=>X0 h.row d
 have d:∀ k,k<W.heap.size->vs.ownBlock≠some k->W'.heap[k]?=W.heap[k]?:=fun k d B=>by
  rw[i.block k (by rw[u];omega) (fun e=>B e.symm)]
  exact zao _ _ _ (by omega)
 have q:∀ {k:Nat} {cs:Array Value},Bk 108 W k cs->Bk 108 W' k cs:=fun {k cs} b=>b.keep (d k b.lt (fun e=>by
  obtain⟨E,l⟩:=v k e
  exact b.ne (l.keep (a.block _ l.lt)) (by decide) rfl))
 refine⟨by rw[length_append,length_append,h.len];rfl,?_,fun k m=>?_,?_,h.lfar,fun j t=>?_,?_⟩
 ·rw[zc0]
  exact G
 ·rcases h3 with h3 | h3
  ·exact h.far k (by rw[<-h3];exact m)
  ·rw[h3] at m
   have:=zak m;omega
 ·refine Qh h.lrow fun g y=>?_
  obtain⟨cs,b⟩:=X0 h.lrow y
  rw[d g (by have:=b.lt;omega) (fun e=>by
   obtain⟨E,l⟩:=v g e
   exact b.ne l (by decide) rfl)]
  exact a.block g b.lt
 ·rw[length_append] at t
  by_cases e:j<f.length
  ·rw[ZiZ _ _ _ _ e,ZiZ _ _ _ _ (by rw[<-h.len];exact e)]
   obtain⟨z,C,n⟩:=h.box j e;exact⟨z,C,q (n.keep (a.block _ n.lt))⟩
  ·have F:j=f.length:=by simp at t;omega
   rw[F,Zja,h.len,Zja];refine⟨D,fun H=>?_,q x⟩
   have:=(zar h.lrow _ H).2;omega
 ·refine⟨i.os.trans (a.os.trans h.old.os),i.tape.trans (a.tape.trans h.old.tape),i.output.trans (a.output.trans h.old.output),by omega,fun k A=>?_⟩
  rw[d k (by omega) (fun e=>by have:=h.far k e;omega),a.block k (by omega)]
  exact h.old.block k A
theorem ZdZ.leave {p:List Nat} {i:Value} (h:ZdZ w R gone left p vs i wr) (c:Pce) (a:Below wr.heap.size wr W)
 (A:W'.ownsRow 0 108 3 v' (left++[c]).length (Q6 (left++[c]))) (b:(W.alloc (.cells (pcC c) 108)).grownBy W' i.ownBlock) (h3:v'.ownBlock=i.ownBlock∨v'.ownBlock=some (W.heap.size+1)):
 ZdZ w R gone (left++[c]) p vs v' W':=by
 have q:(W.alloc (.cells (pcC c) 108)).heap.size=W.heap.size+1:=by simp
 have E:=a.size;have C:=h.old.size;have B:W.heap.size+1<=W'.heap.size:=by have:=b.size;rw[q] at this;exact this
 have f:∀ k,k<W.heap.size->i.ownBlock≠some k->W'.heap[k]?=W.heap[k]?:=fun k f y=>by
  rw[b.block k (by rw[q];omega) (fun e=>y e.symm)]
  exact zao _ _ _ (by omega)
 refine⟨h.len,?_,h.far,A,fun k l=>?_,fun j z=>?_,?_⟩
 ·refine Qh h.row fun g t=>?_
  obtain⟨cs,m⟩:=X0 h.row t
  rw[f g (by have:=m.lt;omega) (fun e=>by
   obtain⟨D,u⟩:=X0 h.lrow e
   exact m.ne u (by decide) rfl)]
  exact a.block g m.lt
 ·rcases h3 with h3 | h3
  ·exact h.lfar k (by rw[<-h3];exact l)
  ·rw[h3] at l
   have:=zak l;omega
 ·obtain⟨v,n,d⟩:=h.box j z
  refine⟨v,fun e=>?_,(d.keep (a.block _ d.lt)).keep (f _ (by have:=d.lt;omega) n)⟩
  rcases h3 with h3 | h3
  ·exact n (by rw[<-h3];exact e)
  ·rw[h3] at e
   have:=zak e;have:=d.lt;omega
 ·refine⟨b.os.trans (a.os.trans h.old.os),b.tape.trans (a.tape.trans h.old.tape),b.output.trans (a.output.trans h.old.output),by omega,fun k x=>?_⟩
  rw[f k (by omega) (fun e=>by have:=h.lfar k e;omega),a.block k (by omega)]
  exact h.old.block k x
theorem ZdZ.last {d:List Nat} {n:Value} {c:Stp} {l:List Stp} (h:ZdZ w R gone left d vs n wr)
 (_h1:W'.ownsRow 0 153 1 v' l.length (Za l)) (b:(wr.alloc (.cells #[c.val] 153)).grownBy W' vs.ownBlock) (h3:v'.ownBlock=vs.ownBlock∨v'.ownBlock=some (wr.heap.size+1)):
 Below w.heap.size w W'∧W'.ownsRow 0 108 3 n left.length (Q6 left)∧(∀ j,j<d.length->w.heap.size<=d.getD j 0∧Bk 108 W' (d.getD j 0) (pcC (gone.getD j Zj)))∧(∀ k,v'.ownBlock=some k->w.heap.size<=k):=by
 have q:(wr.alloc (.cells #[c.val] 153)).heap.size=wr.heap.size+1:=by simp
 have D:=h.old.size;have B:wr.heap.size+1<=W'.heap.size:=by have:=b.size;rw[q] at this;exact this
 have t:∀ k,vs.ownBlock=some k->∃ cs,Bk 153 wr k cs:=fun k a=>X0 h.row a
 have a:∀ k,k<wr.heap.size->vs.ownBlock≠some k->W'.heap[k]?=wr.heap[k]?:=fun k a y=>by
  rw[b.block k (by rw[q];omega) (fun e=>y e.symm)]
  exact zao _ _ _ (by omega)
 refine⟨⟨b.os.trans h.old.os,b.tape.trans h.old.tape,b.output.trans h.old.output,by omega,fun k x=>?_⟩,?_,fun j z=>?_,fun k i=>?_⟩
 ·rw[a k (by omega) (fun e=>by have:=h.far k e;omega)]
  exact h.old.block k x
 ·refine Qh h.lrow fun g u=>?_
  obtain⟨cs,p⟩:=X0 h.lrow u
  exact a g p.lt (fun e=>by
   obtain⟨A,m⟩:=t g e
   exact p.ne m (by decide) rfl)
 ·obtain⟨v,C,f⟩:=h.box j z
  exact⟨v,f.keep (a _ f.lt (fun e=>by
   obtain⟨A,m⟩:=t _ e
   exact f.ne m (by decide) rfl))⟩
 ·rcases h3 with h3 | h3
  ·exact h.far k (by rw[<-h3];exact i)
  ·rw[h3] at i
   have:=zak i;omega
theorem ZAv {l:List Stp} (h:w.ownsRow 0 153 1 v l.length (Za l)) (e:l.length≠0) (z:Stp):
 ∃ g cap cs,v=.slice (some ⟨g,0,none⟩) l.length cap∧Bk 153 w g cs∧v.ownBlock=some g∧∀ i,i<l.length->cs[i]?=some (l.getD i z).val:=by
 rcases h.2 with ⟨_,f⟩ | ⟨g,cap,cur,a,n,d,p,m,k,j⟩
 ·exact absurd f e
 ·refine⟨g,cap,cur,a,d,by rw[a];rfl,fun i c=>?_⟩
  have b:(Za l)[i]?=some (l.getD i z).val:=by
   unfold Za;simp[List.getD,c]
  rw[<-j,zdq,zab (by omega),zby] at b
  exact b
theorem Zzi {l:List Pce} (h:w.ownsRow 0 108 3 v l.length (Q6 l)) (j:Nat) (e:j<l.length):
 ∃ g cap,v=.slice (some ⟨g,0,none⟩) l.length cap∧w.cell? ⟨g,j*3,none⟩=some (.int .i64 (l.getD j Zj).name)∧w.cell? ⟨g,j*3+1,none⟩=some (.int .i64 (l.getD j Zj).first)∧w.cell? ⟨g,j*3+2,none⟩=some (.int .i64 (l.getD j Zj).stop):=by
 rcases h.2 with ⟨_,n⟩ | ⟨g,cap,cur,b,q,d,t,m,i,f⟩
 ·omega
 ·have p:=Zas l
  have key:∀ k,k<3->w.cell? ⟨g,j*3+k,none⟩=(pcC (l.getD j Zj))[k]?:=fun k c=>by
   have a:=Zci l j k e c;rw[<-f,zdq,zab (by omega),zby] at a
   rw[zam w g _ _ _ _ d];exact a
  exact⟨g,cap,b,key 0 (by decide),key 1 (by decide),key 2 (by decide)⟩
theorem Zoa {α β:Type} (f:α->β) (l:List α) (y z:β) (b:α) (i:Nat) (a:i<l.length):(l.map f++[y]).getD i z=f (l.getD i b):=by
 rw[ZiZ _ _ _ _ (by rw[length_map];exact a)]
 simp[List.getD,a]
theorem Zob {α β:Type} (f:α->β) (l:List α) (y z:β) (i:Nat) (a:i=l.length):(l.map f++[y]).getD i z=y:=by
 have h:=Zja (l.map f) y z;rw[length_map] at h;rw[a];exact h
def Ztn (p R:Nat) (bx:List Nat) (i:Nat):Stp:=(bx.map (ZjC R)++[(⟨64,#[ptr p],#[]⟩:Stp)]).getD i (⟨0,#[],#[]⟩:Stp)
theorem ZvP {cap:Nat} {a:List Nat} (w:World) (U:SD K0 w pd p s d N T) (z:∀ k,K0 k->k<w.heap.size) (O:K0 b) (Z:K0 R) (H:∀ j,j<a.length->K0 (a.getD j 0)∧Bk 108 w (a.getD j 0) (pcC (gone.getD j Zj))) (y:a.length=gone.length)
 (M:Bk 28 w R #[ptr p]) (cs:Array Value) (I:Bk 153 w b cs) (F:∀ i,i<a.length+1->cs[i]?=some (Ztn p R a i).val) (V:∀ q ∈ gone,I64 q.name) (aa:gone.length<=100000) (hN:N<=700000) (hT:T<=900000000):
 Calls prog 62 #[.slice (some ⟨b,0,none⟩) (a.length+1) cap] w fun e w'=>Ztk K0 K0 pd p (Qv ((gone.map fun q=>Xm (fun d=>Qj d q.name))++[Qq]) (s,d)) (N+2*(a.length+1)) T (fun _ _=>True) w e w':=by
 obtain⟨gs,g⟩:=zgy ((gone.map fun q:Pce=>Xm (fun d=>Qj d q.name))++[Qq])
 have Y:gs.length=a.length+1:=by rw[g,length_append,length_map,y];rfl
 rw[<-g,<-Y]
 have C:∀ i,i<a.length->gs.getD i ZdY=Xm (fun d=>Qj d (gone.getD i Zj).name)∧Ztn p R a i=ZjC R (a.getD i 0):=fun i f=>by
  have m:i<gone.length:=by omega
  refine⟨?_,?_⟩
  ·rw[g]
   exact Zoa (fun q:Pce=>Xm (fun d=>Qj d q.name)) gone Qq ZdY Zj i m
  ·unfold Ztn
   exact Zoa (ZjC R) a _ _ 0 i f
 have n:gs.getD a.length ZdY=Qq∧Ztn p R a a.length=⟨64,#[ptr p],#[]⟩:=by
  refine⟨?_,?_⟩
  ·rw[g]
   exact Zob (fun q:Pce=>Xm (fun d=>Qj d q.name)) gone Qq ZdY a.length y
  ·unfold Ztn
   exact Zob (ZjC R) a _ _ a.length rfl
 have A:=ZvO (K0:=K0) (K2:=K0) (pd:=pd) (p:=p) b cap (Ztn p R a) gs (s,d) N T 2 0 w (fun _ _ _=>True) (by omega) O cs I (fun i f=>F i (by omega)) z U trivial (fun i f Kc W B l E h4 t _=>?_) (fun i f args W=>?_)
 ·rw[zc3,zcw] at A
  exact A
 ·rw[zc3,zcw] at t
  have v:∀ k,K0 k->W.heap[k]?=w.heap[k]?:=fun k x=>E.block k (z k x) (fun L=>L x)
  by_cases e:i<a.length
  ·obtain⟨K,X⟩:=C i e
   rw[K,X];obtain⟨J,P⟩:=H i e;have S:=((P.keep (v _ J)).cell 0 rfl).1;have D:=((M.keep (v _ Z)).cell 0 rfl).1
   have Q:(gone.getD i Zj) ∈ gone:=by
    have m:i<gone.length:=by omega
    have:gone.getD i Zj=gone[i]:=by simp[List.getD,m]
    rw[this];exact getElem_mem m
   refine(Zqg (gone.getD i Zj).name W t l D S (V _ Q) (by omega) (by omega)).mono ?_
   intro c G u;exact u.seqD l B zL (by omega) (fun _=>trivial)
  ·have c:i=a.length:=by omega
   subst c;rw[n.1,n.2];refine(ZcM W t l).mono ?_;intro c G u;exact u.seqD l B zL (by omega) (fun _=>trivial)
 ·by_cases e:i<a.length
  ·rw[(C i e).2]
   exact(enters_of func68 (by kernel_rfl) rfl) args W
  ·have c:i=a.length:=by omega
   subst c;rw[n.2];exact(enters_of func64 (by kernel_rfl) rfl) args W
end Go.Proofs.YtnahjngbneicaaaGreatDoor
