import Derived.Test.YtnahjngbneicaaaGreatDoorPack13
namespace Go.Proofs.YtnahjngbneicaaaGreatDoor
open _root_.Go.Proofs.Tryz
open List (getElem_mem length_append length_map length_set map_cons map_nil map_toArray)
set_option maxHeartbeats 4000000
set_option maxRecDepth 100000
open Go.RowKit
variable {W W' w w' wr:World} {pv rv v v' vs:Value} {B N R Rb T b n o p pd:Nat} {d:Dk} {l:List Rec} {s:Sto} {t:TypeId} {xs:List Value} {cs:Array Value} {g:Lgb} {K K0:Nat->Prop} {gone left:List Pce}
structure DIB (w wr:World) (b:List UInt8) (first count g B:Nat) (L:List Rec) (vl:Value) (m:List UInt8) (t:Bool):Prop where
 row:ZjB wr g (L++List.replicate (count-L.length) Qi)
 map:ZfU wr B L.length (Q7 L)
 rd:Rd wr vl m
 le:m.length<=b.length
 read:Zqa b first count L m t
 below:Below w.heap.size w wr
theorem Zmg (L:List Rec):∀ u ∈ Qt L,∃ n,u=Value.int .i64 n:=by
 induction L with
 | nil=>intro u a;simp[Qt] at a
 | cons r t b=>
  intro u a;rw[Qt] at a;rcases List.mem_append.1 a with h | h
  ·simp[Ja] at h
   rcases h with rfl | rfl | rfl | rfl | rfl | rfl | rfl <;> exact⟨_,rfl⟩
  ·exact b u h
theorem Rd.row {m:List UInt8} (h:Rd w v m) {g:Nat} {L:List Rec} (q:ZjB w g L) (l:But g g w w'):Rd w' v m:=by
 obtain⟨k,B,A,t,u,i,d⟩:=h;refine⟨k,B,A,t,u,i,?_⟩;rcases d with d | ⟨c,f,p,x⟩
 ·exact .inl d
 ·refine .inr ⟨c,f,p,fun j z=>?_⟩
  have b:=x j z;by_cases e:c=g
  ·rw[e,(q.cell _).1] at b
   obtain⟨n,i⟩:=Zmg L _ (List.mem_of_getElem? b)
   cases i
  ·have y:c<w.heap.size:=World.block_lt_of_cell? w ⟨c,f+j,none⟩ b
   rw[World.cell?_of_block (a:=⟨c,f+j,none⟩) (l.block c y e e)];exact b
theorem ZfU.row {f:Int->Int} (h:ZfU w b n f) {g:Nat} {L:List Rec} (d:ZjB w g L) (c:But g g w w'):ZfU w' b n f:=by
 have a:b≠g:=fun e=>h.apart d e.symm
 exact h.keep (c.block b h.lt a a)
theorem Zze (L:List Rec) (a:Nat) (b:L.length<a) (r:Rec):(L++List.replicate (a-L.length) Qi).set L.length r=(L++[r])++List.replicate (a-(L++[r]).length) Qi:=by
 have e:a-L.length=(a-(L++[r]).length)+1:=by simp;omega
 rw[e,List.replicate_succ,List.set_append_right _ _ zL,Nat.sub_self];simp
theorem ZgL (vb:Value) (b:List UInt8) (w:World) (hr:Rd w vb b) (bE:b.length<=1000000):
 Calls prog 120 #[vb] w fun e w'=>ZaP w b e w':=by
 have HR:=ZZ hr
 obtain⟨va,vc,rfl⟩:∃ va vc,vb=.slice va b.length vc:=by
  obtain⟨va,vc,rfl,_⟩:=hr;exact⟨va,vc,rfl⟩
 clear hr;have ba:=ZZ (fun q n F=>ZpO (l:=q) (b:=b) n F)
 obtain⟨i,M⟩:∃ i,i=behind (Qb b).2 b:=⟨_,rfl⟩;obtain⟨A,ad⟩:∃ A,A=behind (Qb i).2 i:=⟨_,rfl⟩
 have ar:Hid (∀ W v,Rd W v b->Calls prog 167 #[v,.func (.func 168) #[] #[]] W fun e w'=>∃ v',e=.returned (.tuple #[.int .i64 ((Qb b).1:Nat),v',.bool (decide ((Qb b).2≠0))])∧Rd w' v' i∧Below W.heap.size W w'):=ZZ (fun W v h=>by
  have:=ZdW ((Qb b).1:Nat) (Qb b).2 v b W h (Ju b) (ZcJ v b W h);rw[<-M] at this
  exact this)
 have ae:Hid (∀ W v,Rd W v i->Calls prog 167 #[v,.func (.func 168) #[] #[]] W fun e w'=>∃ v',e=.returned (.tuple #[.int .i64 ((Qb i).1:Nat),v',.bool (decide ((Qb i).2≠0))])∧Rd w' v' A∧Below W.heap.size W w'):=ZZ (fun W v h=>by
  have:=ZdW ((Qb i).1:Nat) (Qb i).2 v i W h (Ju i) (ZcJ v i W h);rw[<-ad] at this
  exact this)
 have l1:=Je (Qb b).2 b;have l2:=Je (Qb i).2 i;rw[<-M] at l1;rw[<-ad] at l2
 have c1:(Qb b).1<4611686018427387904:=by
  rcases Xf b with h | h
  ·rw[h];decide
  ·exact h.1
 have HW:Hid (∀ q,Yc q->X9 q=b->(Qb i).2≠0∧q.length=(Qb i).1∧A=Yg [] q∧(q.headD Qi).idx=((Qb b).1:Nat)):=ZZ (fun q n F=>by
  obtain⟨g1,g2,g3,g4,g5⟩:=ba.o q n F;rw[Yv g2] at M;rw[<-M] at g3 g4 g5;rw[Yv g4] at ad;refine⟨g4,g3.symm,?_,g1.symm⟩;rw[<-List.drop_drop,<-M,<-ad] at g5
  exact g5)
 have HS:Hid ((Qb i).2≠0->b=Lib.uvarint (Qb b).1++(Lib.uvarint (Qb i).1++A)):=ZZ (fun h=>by
  have h1:(Qb b).2≠0:=Zcn (l:=b) (by rw[<-M];exact Ztf h)
  have Q:=ZiV h1;have K:=ZiV h;rw[<-M] at Q;rw[<-ad] at K
  exact Q.trans (congrArg (Lib.uvarint (Qb b).1++·) K))
 have bp:Hid (∀ W v l,RdR W v l->Calls prog 48 #[v] W fun e w'=>e=.returned (.bool (decide (Yc l)))∧Below W.heap.size W w'):=ZZ (fun W v l h=>ZbF v l W h)
 clear M ad ba;generalize decide ((Qb b).2≠0)=T0 at *;generalize (Qb b).1=first at *;generalize (Qb i).1=g at *;obtain⟨T1,V⟩:∃ T1,T1=decide ((Qb i).2≠0):=⟨_,rfl⟩;rw[<-V] at ae;by_cases ag:(Qb i).2=0∨256<g
 ·have z:Hid (∀ q,Yc q->X9 q≠b):=ZZ (fun q n F=>by
   obtain⟨g1,g2,_⟩:=HW.o q n F;have:=n.2.1
   omega)
  by_cases O:(Qb i).2=0
  ·have n:T1=false:=by rw[V];exact decide_eq_false (fun h=>h O)
   subst n;clear ag HW HS O V
   go_enter func120,ntmps120
   go_wp2_with fail
   refine(ar.o _ _ HR.o).mono ?_;rintro e W1 ⟨v1,rfl,y,J⟩;obtain⟨a1,n1,Q,-⟩:=id y;subst Q;have aa:=ZZ y;have E:=ZZ J;clear y J
   go_wp2_with fail
   refine(ae.o _ _ aa.o).mono ?_;rintro e f ⟨v2,rfl,G,I⟩;obtain⟨a2,n2,K,-⟩:=id G;subst K;have N:=ZZ (E.o.trans (I.mono E.o.size));clear G I;go_wp2;go_ret2;exact ZaP.none z.o N.o
  ·have n:T1=true:=by rw[V];exact decide_eq_true O
   subst n;have bB:256<(g:Int):=by omega
   clear ag HW HS O V
   go_enter func120,ntmps120
   go_wp2_with fail
   refine(ar.o _ _ HR.o).mono ?_;rintro e W1 ⟨v1,rfl,y,J⟩;obtain⟨a1,n1,Q,-⟩:=id y;subst Q;have aa:=ZZ y;have E:=ZZ J;clear y J
   go_wp2_with fail
   refine(ae.o _ _ aa.o).mono ?_;rintro e f ⟨v2,rfl,G,I⟩;obtain⟨a2,n2,K,-⟩:=id G;subst K;have N:=ZZ (E.o.trans (I.mono E.o.size));clear G I;go_wp2;go_ret2;exact ZaP.none z.o N.o
 have O:(Qb i).2≠0:=fun h=>ag (.inl h)
 have bt:g<=256:=Nat.le_of_not_lt (fun h=>ag (.inr h))
 have n:T1=true:=by rw[V];exact decide_eq_true O
 subst n
 have a9:Hid (Zqa b first g [] A true):=ZZ ⟨trivial,(fun r h=>by simp at h),(fun _ _=>HS.o O),(fun h=>by cases h),fun q n F=>by
  obtain⟨g1,g2,g3,g4⟩:=HW.o q n F
  exact⟨g2,by simp,by simpa using g3,rfl,g4⟩⟩
 have bH:¬ 256<(g:Int):=by omega
 have a4:=Zmf;have bo:∀ W:World,(Instr.makeSlice 29 (.int .i64 (g:Int)) (.int .i64 (g:Int))).run prog W=.ok (.slice (some ⟨W.heap.size,0,none⟩) g g) (W.alloc (.cells (Qt (List.replicate g Qi)).toArray 62)):=fun W=>a4 W g (by omega)
 have bA:=@run_makeMap prog;have bm:A.length<=b.length:=by omega
 clear ag HW HS O V a4 l1 l2;obtain⟨Y,aF⟩:∃ Y,Y=(Qt (List.replicate g Qi)).toArray:=⟨_,rfl⟩;rw[<-aF] at bo;have bu:=ZZ aF;clear aF
 go_enter func120,ntmps120
 go_wp2_with fail
 refine(ar.o _ _ HR.o).mono ?_;rintro e W1 ⟨v1,rfl,y,J⟩;obtain⟨a1,n1,Q,-⟩:=id y;subst Q;have aa:=ZZ y;have E:=ZZ J;clear y J
 go_wp2_with fail
 refine(ae.o _ _ aa.o).mono ?_;rintro e f ⟨v2,rfl,G,I⟩;obtain⟨a2,n2,K,-⟩:=id G;subst K;have a8:=ZZ G;have N:=ZZ (E.o.trans (I.mono E.o.size));clear G I aa E ar ae
 have bg:Hid (DIB w ((f.alloc (.cells Y 62)).alloc (.map #[] 0)) b first g f.heap.size (f.heap.size+1) [] (.slice a2 A.length n2) A true):=ZZ (by
  have u:Below f.heap.size f ((f.alloc (.cells Y 62)).alloc (.map #[] 0)):=((Below.refl _ _).alloc zL _).alloc (by simp) _
  have hs:(f.alloc (.cells Y 62)).heap.size=f.heap.size+1:=by simp
  refine⟨?_,?_,a8.o.below u zL,bm,a9.o,N.o.trans (u.mono N.o.size)⟩
  ·rw[List.nil_append,List.length_nil,Nat.sub_zero]
   unfold ZjB;rw[<-bu.o];exact(Below.heap_alloc _ _ _ (by simp)).trans (heap_alloc_new f _)
  ·have h:=ZfU.made (f.alloc (.cells Y 62))
   rw[hs] at h
   exact h)
 have z:=ZZ N.o.size;clear a8 N a9;go_wp2
 go_loopw[5,8,35] (fun vl vt vi wr=>∃ (t:Bool) (L:List Rec) (m:List UInt8),vt=.bool t∧vi=.int .i64 (L.length:Int)∧L.length<=g∧Hid (DIB w wr b first g f.heap.size (f.heap.size+1) L vl m t)) (fun _ _ vi _=>g-(intOf vi).toNat)
 case atStart=>exact⟨true,[],A,rfl,rfl,Nat.zero_le _,bg⟩
 case round=>
  clear bg;obtain⟨t,L,m,rfl,rfl,hk,p⟩:=hrel;by_cases aL:L.length<g
  case neg=>
   obtain rfl:g=L.length:=by omega
   have bJ:¬ (L.length:Int)<(L.length:Int):=by omega
   have aP:=p.out.row;rw[Nat.sub_self,List.replicate_zero,List.append_nil] at aP;have a5:=ZZ (aP.rd p.out.read.ok (by unfold maxLen;omega))
   have an:=ZZ (bp.o wr _ L a5.o);have af:=ZZ p.out.read.done.1;have U:=ZZ p.out.read.done.2;have Z:=ZZ p.out.below
   obtain⟨H,C,aN⟩:∃ H C,u5=.slice H m.length C:=by
    obtain⟨H,C,h,-⟩:=p.out.rd;exact⟨H,C,h⟩
   subst aN;clear aP p
   cases t with
   | false=>
    have aj:=ZZ (U.o (fun h=>by cases h.1))
    clear af U;go_wp2;go_ret2;exact ZaP.none aj.o Z.o
   | true=>
    by_cases hm:m=[]
    case neg=>
     have aj:=ZZ (U.o (fun h=>hm h.2.1))
     have bl:0<m.length:=Nat.pos_of_ne_zero (fun e=>hm (List.eq_nil_of_length_eq_zero e))
     clear af U hm;generalize m.length=ln at *;have bD:decide (0<ln)=true:=decide_eq_true bl;go_wp2;go_ret2;exact ZaP.none aj.o Z.o
    subst hm;by_cases n:Yc L
    ·have HE:=ZZ (af.o ⟨rfl,rfl,n⟩)
     rw[decide_eq_true n] at an;have br:=ZZ n;clear af U n
     go_wp2_with fail
     refine an.o.mono ?_;rintro e W3 ⟨rfl,u⟩;have T:=ZZ (Z.o.trans (u.mono Z.o.size));have aw:=ZZ (a5.o.below u zL);clear u;go_wp2;go_ret2;exact⟨_,L,0,rfl,aw.o,.inl ⟨rfl,br.o,HE.o⟩,T.o⟩
    ·have aj:=ZZ (U.o (fun h=>n h.2.2))
     rw[decide_eq_false n] at an;clear af U n
     go_wp2_with fail
     refine an.o.mono ?_;rintro e W3 ⟨rfl,u⟩;have T:=ZZ (Z.o.trans (u.mono Z.o.size));clear u;go_wp2;go_ret2;exact ZaP.none aj.o T.o
  have bz:(L.length:Int)<(g:Int):=by omega
  obtain⟨R,d,m',t',hT⟩:∃ R d m' t',Jy m=(R,d,m',t'):=⟨_,_,_,_,rfl⟩;have ai:=ZZ (ZjW _ m wr p.out.rd (by have:=p.out.le;omega))
  have aY:=ZZ (p.out.read.step c1 aL bt hT);have aQ:=Zzd m;have aO:=ZvI m;rw[hT] at ai aQ aO;have aD:=ZZ aO;have aV:Hid (m'.length<=b.length):=ZZ (Nat.le_trans aQ p.out.le)
  obtain⟨H,C,aN⟩:∃ H C,u5=.slice H m.length C:=by
   obtain⟨H,C,h,-⟩:=p.out.rd;exact⟨H,C,h⟩
  subst aN;clear hT aQ aO;unfold Zso at ai
  dsimp only at ai
  have bi:(L++List.replicate (g-L.length) Qi).length=g:=by simp;omega
  have bc:=ZZ bi;clear bi
  go_wp2_with fail
  refine ai.o.mono ?_;rintro e W3 ⟨v3,rfl,aM,u⟩;obtain⟨a3,n3,e3,-⟩:=id aM;subst e3;have ah:=ZZ (p.out.row.below u zL);have a7:=ZZ (p.out.map.below u zL);have aw:=ZZ aM;have T:=ZZ (p.out.below.trans (u.mono p.out.below.size));clear aM u ai p
  have S:∀ j,j<7->∃ x,W3.cell? ⟨f.heap.size,L.length*7+j,none⟩=some x∧W3.frozen? ⟨f.heap.size,L.length*7+j,none⟩=false:=fun j hj=>by
   have h:=ah.o.cell (L.length*7+j);obtain⟨x,hx⟩:∃ x,(Qt (L++List.replicate (g-L.length) Qi))[L.length*7+j]?=some x:=⟨_,List.getElem?_eq_getElem (by rw[Zl,bc.o];omega)⟩
   exact⟨x,h.1.trans hx,h.2⟩
  obtain⟨x0,k0,f0⟩:=S 0 (by decide)
  obtain⟨x1,k1,f1⟩:=S 1 (by decide)
  obtain⟨x2,k2,f2⟩:=S 2 (by decide)
  obtain⟨x3,k3,f3⟩:=S 3 (by decide)
  obtain⟨x4,k4,f4⟩:=S 4 (by decide)
  obtain⟨x5,k5,f5⟩:=S 5 (by decide)
  obtain⟨x6,k6,f6⟩:=S 6 (by decide)
  rw[Nat.add_zero] at k0 f0;clear S
  go_upto_region 12 with fail
  obtain⟨X,ay⟩:∃ X,X=((((((W3.setCell ⟨f.heap.size,L.length*7,none⟩ (.int .i64 R.idx)).setCell ⟨f.heap.size,L.length*7+1,none⟩ (.int .i64 R.proc)).setCell ⟨f.heap.size,L.length*7+2,none⟩ (.int .i64 R.seq)).setCell ⟨f.heap.size,L.length*7+3,none⟩ (.int .i64 R.op.code)).setCell ⟨f.heap.size,L.length*7+4,none⟩ (.int .i64 R.op.a)).setCell ⟨f.heap.size,L.length*7+5,none⟩ (.int .i64 R.op.b)).setCell ⟨f.heap.size,L.length*7+6,none⟩ (.int .i64 R.resp):=⟨_,rfl⟩;rw[<-ay];have ax:L.length<(L++List.replicate (g-L.length) Qi).length:=by rw[bc.o];exact aL
  have P:=ZZ ax;have aB:=ah.o.seven ax R.idx R.proc R.seq R.op.code R.op.a R.op.b R.resp;rw[<-ay] at aB
  have au:Hid (But f.heap.size f.heap.size W3 X):=ZZ (by
   rw[ay]
   exact(((((((But.refl _ _ _).set _ _ (.inl rfl) _).set _ _ (.inl rfl) _).set _ _ (.inl rfl) _).set _ _ (.inl rfl) _).set _ _ (.inl rfl) _).set _ _ (.inl rfl) _).set _ _ (.inl rfl) _)
  have aX:=ZZ (aw.o.row ah.o au.o);have be:=ZZ (a7.o.row ah.o au.o);have aU:=ZZ (Zaf T.o au.o T.o.size z.o z.o);have ab:=ZZ aB;obtain⟨⟨bG,bw⟩,bn⟩:(∃ x,X.cell? ⟨f.heap.size,L.length*7,none⟩=some x)∧X.frozen? ⟨f.heap.size,L.length*7,none⟩=false:=⟨⟨_,(ab.o.at (k:=L.length) (by rw[length_set];exact ax)).1⟩,(ab.o.cell _).2⟩
  clear ay aB ax ah aw a7 T au k0 k1 k2 k3 k4 k5 k6 f0 f1 f2 f3 f4 f5 f6
  go_upto_region 13 with fail
  obtain⟨W5,av⟩:∃ W5,W5=X.setCell ⟨f.heap.size,L.length*7,none⟩ (.int .i64 ((first:Int)+(L.length:Int))):=⟨_,rfl⟩;rw[<-av];have a0:L.length<((L++List.replicate (g-L.length) Qi).set L.length ⟨R.idx,R.proc,R.seq,⟨R.op.code,R.op.a,R.op.b⟩,R.resp⟩).length:=by rw[length_set];exact P.o
  have aI:=ab.o.set a0 0 (by decide) (.int .i64 ((first:Int)+(L.length:Int))) ⟨(first:Int)+L.length,R.proc,R.seq,⟨R.op.code,R.op.a,R.op.b⟩,R.resp⟩ (by rw[Zav P.o];rfl)
  rw[Nat.add_zero,<-av,List.set_set] at aI
  have az:Hid (But f.heap.size f.heap.size X W5):=ZZ (by
   rw[av]
   exact(But.refl _ _ _).set _ _ (.inl rfl) _)
  have bh:=ZZ (aX.o.row ab.o az.o);have aR:=ZZ (be.o.row ab.o az.o);have aK:=ZZ (Zaf aU.o az.o aU.o.size z.o z.o);have ac:=ZZ aI;have ap:=ac.o.at (k:=L.length) (by rw[length_set];exact P.o)
  rw[Zav P.o] at ap;have k1:=ap.2.1;have k2:=ap.2.2.1;have f2:=(ac.o.cell (L.length*7+2)).2;have bj:=aR.o.look aD.o.1
  dsimp only at k1 k2
  clear av aI a0 ap ab aX be aU az bw bn;obtain⟨ls,aC⟩:∃ ls,ls=Q7 L R.proc:=⟨_,rfl⟩;rw[<-aC] at bj;have aZ:=ZZ aC;clear aC
  go_upto_region 14 with fail
  obtain⟨B,aJ⟩:∃ B,B=wrap64 (ls+d):=⟨_,rfl⟩;rw[<-aJ]
  have aG:IntKind.i64.wrap (Q7 L R.proc+d)=B:=by
   rw[aJ,<-aZ.o];unfold wrap64;exact IntKind.wrap_i64 _
  have aW:Hid ((⟨(first:Int)+L.length,R.proc,B,⟨R.op.code,R.op.a,R.op.b⟩,R.resp⟩:Rec)=ZcU first L R d):=ZZ (by
   unfold ZcU
   rw[aG])
  have bv:Hid (I64 B):=ZZ (by rw[<-aG];exact ZiW _)
  clear aG aJ aZ;obtain⟨W6,am⟩:∃ W6,W6=W5.setCell ⟨f.heap.size,L.length*7+2,none⟩ (.int .i64 B):=⟨_,rfl⟩;rw[<-am];have bd:L.length<((L++List.replicate (g-L.length) Qi).set L.length ⟨(first:Int)+L.length,R.proc,R.seq,⟨R.op.code,R.op.a,R.op.b⟩,R.resp⟩).length:=by rw[length_set];exact P.o
  have ak:=ac.o.set bd 2 (by decide) (.int .i64 B) ⟨(first:Int)+L.length,R.proc,B,⟨R.op.code,R.op.a,R.op.b⟩,R.resp⟩ (by rw[Zav P.o];rfl)
  rw[<-am,List.set_set] at ak
  have al:Hid (But f.heap.size f.heap.size W5 W6):=ZZ (by
   rw[am]
   exact(But.refl _ _ _).set _ _ (.inl rfl) _)
  have bb:=ZZ (bh.o.row ac.o al.o);have aH:=ZZ (aR.o.row ac.o al.o);have aT:=ZZ (Zaf aK.o al.o aK.o.size z.o z.o);have ao:=ak.at (k:=L.length) (by rw[length_set];exact P.o)
  rw[Zav P.o] at ao;have j1:=ao.2.1;have j2:=ao.2.2.1
  dsimp only at j1 j2
  rw[aW.o,Zze L g aL] at ak;have aS:=ZZ ak;clear am ak bd ao ac bh aR aK al k1 k2 f2 bj;have a6:ZfU W6.drew (f.heap.size+1) L.length (Q7 L):=aH.o.keep rfl;obtain⟨W7,bC,aE,aq⟩:=a6.put aD.o.1 bv.o (by omega)
  have bf:Zzu (Q7 L) R.proc B=Q7 (L++[ZcU first L R d]):=by
   rw[<-aW.o];exact ZiJ L ⟨(first:Int)+L.length,R.proc,B,⟨R.op.code,R.op.a,R.op.b⟩,R.resp⟩
  rw[bf] at aE;have aA:(L++[ZcU first L R d]).length=L.length+1:=by simp
  have bq:Hid (DIB w W7 b first g f.heap.size (f.heap.size+1) (L++[ZcU first L R d]) (.slice a3 m'.length n3) m' t'):=ZZ (by
   have bI:some f.heap.size≠some (f.heap.size+1):=by simp
   have bk:∀ c,c<W6.heap.size->c≠f.heap.size+1->W7.heap[c]?=W6.heap[c]?:=fun c hc hn=>aq.block c hc (fun e=>hn (by simpa using e))
   refine⟨(bk _ aS.o.lt (by omega)).trans aS.o,by rw[aA];exact aE,?_,aV.o,aY.o,(aT.o.drew).grown aq aT.o.size (fun j hj=>by cases hj;have:=z.o;omega)⟩
   obtain⟨va,vc,h1,h2,h3,hn,h4⟩:=bb.o;refine⟨va,vc,h1,h2,h3,hn,?_⟩;rcases h4 with h4 | ⟨c,bx,h5,h6⟩
   ·exact .inl h4
   ·refine .inr ⟨c,bx,h5,fun j hj=>?_⟩
    have hc:=h6 j hj
    exact aq.cell hc (fun e=>by
     have e':c=f.heap.size+1:=by simpa using e
     obtain⟨D,⟨es,bF,F,_⟩,_⟩:=aH.o;rw[e'] at hc
     simp[World.cell?,F] at hc))
  clear a6 aE aq bf aH aS bb aT aY aD aV
  go_region
  all_goals
   go_wp2;go_roundw
   case rel=>exact⟨t',L++[ZcU first L R d],m',rfl,by rw[aA];go_num,by rw[aA];omega,bq⟩
   case measure=>simp[intOf];omega
theorem Zgv {a b:List UInt8} (f:a.length<=1048576) (g:b.length<=1048576) (h:Qd a=Qd b):a=b:=by
 have d:=Zag [a] (by simpa using f)
 have c:=Zag [b] (by simpa using g)
 have i:Qf [a]=Qd a:=by simp[Qf]
 have e:Qf [b]=Qd b:=by simp[Qf]
 rw[i,h] at d;rw[e] at c;have:=congrArg Prod.fst (d.symm.trans c);simpa using this
theorem ZxH {H:List UInt8} (h:H.length<=1048576) {kind:Int} (B:0<=kind) (A:kind<6):
 decide (Qd H=ZgI 3 kind (Gv (Qd H)).1.first)=(ZbB H kind).isSome∧(∀ f,ZbB H kind=some f->(Gv (Qd H)).1.first=(f:Int))∧0<=(Gv (Qd H)).1.first∧(Gv (Qd H)).1.first<4611686018427387904:=by
 have l:=Zag [H] (by simpa using h)
 have E:Qf [H]=Qd H:=by simp[Qf]
 rw[E] at l
 have c:Gv (Qd H)=match Z0 H with
  | .error _=>(Zev,0,false)
  | .ok (v,k,f)=>(⟨k,f,(J4 v f [] [] 16).1⟩,(Qf ([H].take (1+(J4 v f [] [] 16).2.1))).length,true):=by
  unfold Gv ZwK;rw[l];rw[if_neg (by simp)]
  rfl
 have j:∀ f:Int,0<=f->f<4611686018427387904->ZgI 3 kind f=Qd (Xq 3 kind.toNat f.toNat):=fun f u q=>by
  unfold ZgI;rw[if_pos (by decide),if_pos ⟨B,A,u,q⟩]
  rfl
 have m:∀ f:Int,0<=f->f<4611686018427387904->(Xq 3 kind.toNat f.toNat).length<=1048576:=fun f u q=>by
  have:=ZcP (v:=3) (k:=kind.toNat) (f:=f.toNat) (by decide) (by omega) (by omega)
  omega
 cases hr:Z0 H with
 | error x=>
  rw[hr] at c;have g:(Gv (Qd H)).1.first=0:=by rw[c];rfl
  have d:ZbB H kind=none:=by unfold ZbB;rw[hr]
  rw[g,d];refine⟨?_,(fun f a=>by cases a),by decide,by decide⟩
  rw[j 0 (by decide) (by decide)]
  refine decide_eq_false fun a=>?_
  have:=Zgv h (m 0 (by decide) (by decide)) a
  rw[this,ZfS (by decide) (by decide) (by omega) (by decide)] at hr
  cases hr
 | ok t=>
  obtain⟨v,k,f⟩:=t;obtain⟨w,I,G,F,D⟩:=Zcl hr;rw[hr] at c;have g:(Gv (Qd H)).1.first=(f:Int):=by rw[c]
  rw[g,j f (by omega) (by omega)]
  have d:ZbB H kind=if v=3∧(k:Int)=kind then some f else none:=by unfold ZbB;rw[hr]
  have n:((f:Int)).toNat=f:=by omega
  rw[n];have p:=m f (by omega) (by omega)
  rw[n] at p;by_cases e:v=3∧(k:Int)=kind
  ·rw[d,if_pos e]
   refine⟨?_,fun C i=>by rw[Option.some.inj i],by omega,by omega⟩
   have y:kind.toNat=k:=by omega
   rw[w,e.1,y];exact decide_eq_true rfl
  ·rw[d,if_neg e]
   refine⟨decide_eq_false fun a=>?_,(fun C i=>by cases i),by omega,by omega⟩
   have z:=Zgv h p a;have b:=ZfS (v:=3) (k:=kind.toNat) (f:=f) (by decide) (by decide) (by omega) D
   rw[<-z,hr] at b
   injection b with b
   injection b with h5 h6
   injection h6 with h6 h7
   exact e ⟨h5,by omega⟩
theorem ZnY (n:Value) (H:List UInt8) (kind:Int) (w:World) (P:Rd w n H) (hH:H.length<=90000) (F:0<=kind) (t:kind<6):
 Calls prog 119 #[n,.int .i64 kind] w fun e w'=>∃ x:Int,e=.returned (.tuple #[.int .i64 x,.bool (ZbB H kind).isSome])∧(∀ f,ZbB H kind=some f->x=(f:Int))∧Below w.heap.size w w':=by
 obtain⟨p,v,q3,q4⟩:=ZxH (H:=H) (by omega) F t
 have N:=ZZ (Zdj n H w P);rw[ZlW (by omega)] at N
 have l:=Zag [H] (by simp;omega)
 have O:Qf [H]=Qd H:=by simp[Qf]
 rw[O] at l;have Z:=Q9 H;have hu:(Lib.uvarint H.length).length<=10:=Gh (by omega)
 have m:=ZZ (fun j W (h:Rd W j (Qd H))=>ZjR j (Qd H) W h (by omega) (by rw[l];rfl))
 obtain⟨fs,q⟩:∃ fs,fs=(Gv (Qd H)).1.first:=⟨_,rfl⟩;have K:=ZZ (fun W=>ZnN 3 kind fs W)
 unfold Zbb at m;unfold Zrb at K;rw[<-q] at p m;have HQ:Hid (∀ f,ZbB H kind=some f->fs=(f:Int)):=ZZ (fun f V=>by rw[q];exact v f V)
 have B:=ZZ (fun k D W (ha:Rd W k (Qd H)) (hb:Rd W D (ZgI 3 kind fs))=>ZiU k D _ _ W ha hb)
 rw[p] at B;generalize (ZbB H kind).isSome=af at *;generalize (Gv (Qd H)).1.kind=z at *;generalize ((Gv (Qd H)).2.1:Int)=rn at *;generalize (Gv (Qd H)).2.2=ro at *;generalize (Gv (Qd H)).1.recs=Q at *;generalize ZgI 3 kind fs=HL at *;generalize Jj 3 kind fs=he at *;generalize Qd H=FH at *;obtain⟨k,vc,rfl,-⟩:=P;clear p v q3 q4 l O Z hu q F t
 go_enter func119,ntmps119
 go_wp2_with fail
 refine N.o.mono ?_;rintro e W1 ⟨j,rfl,J,u⟩;have G:=ZZ J.rd;have I:=ZZ u;clear J u
 go_wp2_with fail
 refine(m.o _ _ G.o).mono ?_;rintro e b ⟨vl,rfl,T,i⟩;obtain⟨L,lc,rfl,-⟩:=T;have X:=ZZ i;have y:=ZZ (I.o.trans (i.mono I.o.size));obtain⟨a,g⟩:∃ a,a=b.alloc (.cells #[.int .i64 z,.int .i64 fs,.slice L Q.length lc] 217):=⟨_,rfl⟩;have HX:Hid (Bsg a b.heap.size #[.int .i64 z,.int .i64 fs,.slice L Q.length lc]):=ZZ (by rw[g];exact heap_alloc_new b _)
 have E:Hid (Below b.heap.size b a):=ZZ (by rw[g];exact Jw _ _)
 have C:=ZZ (y.o.trans (E.o.mono y.o.size));have ac:=ZZ ((G.o.below X.o zL).below E.o zL);have A:Hid (∀ W,Below a.heap.size a W->W.cell? ⟨b.heap.size,1,none⟩=some (.int .i64 fs)):=ZZ (fun W Y=>((HX.o.below Y zL).cell 1).1)
 have U:=A.o a (Below.refl _ _);clear i
 go_upto_region 3 with fail
 rw[<-g];clear g
 go_wp2_with fail
 refine(K.o a).mono ?_;rintro e d ⟨v4,rfl,M,c⟩;have ag:=ZZ c;have ae:=ZZ (C.o.trans (c.mono C.o.size));have S:=ZZ M.rd;have aa:=ZZ (ac.o.below c zL);have ad:Hid (Below a.heap.size a d.drew):=ZZ c.drew;have R:Hid (Below d.heap.size d d.drew):=ZZ (Below.refl _ _).drew;have ab:=ZZ (B.o _ _ d.drew (aa.o.below R.o zL) (S.o.below R.o zL));clear M c U
 go_upto_region 4 with fail
 go_region_held(fun W=>W.cell? ⟨b.heap.size,1,none⟩=some (.int .i64 fs))
  (first | (with_reducible exact A.o _ ad.o))
  (first | (go_at_call 163;refine ab.o.mono ?_;rintro e W5 ⟨rfl,rfl⟩))
 all_goals
  go_wp2;go_ret2;exact⟨fs,rfl,HQ.o,ae.o.drew⟩
theorem ZgM (w:World) (ty:TypeId) (B:Nat) (v:Value) (b:List Rec) (c:Xj w B v b) (h:Value) (l:List Rec) (m:RdR w h l)
 (C:b.length+l.length<=10000000) (g:B<=w.heap.size):
 ∃ v' w',(Builtin.append_ #[29,29] ty #[v,h]).run prog w=.ok v' w'∧Xj w' B v' (b++l)∧Below B w w':=by
 obtain⟨e,f,x,t,n⟩:=info_parts Zdg;obtain⟨ao,cap,rfl,A,D,p,_,q⟩:=m
 cases ao with
 | none=>
  have z:=p rfl;subst z;have j:l=[]:=List.eq_nil_of_length_eq_zero (by omega)
  subst j;have d:=run_append_owned_none (P:=prog) w B 29 ty 62 e 7 underlying29 f v b.length (Qt b) c;exact⟨v,w,d,by rw[List.append_nil];exact c,Below.refl _ _⟩
 | some a=>
  obtain⟨v',w',d,y,u,_⟩:=run_append_own (P:=prog) w B 29 ty 62 e _ 7 56 underlying29 f x t n rfl (by decide) v b.length (Qt b) c a l.length cap (Qt l)
   (Zl l) (RdR.cells q a rfl) (Zbw l) (by unfold maxLen;omega) (by omega) g
  refine⟨v',w',d,?_,?_⟩
  ·unfold Xj
   rw[length_append,ZaA];exact y
  ·exact(Below.refl _ _).grown u g (fun k i=>(World.ownsRow.lt c k i).1)
theorem ZdX (w:World) {d:Array Oper} {rest:List Oper} {o:Oper} {a:Act} {Q:Exit->Act->World->Prop} (p:o.guard=none) (s x:Operand)
 (u:o.op=.call { callee:=.builtin .append,args:=#[s,x],argTypes:=#[29,29] })
 (B:Nat) (v:Value) (b:List Rec) (i:a.eval s=v) (j:Xj w B v b) (c:Value) (l:List Rec) (e:a.eval x=c) (g:RdR w c l)
 (k:b.length+l.length<=10000000) (t:B<=w.heap.size)
 (h:∀ v' w',Xj w' B v' (b++l)->Below B w w'->wpList prog d Q rest (a.put o.dst v') w'):wpList prog d Q (o::rest) a w:=
 wpList_plain p fun _ f=>by
  obtain⟨v',w',q,m,n⟩:=ZgM w o.type B v b j c l g k t;unfold Oper.wp execOp;simp only [u,resolve,invoke,builtin,Sem.run_bind,Sem.run_pure,Result.andThen_ok,map_toArray,map_cons,map_nil,i,e,q];exact f _ _ (h v' w' m n)
theorem ZvK {L:List (List UInt8)} {q:Nat} (h:q<L.length):L.getD q [] ∈ L:=by
 rw[show L.getD q []=L[q] by simp[List.getD,h]]
 exact getElem_mem _
theorem ZxI {d:List UInt8} {n:Int} (h:DecB d l n):(n=0∧ZdK d=some l∧Yc l)∨(n=3∧ZdK d=none):=by
 rcases h with ⟨c,a,b⟩ | ⟨c,a,b⟩
 ·exact .inl ⟨c,by rw[<-b];exact ZmL a,a⟩
 ·refine .inr ⟨c,?_⟩
  unfold ZdK;rw[if_neg fun e=>b _ e.1 e.2]
theorem ZaC (first:Int) (d:List UInt8) (t:List (List UInt8)) (a:List Rec):Ys first (d::t) a=match ZdK d with
 | none=>a
 | some l=>if(l.headD Qi).idx=first+a.length then Ys first t (a++l) else a:=by
 rw[Ys]
 cases ZdK d <;> rfl
def Zqb (L:List (List UInt8)) (kind:Int):Option (Nat × List Rec):=
 match L with
 | []=>none
 | H::B=>(ZbB H kind).map fun f=>(f,Ys f B [])
theorem Zmh (b:List UInt8) (kind:Int):ZoH b kind=Zqb (Qp b).1 kind:=by
 unfold ZoH Zqb
 cases (Qp b).1 <;> rfl
def ZvL (w:World) (o:Option (Nat × List Rec)) (e:Ending) (w':World):Prop:=
 ∃ (x:Int) (a:Option Addr) (n c:Nat),e=.returned (.tuple #[.int .i64 x,.slice a n c,.bool o.isSome])∧(∀ f l,o=some (f,l)->x=(f:Int)∧Xj w' w.heap.size (.slice a n c) l)∧Below w.heap.size w w'
theorem Xj.rdF (h:Xj w B v l) (a:∀ r ∈ l,Qz r):RdR w v l:=h.rd fun r b=>ZaQ (a r b)
theorem ZiX (vb:Value) (b:List UInt8) (kind:Int) (w:World) (hr:Rd w vb b) (hb:b.length<=90000) (a8:0<=kind) (aT:kind<6):
 Calls prog 77 #[vb,.int .i64 kind] w fun e w'=>ZvL w (ZoH b kind) e w':=by
 have ap:=ZZ (ZkG vb b w hr (by omega))
 obtain⟨Y,aF⟩:=ZeQ b;rw[Zmh];obtain⟨va,vc,rfl,-⟩:=hr;generalize (Qp b).2.1=tk at *;generalize (Qp b).1=L at *;obtain⟨u,ab⟩:∃ u:Option (Nat × List Rec),u=Zqb L kind:=⟨_,rfl⟩;rw[<-ab];have X:=ZZ ab;clear ab;have bx:(L.length:Int)<=100000:=by omega
 by_cases T:L.length=0
 ·have e:L=[]:=List.eq_nil_of_length_eq_zero T
  have z:Hid (u=none):=ZZ (by rw[X.o,e];rfl)
  have be:((L.length:Int) == 0)=true:=by rw[beq_iff_eq];omega
  clear T e Y aF X
  go_enter func77,ntmps77
  go_wp2;go_step3
  go_wp2_with fail
  refine ap.o.mono ?_;rintro e J ⟨v1,rfl,C,G⟩;have P:=ZZ G;obtain⟨a1,c1,ar,-⟩:=C.rd;subst ar;clear C G;go_wp2
  try rw[Exit.noGoto_ret]
  go_ret3
  rw[z.o];exact⟨0,_,_,_,rfl,(fun f l i=>by cases i),P.o⟩
 have aN:L≠[]:=fun e=>T (by rw[e];rfl)
 have be:((L.length:Int) == 0)=false:=beq_eq_false_iff_ne.2 (by omega)
 have bo:(0:Int)<(L.length:Int):=by omega
 have ak:L.getD 0 []=L.headD []:=by cases L <;> rfl
 have aj:Hid (u=(ZbB (L.headD []) kind).map fun(f:Nat)=>(f,Ys (f:Int) L.tail [])):=ZZ (by
  rw[X.o]
  cases L with
  | nil=>exact absurd rfl aN
  | cons H B=>rfl)
 have aP:(L.headD []).length<=90000:=by
  rw[<-ak];have:=(Y (L.getD 0 []) (by rw[show L.getD 0 []=L[0]'(by omega) by simp[List.getD,show 0<L.length by omega]];exact getElem_mem _)).2
  omega
 have aL:=ZZ (fun K W (h:Rd W K (L.headD []))=>ZnY K (L.headD []) kind W h aP a8 aT)
 have aU:=ZZ (fun(q:Nat) (hq:q<L.tail.length) K W (h:Rd W K (L.tail.getD q []))=>ZgL K (L.tail.getD q []) W h (by
  have hm:L.tail.getD q [] ∈ L:=List.mem_of_mem_tail (ZvK hq);have:=(Y _ hm).2
  omega))
 have bl:L.tail.length<=20000:=by rw[List.length_tail];omega
 clear Y aF X T
 go_enter func77,ntmps77
 go_wp2;go_step3
 go_wp2_with fail
 refine ap.o.mono ?_;rintro e J ⟨v1,rfl,C,G⟩;have P:=ZZ G;have aq:=ZZ C.rd;obtain⟨a1,c1,ar,-⟩:=C.rd;subst ar;clear C G;obtain⟨b0,o0,x0,rfl,aO,V⟩:=aq.o.at 0 (by omega)
 obtain⟨am,cm,aw,al⟩:=ZvA J _ L L.length c1 rfl aq.o 1 (by omega)
 rw[List.drop_one] at aw al;rw[ak] at V;have km:=al 1 rfl;have aM:=ZZ aw;have aD:=aO J (Below.refl _ _);have aG:=ZZ (V J (Below.refl _ _));obtain⟨a0,q0,aW,-⟩:=V J (Below.refl _ _);subst aW;rw[Nat.add_zero] at aD;clear aw al aO V ak aq ap aN;generalize L.tail=B at *;generalize L.headD []=H at *;generalize ba:H.length=hl at *;clear ba aP
 go_wp2_with fail
 refine(aL.o _ _ aG.o).mono ?_;rintro e p ⟨x,rfl,aI,aa⟩;have y:=ZZ (P.o.trans (aa.mono P.o.size));have aK:=ZZ (aM.o.below aa zL);have aE:=ZZ aI;clear aI aa aD aG aM aL P
 cases i:ZbB H kind with
 | none=>
  have z:Hid (u=none):=ZZ (by rw[aj.o,i];rfl)
  clear i;simp only [Option.isSome_none];go_wp2
  try rw[Exit.noGoto_ret]
  go_ret3
  rw[z.o];exact⟨0,_,_,_,rfl,(fun f l h'=>by cases h'),y.o⟩
 | some f=>
  obtain rfl:=aE.o f i
  have a2:f<4611686018427387904:=by
   unfold ZbB at i;split at i
   ·rename_i v k f' bi
    split at i
    ·have:=(Zcl bi).2.2.2.2
     rw[<-Option.some.inj i];exact this
    ·cases i
   ·cases i
  have z:Hid (u=some (f,Ys f B [])):=ZZ (by rw[aj.o,i];rfl)
  simp only [Option.isSome_some];obtain⟨j,av⟩:∃ j:Int,j=(f:Int):=⟨_,rfl⟩;have an:=ZZ av;have bv:0<=j:=by omega
  have bu:j<4611686018427387904:=by omega
  rw[<-av];clear i aE aj av a2;obtain⟨t,af⟩:∃ t,t=B.length:=⟨_,rfl⟩;rw[<-af] at km aK bl;have ay:=ZZ af;clear af;have bw:(t:Int)<=20000:=by omega
  have ad:Hid (∀ (wr:World) (Q:Value) d,Xj wr w.heap.size Q d->Ys f B []=d->Below w.heap.size w wr->ZvL w u (.returned (.tuple #[.int .i64 j,Q,.bool true])) wr):=ZZ (fun wr Q d ho hk a3=>by
   obtain⟨a,c,rfl⟩:=ho.shape;refine⟨j,a,_,c,by rw[z.o];rfl,fun f' l' S=>?_,a3⟩
   rw[z.o] at S;have S:=Option.some.inj S
   injection S with e1 e2
   rw[<-e1,<-e2,hk]
   exact⟨an.o,ho⟩)
  go_wp2;go_step3;go_wp2
  go_loopw[11,37] (fun Q vi wr=>∃ (q:Nat) (d:List Rec) (a:Option Addr) (n c:Nat),vi=.int .i64 (q:Int)∧q<=t∧Q=.slice a n c∧Hid (Xj wr p.heap.size (.slice a n c) d)∧Hid (∀ r ∈ d,Qz r)∧Hid (d.length<=256*q)∧Hid (Ys f B []=Ys f (B.drop q) d)∧Hid (Below p.heap.size p wr)) (fun _ vi _=>t-(intOf vi).toNat)
  case atStart=>exact⟨0,[],none,0,0,rfl,Nat.zero_le _,rfl,ZZ (Xj.nil _ _),ZZ (fun r hr=>by cases hr),ZZ (Nat.zero_le _),ZZ rfl,ZZ (Below.refl _ _)⟩
  case round=>
   obtain⟨q,d,a,n,c,rfl,hq,rfl,HO,bf,aX,ae,Z⟩:=hrel;have ai:Hid (Below w.heap.size w wr):=ZZ (y.o.trans (Z.o.mono y.o.size));by_cases a7:q<t
   case neg=>
    have e:q=t:=by omega
    have M:=ZZ (ad.o wr _ d (HO.o.mono y.o.size) (by
     rw[ae.o,e,ay.o,List.drop_length]
     rfl) ai.o)
    clear e;go_wp2
    try rw[Exit.noGoto_ret]
    go_ret3
    exact M.o
   have ag:q<B.length:=by rw[<-ay.o];exact a7
   have bp:(q:Int)<(t:Int):=by omega
   have bA:=aX.o;obtain⟨bb,ob,xb,bd,aC,aH⟩:=(aK.o.below Z.o zL).at q ag;subst bd;have cx:=aC wr (Below.refl _ _);have az:=aH wr (Below.refl _ _);have F:=ZZ (aU.o q ag _ wr az);unfold ZaP at F;have m:Hid (Ys f B []=Ys f (B.getD q []::B.drop (q+1)) d):=ZZ (by rw[ae.o,drop_one ag])
   rw[ZaC] at m;obtain⟨xa,xc,a4,-⟩:=az;subst a4;generalize B.getD q []=dq at *;generalize aQ:dq.length=dl at *;have bt:=ZZ aQ;clear aQ aC aH ae
   go_wp2_with fail
   refine F.o.mono ?_;rintro e I ⟨v3,g,n3,rfl,N,R,A⟩;have aA:Hid (Below p.heap.size p I):=ZZ (Z.o.trans (A.mono Z.o.size));have aB:Hid (Below w.heap.size w I):=ZZ (ai.o.trans (A.mono ai.o.size));have U:=ZZ (HO.o.below A zL);have bg:=ZZ N;rcases ZxI R with ⟨rfl,D,O⟩ | ⟨rfl,D⟩
   case inr=>
    have M:=ZZ (ad.o I _ d (U.o.mono y.o.size) (by rw[m.o,D]) aB.o)
    clear D R N A m F cx;go_wp2
    try rw[Exit.noGoto_ret]
    go_ret3
    exact M.o
   have ax:1<=g.length:=O.1;have br:g.length<=256:=O.2.1;obtain⟨ra,rc,aR,-,-,-,-,bc⟩:=id N;subst aR;rcases bc with bh | ⟨rb,ro,rfl,ac⟩
   ·rw[bh] at ax;simp at ax
   have ah:g.getD 0 Qi=g.headD Qi:=by cases g <;> rfl
   have ci:=(ac 0 (by omega)).1
   rw[ah,Nat.zero_mul,Nat.add_zero] at ci;rw[D] at m
   dsimp only at m
   have bm:(d.length:Int)<=6000000:=by omega
   have au:Hid (n=d.length):=ZZ (by
    obtain⟨a9,c9,e9⟩:=U.o.shape
    injection e9 with _ e9 _)
   have bB:n<=6000000:=by rw[au.o];omega
   have bq:(n:Int)<=6000000:=by omega
   have bz:IntKind.i64.wrap (j+(n:Int))=j+n:=by rw[IntKind.wrap_i64];omega
   have bn:(0:Int)<(g.length:Int):=by omega
   by_cases E:(g.headD Qi).idx=j+n
   case neg=>
    have M:=ZZ (ad.o I _ d (U.o.mono y.o.size) (by rw[m.o,if_neg (by rw[<-an.o,<-au.o];exact E)]) aB.o)
    have a5:((g.headD Qi).idx != j+(n:Int))=true:=by rw[bne_iff_ne];exact E
    generalize (g.headD Qi).idx=ix at *;clear D R N A m F cx ac ah O E;go_wp2
    try rw[Exit.noGoto_ret]
    go_ret3
    exact M.o
   have a5:((g.headD Qi).idx != j+(n:Int))=false:=by rw[E];simp
   have aZ:Hid (Ys f B []=Ys f (B.drop (q+1)) (d++g)):=ZZ (by rw[m.o,if_pos (by rw[<-an.o,<-au.o];exact E)])
   have aY:Hid (∀ r ∈ d++g,Qz r):=ZZ (fun r hr=>by
    rcases List.mem_append.1 hr with hr | hr
    ·exact bf.o r hr
    ·exact O.2.2.1 r hr)
   have bj:Hid ((d++g).length<=256*(q+1)):=ZZ (by rw[length_append];omega)
   have a6:Hid (d.length+g.length<=10000000):=ZZ (by omega)
   have aS:Hid (p.heap.size<=I.heap.size):=ZZ aA.o.size;generalize (g.headD Qi).idx=ix at *;clear D R N A m F cx ac ah O E
   go_wp2_with(at_builtin;refine ZdX _ rfl _ _ rfl p.heap.size _ d rfl U.o _ g rfl bg.o (by have:=a6.o;omega) aS.o ?_)
   intro v4 W4 ao aJ;have aV:=ZZ ao
   obtain⟨y1,y2,y3,hy⟩:∃ a n c,v4=Value.slice a n c:=by
    obtain⟨a,c,i⟩:=ao.shape;exact⟨a,_,c,i⟩
   subst hy;have bk:Hid (Below p.heap.size p W4):=ZZ (aA.o.trans aJ);clear ao aJ;go_wp2;go_roundw
   case rel=>exact⟨q+1,d++g,y1,y2,y3,by go_num,by omega,rfl,aV,aY,bj,aZ,bk⟩
   case measure=>simp[intOf];omega
structure Zzf (g:Lgb):Prop where
 f0:0<=g.first
 f1:g.first<=4611686018427387904
 rl:g.recs.length<=9000000
 pl:g.pcs.length<=900000
 st:∀ p ∈ g.pcs,0<=p.stop∧p.stop<=4611686018427387904
def Jk (d:Dk) (kind:Int) (l:List Int) (q:Nat):Lgb:=(l.take q).foldl (logOne d kind) ZaE
theorem ZfV (d:Dk) (kind:Int) (l:List Int) (q:Nat) (a:q<l.length):Jk d kind l (q+1)=logOne d kind (Jk d kind l q) (l.getD q 0):=by
 unfold Jk;rw[List.take_add_one,List.foldl_append,show l.getD q 0=l[q] by simp[List.getD,a]]
 simp[a]
theorem ZiY (d:Dk) (kind:Int) (l:List Int) (q:Nat) (a:q=l.length):Jk d kind l q=l.foldl (logOne d kind) ZaE:=by
 subst a;unfold Jk;rw[List.take_length]
def ZvM (w:World) (g:Lgb) (e:Ending) (w':World):Prop:=
 ∃ rv pv,e=.returned (.agg #[.int .i64 g.first,rv,pv])∧Xj w' w.heap.size rv g.recs∧w'.ownsRow w.heap.size 108 3 pv g.pcs.length (Q6 g.pcs)∧Below w.heap.size w w'
theorem ZaS {base s:Nat} (h:w.ownsRow base t s v n xs) (d:∀ g,v.ownBlock=some g->b<=g):w.ownsRow b t s v n xs:=by
 obtain⟨e,a⟩:=h;refine⟨e,?_⟩;rcases a with a | ⟨g,cap,cur,c,f,r⟩
 ·exact .inl a
 ·exact .inr ⟨g,cap,cur,c,d g (by rw[c];rfl),r⟩
theorem Ztj {a:TypeId} {s:Nat} (h:Zix t w b o cs rv pv g) (f:w.ownsRow B a s v n xs) (m:a≠t) (j:a≠62) (l:a≠108)
 (p:Ql (ZjN b rv pv) w w'):w'.ownsRow B a s v n xs:=Qh f fun k i=>by
 obtain⟨c,d⟩:=X0 f i;refine p.block k d.lt fun hf=>?_
 rcases hf with hf | hf | hf
 ·subst hf
  exact(d.ne h.blk m) rfl
 ·obtain⟨c',e⟩:=X0 h.recs hf
  exact(d.ne e j) rfl
 ·obtain⟨c',e⟩:=X0 h.pcs hf
  exact(d.ne e l) rfl
theorem Zix.ltF (h:Zix t w b o cs rv pv g):∀ k,ZjN b rv pv k->k<w.heap.size:=fun k hk=>by
 rcases hk with hk | hk | hk
 ·subst hk;exact h.blk.lt
 ·obtain⟨c',a⟩:=X0 h.recs hk
  exact a.lt
 ·obtain⟨c',a⟩:=X0 h.pcs hk
  exact a.lt
structure ZfW (w W0:World) (v:Value) (l:List Int) (rv pv:Value) (g:Lgb) (wr:World):Prop where
 log:Zix 73 wr (w.heap.size+1) 0 #[.int .i64 g.first,rv,pv] rv pv g
 far:∀ k,ZjN (w.heap.size+1) rv pv k->w.heap.size+1<=k
 out:Bk 73 wr w.heap.size #[.int .i64 0,.slice none 0 0,.slice none 0 0]
 row:Qs wr W0.heap.size v l
 old:Below w.heap.size w wr
theorem ZfW.below {b:World} {l:List Int} (h:ZfW w b v l rv pv g wr) (a:Below wr.heap.size wr w'):ZfW w b v l rv pv g w':=
 ⟨h.log.below a,h.far,h.out.keep (a.block _ h.out.lt),h.row.below a zL,h.old.trans (a.mono h.old.size)⟩
theorem ZfW.did {d:World} {l:List Int} {g':Lgb} (h:ZfW w d v l rv pv g wr) (i:ZeM 73 wr (w.heap.size+1) 0 #[.int .i64 g.first,rv,pv] rv pv g' w'):
 ∃ b c,ZfW w d v l b c g' w'∧Ql (ZjN (w.heap.size+1) rv pv) wr w':=by
 obtain⟨b,c,f,a,e⟩:=i;have j:w.heap.size+1<wr.heap.size:=h.log.blk.lt;refine⟨b,c,⟨f,fun k hk=>?_,h.out.keep (a.block _ h.out.lt fun hk=>?_),Ztj h.log h.row (by decide) (by decide) (by decide) a,h.old.trans (a.below (by omega) fun k hk=>?_)⟩,a⟩
 ·rcases e k hk with hk | hk
  ·exact h.far k hk
  ·omega
 ·have:=h.far _ hk
  omega
 ·have:=h.far _ hk
  omega
def ZzS (g:Lgb) (n:Int):Option (Nat × List Rec)->Lgb
 | none=>g
 | some (f,l)=>if g.pcs.length=0∨(f:Int)=g.next then(g.start n f).add l else g
theorem Zqc {F:Nat->Prop} (kind:Int) (w:World) (h:Dsk F w p d N T) (hN:N<=1000000) (hT:T<=1000000000) (aV:0<=kind) (aL:kind<6) (a5:∀ n,(Zp d n).1.length<=90000)
 (a4:∀ n f l,ZoH (Zp d n).1 kind=some (f,l)->f<4611686018427387904∧∀ r ∈ l,Qz r) (aW:∀ q,Zzf (Jk d kind (Xk (Qk d) 2) q)):
 Calls prog 35 #[ptr p,.int .i64 kind] w fun e w'=>ZvM w (Jm d kind) e w':=by
 have aJ:=ZZ (fun W (X:Below w.heap.size w W)=>Zcj 2 W (h.below X) hN (by omega) (by omega))
 have bf:=ZZ (fun n (y:I64 n) W (X:Below w.heap.size w W)=>Zna n y W (h.below X) hT)
 have be:=ZZ (fun n vb W (hr:Rd W vb (Zp d n).1)=>ZiX vb _ kind W hr (a5 n) aV aL)
 have HI:Hid (∀ n ∈ Xk (Qk d) 2,I64 n):=ZZ (by
  obtain⟨L,g1,A,-⟩:=h
  exact fun n y=>by
   have:=Zbg A n (List.mem_filter.1 y).1
   exact⟨by omega,by omega⟩)
 have aD:Hid ((Xk (Qk d) 2).length<=1000000):=ZZ (by
  obtain⟨L,g1,A,g3,-⟩:=h;have h3:=Zbt d d.waits.length;rw[Zdc] at h3;have:=g3.names;refine Nat.le_trans (List.length_filter_le _ _) ?_;unfold Qk;rw[length_map]
  omega)
 have a9:=ZZ a4;have av:=ZZ aW;have aT:Jm d kind=(Xk (Qk d) 2).foldl (logOne d kind) ZaE:=rfl;rw[aT];clear h a5 a4 aW aT aV aL;obtain⟨l,hl⟩:∃ l,l=Xk (Qk d) 2:=⟨_,rfl⟩;rw[<-hl] at aJ HI aD av ⊢;clear hl;obtain⟨t,Y⟩:∃ t,t=(w.alloc (.cells #[.int .i64 0,.slice none 0 0,.slice none 0 0] 73)).alloc (.cells #[.int .i64 0,.slice none 0 0,.slice none 0 0] 73):=⟨_,rfl⟩;have ab:Hid (Below w.heap.size w t):=ZZ (by rw[Y];exact((Below.refl _ _).alloc zL _).alloc (by simp) _)
 have HY:Hid (Bk 73 t w.heap.size #[.int .i64 0,.slice none 0 0,.slice none 0 0]):=ZZ (by rw[Y];exact(Below.heap_alloc _ _ _ (by simp)).trans (heap_alloc_new w _))
 have HX:Hid (Bk 73 t (w.heap.size+1) #[.int .i64 0,.slice none 0 0,.slice none 0 0]):=ZZ (by rw[Y];exact ZdR w _ _)
 have bd:Hid (∀ (a b c:Value) (W:World),Below w.heap.size w W->Below w.heap.size w (((W.setCell ⟨w.heap.size,0,none⟩ a).setCell ⟨w.heap.size,1,none⟩ b).setCell ⟨w.heap.size,2,none⟩ c)):=ZZ (fun a b c W X=>((X.setCell (p:=⟨w.heap.size,0,none⟩) zL a).setCell (p:=⟨w.heap.size,1,none⟩) zL b).setCell (p:=⟨w.heap.size,2,none⟩) zL c)
 go_enter func35,ntmps35
 go_upto_region 2 with fail
 rw[<-Y];clear Y
 go_wp2_with fail
 refine(aJ.o t ab.o).mono ?_;rintro e W1 ⟨v1,rfl,az,aa⟩
 have au:Hid (ZfW w t v1 l (.slice none 0 0) (.slice none 0 0) ZaE W1):=ZZ (by
  refine⟨(Zix.mk HX.o rfl rfl rfl (Xj.nil _ _) (World.ownsRow_nil _ _ _ _)).below aa,fun k hk=>?_,HY.o.keep (aa.block _ HY.o.lt),az,ab.o.trans (aa.mono ab.o.size)⟩
  rcases hk with hk | hk | hk
  ·omega
  ·cases hk
  ·cases hk)
 obtain⟨a1,K,bl⟩:∃ a c,v1=.slice a l.length c:=az.shape;subst bl;obtain⟨j,ac⟩:∃ j,j=l.length:=⟨_,rfl⟩;rw[<-ac] at au aD;rw[<-ac];have aO:=ZZ ac;clear az aa aJ ac HX HY ab;have bz:=aD.o;have bw:(j:Int)<=1000000:=by omega
 have aP:Hid (∀ (g:Lgb) (rv pv:Value) (W:World),g=l.foldl (logOne d kind) ZaE->ZfW w t (.slice a1 j K) l rv pv g W->ZvM w (l.foldl (logOne d kind) ZaE) (.returned (.agg #[.int .i64 g.first,rv,pv])) (((W.setCell ⟨w.heap.size,0,none⟩ (.int .i64 g.first)).setCell ⟨w.heap.size,1,none⟩ rv).setCell ⟨w.heap.size,2,none⟩ pv)):=ZZ (fun g rv pv W he u=>by
  rw[<-he]
  have hk:∀ k,ZjN (w.heap.size+1) rv pv k->(((W.setCell ⟨w.heap.size,0,none⟩ (.int .i64 g.first)).setCell ⟨w.heap.size,1,none⟩ rv).setCell ⟨w.heap.size,2,none⟩ pv).heap[k]?=W.heap[k]?:=fun k hk=>by
   have:=u.far k hk;rw[Below.heap_setCell _ _ _ _ (by show k≠w.heap.size;omega),Below.heap_setCell _ _ _ _ (by show k≠w.heap.size;omega),Below.heap_setCell _ _ _ _ (by show k≠w.heap.size;omega)]
  refine⟨rv,pv,rfl,Qh (ZaS u.log.recs fun k I=>?_) fun k I=>hk k (.inr (.inl I)),Qh (ZaS u.log.pcs fun k I=>?_) fun k I=>hk k (.inr (.inr I)),bd.o _ _ _ _ u.old⟩
  ·have:=u.far k (.inr (.inl I))
   omega
  ·have:=u.far k (.inr (.inr I))
   omega)
 go_wp2
 go_loopw[16] (fun vi wr=>∃ (q:Nat) (rv pv:Value),vi=.int .i64 (q:Int)∧q<=j∧Hid (ZfW w t (.slice a1 j K) l rv pv (Jk d kind l q) wr)) (fun vi _=>j-(intOf vi).toNat)
 case atStart=>exact⟨0,_,_,rfl,Nat.zero_le _,au⟩
 case round=>
  obtain⟨q,rv,pv,rfl,hq,m⟩:=hrel;clear au;by_cases ba:q<j
  case neg=>
   have e:q=j:=by omega
   have HF:=ZZ (aP.o _ rv pv wr (ZiY d kind l q (e.trans aO.o)) m.o);generalize Jk d kind l q=g at *;obtain⟨ra,rc,ai⟩:=m.o.log.recs.shape;obtain⟨pa,pc,aH⟩:=Z8 m.o.log.pcs;subst ai aH;obtain⟨x0,-⟩:=m.o.log.blk.cell 0 rfl;obtain⟨x1,-⟩:=m.o.log.blk.cell 1 rfl;obtain⟨x2,-⟩:=m.o.log.blk.cell 2 rfl;obtain⟨z0,y0⟩:=m.o.out.cell 0 rfl;obtain⟨z1,y1⟩:=m.o.out.cell 1 rfl;obtain⟨z2,y2⟩:=m.o.out.cell 2 rfl;subst e;clear m aP;go_wp2;refine bodyPost_ret (v:=.agg #[.int .i64 g.first,.slice ra g.recs.length rc,.slice pa g.pcs.length pc]) (by simp[results,Tryz.results35,go_sem,z0,z1,z2]) rfl ?_
   exact HF.o
  have R:q<l.length:=by rw[<-aO.o];exact ba
  have bq:(q:Int)<(j:Int):=by omega
  have HS:Hid (Jk d kind l (q+1)=logOne d kind (Jk d kind l q) (l.getD q 0)):=ZZ (ZfV d kind l q R);have E:=ZZ (av.o q);have aX:=ZZ (av.o (q+1));obtain⟨nq,aw⟩:∃ nq,nq=l.getD q 0:=⟨_,rfl⟩;obtain⟨ao,cap,bh,-,-,-,-,am⟩:=m.o.row.rd HI.o
  injection bh with e1 e2 e3
  rcases am with am | ⟨bb,ah,bo,hc⟩
  ·rw[am] at R;simp at R
  subst e1;subst bo;have cx:=hc q R;rw[<-aw] at cx HS
  have bj:Hid (I64 nq):=ZZ (HI.o nq (by
   rw[aw,show l.getD q 0=l[q] by simp[List.getD,R]]
   exact getElem_mem _))
  clear hc e2 e3 aw;have aM:=ZZ (bf.o nq bj.o wr m.o.old)
  go_wp2_with fail
  refine aM.o.mono ?_;rintro e W2 ⟨v2,rfl,aG,aK⟩;have ad:=ZZ (m.o.below aK);have aY:=ZZ aG.rd;obtain⟨a2,c2,bm,-⟩:=aG.rd;subst bm;clear aG aK aM m cx;have a6:=ZZ (be.o nq _ W2 aY.o);generalize (Zp d nq).2=er at *;generalize bn:(Zp d nq).1.length=bu at *;clear bn
  go_wp2_with fail
  refine a6.o.mono ?_;rintro e W3 ⟨x,P,Q,M,rfl,a0,ay⟩;have C:=ZZ (ad.o.below ay);have ae:=ZZ a0;clear a0 a6 aY;obtain⟨sg,aI⟩:∃ sg,sg=ZoH (Zp d nq).1 kind:=⟨_,rfl⟩;have ag:Hid (Jk d kind l (q+1)=ZzS (Jk d kind l q) nq sg):=ZZ (by rw[HS.o,aI];rfl)
  have ap:=ZZ (a9.o nq);rw[<-aI] at ap ae ⊢;generalize Jk d kind l q=g at *;obtain⟨A,U⟩:∃ A,A=Jk d kind l (q+1):=⟨_,rfl⟩;have af:=ZZ U;rw[<-U] at ag aX;clear aI HS U
  cases sg with
  | none=>
   have D:Hid (Jk d kind l (q+1)=g):=ZZ (by rw[<-af.o];exact ag.o)
   simp only [Option.isSome_none];clear ay ae ad;go_wp2;go_roundw
   case rel=>exact⟨q+1,rv,pv,by go_num,by omega,ZZ (by rw[D.o];exact C.o)⟩
   case measure=>simp[intOf];omega
  | some fl=>
   obtain⟨f,i⟩:=fl;obtain⟨rfl,aU⟩:=ae.o f i rfl;obtain⟨br,aQ⟩:=ap.o f i rfl;have aS:=ZZ aQ;have ax:=ZZ aU;have aZ:Hid (∀ k,ZjN (w.heap.size+1) rv pv k->k<W2.heap.size):=ZZ ad.o.log.ltF;have aE:Hid (A=if g.pcs.length=0∨(f:Int)=g.next then(g.start nq f).add i else g):=ZZ ag.o
   simp only [Option.isSome_some];clear aQ aU ap ae ag ay
   have V:Hid (∀ W,ZfW w t (.slice (some ⟨bb,ah,none⟩) j K) l rv pv g W->Xj W W2.heap.size (.slice P Q M) i->Calls prog 53 #[.pointer (some ⟨w.heap.size+1,0,none⟩),.int .i64 nq,.int .i64 (f:Int)] W fun e w'=>e=.returned (.tuple #[])∧∃ H J,Hid (ZfW w t (.slice (some ⟨bb,ah,none⟩) j K) l H J (g.start nq f) w')∧Hid (RdR w' (.slice P Q M) i)):=ZZ (fun W u ho=>by
    refine(Zkz 73 (by decide) (by decide) (w.heap.size+1) 0 _ rv pv g nq f W u.log (by have:=E.o.pl;omega)).mono ?_
    rintro e w' ⟨rfl,hd⟩;obtain⟨H,J,aB,bp⟩:=u.did hd;refine⟨rfl,H,J,ZZ aB,ZZ (Xj.rdF (B:=W2.heap.size) (Qh ho fun k hk=>?_) aS.o)⟩
    have bk:=World.ownsRow.lt ho k hk;refine bp.block k bk.2 fun hf=>?_
    have:=aZ.o k hf
    omega)
   have z:Hid (A=(g.start nq f).add i->∀ H J W,ZfW w t (.slice (some ⟨bb,ah,none⟩) j K) l H J (g.start nq f) W->RdR W (.slice P Q M) i->Calls prog 54 #[.pointer (some ⟨w.heap.size+1,0,none⟩),.slice P Q M] W fun e w'=>e=.returned (.tuple #[])∧∃ aq ak,Hid (ZfW w t (.slice (some ⟨bb,ah,none⟩) j K) l aq ak ((g.start nq f).add i) w')):=ZZ (fun U H J W u hr=>by
    have aj:=aX.o.rl;rw[U] at aj
    have bx:(g.start nq f).recs.length+i.length<=9000000:=by
     have e:((g.start nq f).add i).recs=(g.start nq f).recs++i:=rfl;rw[e,length_append] at aj;exact aj
    have bv:(g.start nq f).pcs.length=g.pcs.length+1:=by
     show(g.pcs++[_]).length=_;simp
    refine(Zve 73 (by decide) (by decide) (w.heap.size+1) 0 _ H J (g.start nq f) (.slice P Q M) i W u.log hr (by omega) (by have:=E.o.pl;omega) (by omega) (fun p hp=>?_)).mono ?_
    ·have hp':p ∈ g.pcs++[(⟨nq,f,f⟩:Pce)]:=hp
     rcases List.mem_append.1 hp' with hp' | hp'
     ·exact E.o.st p hp'
     ·rw[List.mem_singleton.1 hp']
      show(0:Int)<=(f:Int)∧(f:Int)<=4611686018427387904;omega
    ·rintro e w' ⟨rfl,hd⟩
     obtain⟨aq,ak,aB,-⟩:=u.did hd
     exact⟨rfl,aq,ak,ZZ aB⟩)
   obtain⟨ra,rc,ai⟩:=C.o.log.recs.shape;obtain⟨pa,pc,aH⟩:=Z8 C.o.log.pcs;subst ai aH;obtain⟨x0,-⟩:=C.o.log.blk.cell 0 rfl;obtain⟨x1,-⟩:=C.o.log.blk.cell 1 rfl;obtain⟨x2,-⟩:=C.o.log.blk.cell 2 rfl;have bc:=E.o.f0;have bA:=E.o.f1;have bt:=E.o.rl;have bB:(g.pcs.length:Int)<=900000:=by have:=E.o.pl;omega
   have bg:g.first+(g.recs.length:Int)<=9000000000000000000:=by omega
   have aR:=ZZ (ZlK (w.heap.size+1) 0 g.first ra g.recs.length rc W3 x0 x1 bc bg);clear ad aZ aS;by_cases S:g.pcs.length=0
   ·have bi:((g.pcs.length:Int) == 0)=true:=by rw[beq_iff_eq];omega
    have G:A=(g.start nq f).add i:=by rw[aE.o,if_pos (.inl S)]
    have D:Hid (Jk d kind l (q+1)=(g.start nq f).add i):=ZZ (by rw[<-af.o];exact G)
    replace z:=ZZ (z.o G)
    clear G S
    go_wp2_with fail
    refine(V.o W3 C.o ax.o).mono ?_;rintro e W5 ⟨rfl,al,ar,Z,O⟩;clear V
    go_wp2_with fail
    refine(z.o al ar W5 Z.o O.o).mono ?_;rintro e W6 ⟨rfl,an,aF,aA⟩;clear z O Z;go_wp2;go_roundw
    case rel=>exact⟨q+1,an,aF,by go_num,by omega,ZZ (by rw[D.o];exact aA.o)⟩
    case measure=>simp[intOf];omega
   have bi:((g.pcs.length:Int) == 0)=false:=beq_eq_false_iff_ne.2 (by omega)
   go_wp2_with fail
   refine aR.o.mono ?_;rintro e W4 ⟨rfl,aC⟩;have aN:=ZZ (C.o.below aC);have a7:=ZZ (ax.o.below aC zL);clear aC aR C ax x0 x1 x2;by_cases y:(f:Int)=g.first+(g.recs.length:Int)
   ·have a8:((f:Int) == g.first+(g.recs.length:Int))=true:=by rw[beq_iff_eq];exact y
    have G:A=(g.start nq f).add i:=by rw[aE.o,if_pos (.inr y)]
    have D:Hid (Jk d kind l (q+1)=(g.start nq f).add i):=ZZ (by rw[<-af.o];exact G)
    replace z:=ZZ (z.o G)
    clear G S y
    go_wp2_with fail
    refine(V.o W4 aN.o a7.o).mono ?_;rintro e W5 ⟨rfl,al,ar,Z,O⟩;clear V
    go_wp2_with fail
    refine(z.o al ar W5 Z.o O.o).mono ?_;rintro e W6 ⟨rfl,an,aF,aA⟩;clear z O Z;go_wp2;go_roundw
    case rel=>exact⟨q+1,an,aF,by go_num,by omega,ZZ (by rw[D.o];exact aA.o)⟩
    case measure=>simp[intOf];omega
   ·have a8:((f:Int) == g.first+(g.recs.length:Int))=false:=beq_eq_false_iff_ne.2 y
    have D:Hid (Jk d kind l (q+1)=g):=ZZ (by
     rw[<-af.o,aE.o,if_neg];rintro(h | h)
     ·exact S h
     ·exact y h)
    clear S y V z;go_wp2;go_roundw
    case rel=>exact⟨q+1,_,_,by go_num,by omega,ZZ (by rw[D.o];exact aN.o)⟩
    case measure=>simp[intOf];omega
theorem Zzg:(prog.info? 41).map (fun i=>(i.zero,i.size,i.bytes))=some (some (.agg #[.int .i64 0,.int .i64 0,.slice none 0 0,.bool false,.int .i64 0,.slice none 0 0]),6,80):=by kernel_rfl
def SlX (x:Q0 × Value × Value):Prop:=∃ a n c a' n' c',x.2.1=.slice a n c∧x.2.2=.slice a' n' c'
theorem Zqd (l:List (Q0 × Value × Value)) (h:∀ x ∈ l,SlX x):∀ u ∈ Xv l,u.oneCell'=true:=by
 induction l with
 | nil=>intro u hu;cases hu
 | cons c l d=>
  intro u hu;rw[Xv] at hu;rcases List.mem_append.1 hu with hu | hu
  ·obtain⟨a,n,k,a',n',g,f,e⟩:=h c (List.mem_cons_self ..)
   unfold snC at hu;rw[f,e] at hu;simp only [List.mem_cons,List.not_mem_nil,or_false] at hu;rcases hu with rfl | rfl | rfl | rfl | rfl | rfl <;> rfl
  ·exact d (fun x b=>h x (List.mem_cons_of_mem _ b)) u hu
theorem ZeX (w:World) (ty:TypeId) (v:Value) (l:List (Q0 × Value × Value)) (h:w.ownsRow 0 41 6 v l.length (Xv l)) (c:Q0 × Value × Value) (p:SlX c) (q:l.length<=10000000):
 ∃ v' w',(Builtin.append_ #[74,74] ty #[v,.slice (some ⟨w.heap.size,0,none⟩) 1 1]).run prog (w.alloc (.cells (snC c) 41))=.ok v' w'∧
  w'.ownsRow 0 41 6 v' (l++[c]).length (Xv (l++[c]))∧(w.alloc (.cells (snC c) 41)).grownBy w' v.ownBlock∧(v'.ownBlock=v.ownBlock∨v'.ownBlock=some (w.heap.size+1)):=by
 obtain⟨b,d,k,f,e⟩:=info_parts Zzg
 obtain⟨v',w',g,n,i,_,hl⟩:=run_append_own_at (P:=prog) (w.alloc (.cells (snC c) 41)) 0 74 ty 41 b _ 6 80 underlying74 d k f e rfl (by decide) v l.length (Xv l) (World.ownsRow.alloc h _)
  ⟨w.heap.size,0,none⟩ 1 1 (Xv [c]) (Zdv [c]) (fun j u m=>by
   rw[Addr.add_lit,Nat.zero_add,cell_of_row _ w.heap.size j _ 41 (0,0) (heap_alloc_new w _)]
   simpa[Xv] using m) (Zqd [c] (fun x a=>by rw[List.mem_singleton.1 a];exact p)) (by unfold maxLen;omega) (by omega) (Nat.zero_le _)
 refine⟨v',w',g,?_,i,?_⟩
 ·rw[length_append,Zip]
  exact n
 ·rcases hl with hl | hl
  ·exact .inl hl
  ·exact .inr (by rw[hl];simp)
theorem ZgN (w:World) {b:Array Oper} {rest:List Oper} {o:Oper} {a:Act} {Q:Exit->Act->World->Prop} (m:o.guard=none) (s x:Operand)
 (q:o.op=.call { callee:=.builtin .append,args:=#[s,x],argTypes:=#[74,74] })
 (v:Value) (l:List (Q0 × Value × Value)) (f:a.eval s=v) (h:w.ownsRow 0 41 6 v l.length (Xv l)) (c:Q0 × Value × Value) (t:SlX c) (d:a.eval x=.slice (some ⟨w.heap.size,0,none⟩) 1 1) (g:l.length<=10000000)
 (e:∀ v' w',w'.ownsRow 0 41 6 v' (l++[c]).length (Xv (l++[c]))->(w.alloc (.cells (snC c) 41)).grownBy w' v.ownBlock->(v'.ownBlock=v.ownBlock∨v'.ownBlock=some (w.heap.size+1))->
  wpList prog b Q rest (a.put o.dst v') w'):wpList prog b Q (o::rest) a (w.alloc (.cells (snC c) 41)):=
 wpList_plain m fun _ p=>by
  obtain⟨v',w',n,i,j,k⟩:=ZeX w o.type v l h c t g;unfold Oper.wp execOp;simp only [q,resolve,invoke,builtin,Sem.run_bind,Sem.run_pure,Result.andThen_ok,map_toArray,map_cons,map_nil,f,d,n];exact p _ _ (e v' w' i j k)
theorem ZeY:∀ (a b:List (SDk->SDk × Int)) (x:SDk),Qv (a++b) x=if(Qv a x).2=0 then Qv b (Qv a x).1 else Qv a x
 | [],b,x=>by simp[Qv]
 | f::a,b,x=>by
  rw[List.cons_append,Qv,Qv];by_cases h:(f x).2=0
  ·rw[if_pos h,if_pos h]
   exact ZeY a b _
  ·rw[if_neg h,if_neg h,if_neg h]
def ZdY (y:SDk):SDk × Int:=(y,0)
theorem Zdm (g:SDk->SDk × Int) (y:SDk):(Qv [g] y).1=(g y).1∧(Qv [g] y).2=(g y).2:=by
 unfold Qv;split
 ·rename_i h
  exact⟨rfl,h.symm⟩
 ·exact⟨rfl,rfl⟩
theorem Zrg {α:Type} {l:List α} {i:Nat} (a:i<l.length) (z:α):l.take (i+1)=l.take i++[l.getD i z]:=by
 rw[List.take_succ_eq_append_getElem a]
 congr 2
 simp[List.getD,a]
theorem ZnZ (gs:List (SDk->SDk × Int)) (x:SDk) (i:Nat) (a:i<gs.length) (b:(Qv (gs.take i) x).2=0):
 (Qv (gs.take (i+1)) x).1=(gs.getD i ZdY (Qv (gs.take i) x).1).1∧(Qv (gs.take (i+1)) x).2=(gs.getD i ZdY (Qv (gs.take i) x).1).2:=by
 rw[Zrg a ZdY,ZeY,if_pos b];exact Zdm _ _
theorem ZvN (gs:List (SDk->SDk × Int)) (x:SDk) (i:Nat) (d:i<gs.length) (f:(Qv (gs.take i) x).2=0) (e:(gs.getD i ZdY (Qv (gs.take i) x).1).2≠0):
 (Qv gs x).1=(gs.getD i ZdY (Qv (gs.take i) x).1).1∧(Qv gs x).2=(gs.getD i ZdY (Qv (gs.take i) x).1).2:=by
 have a:=ZnZ gs x i d f
 have c:Qv gs x=Qv (gs.take (i+1)) x:=by
  have b:=ZeY (gs.take (i+1)) (gs.drop (i+1)) x;rw[List.take_append_drop,if_neg (by rw[a.2];exact e)] at b
  exact b
 rw[c];exact a
def Ztk (K0 Kc:Nat->Prop) (pd p:Nat) (r:SDk × Int) (N T:Nat) (X:(Nat->Prop)->World->Prop) (W:World) (e:Ending) (w':World):Prop:=
 e=.returned (.int .i64 r.2)∧∃ Kd:Nat->Prop,(∀ k,Kc k->Kd k)∧(∀ k,Kd k->k<w'.heap.size)∧Ql (fun k=>¬ K0 k) W w'∧SD Kd w' pd p r.1.1 r.1.2 N T∧(r.2=0->X Kd w')
theorem ZvO {K2:Nat->Prop} (b cap:Nat) (fs:Nat->Stp) (gs:List (SDk->SDk × Int)) (x:SDk) (N T l n:Nat) (w:World) (X:Nat->(Nat->Prop)->World->Prop) (P:gs.length<=1000000)
 (V:K0 b) (cs:Array Value) (B:Bk 153 w b cs) (K:∀ i,i<gs.length->cs[i]?=some (fs i).val)
 (L:∀ k,K2 k->k<w.heap.size) (I:SD K2 w pd p x.1 x.2 N T) (R:X 0 K2 w)
 (Q:∀ i,i<gs.length->∀ (a:Nat->Prop) W,(∀ k,K2 k->a k)->(∀ k,a k->k<W.heap.size)->Ql (fun k=>¬ K0 k) w W->(Qv (gs.take i) x).2=0->SD a W pd p (Qv (gs.take i) x).1.1 (Qv (gs.take i) x).1.2 (N+l*i) (T+n*i)->X i a W->
  Calls prog (fs i).g ((fs i).bd++(fs i).cp) W fun e w'=>Ztk K0 a pd p (gs.getD i ZdY (Qv (gs.take i) x).1) (N+l*i+l) (T+n*i+n) (X (i+1)) W e w')
 (O:∀ i,i<gs.length->∀ args W,(callFunc (fs i).g args).run prog W=.ok (.enter (fs i).g args) W):
 Calls prog 62 #[.slice (some ⟨b,0,none⟩) gs.length cap] w fun e w'=>Ztk K0 K2 pd p (Qv gs x) (N+l*gs.length) (T+n*gs.length) (fun _ _=>True) w e w':=by
 refine(Znx b 0 cap gs.length fs w
  (fun i W=>(Qv (gs.take i) x).2=0∧∃ a:Nat->Prop,(∀ k,K2 k->a k)∧(∀ k,a k->k<W.heap.size)∧Ql (fun k=>¬ K0 k) w W∧SD a W pd p (Qv (gs.take i) x).1.1 (Qv (gs.take i) x).1.2 (N+l*i) (T+n*i)∧X i a W)
  (fun c W=>(Qv gs x).2=c∧∃ a:Nat->Prop,(∀ k,K2 k->a k)∧(∀ k,a k->k<W.heap.size)∧Ql (fun k=>¬ K0 k) w W∧SD a W pd p (Qv gs x).1.1 (Qv gs x).1.2 (N+l*gs.length) (T+n*gs.length)) P ?_ ?_ O ?_).mono ?_
 ·rintro i W j ⟨-,a,-,-,S,-⟩
  rw[Nat.zero_add];exact((B.keep (S.block b B.lt (fun H=>H V))).cell i (K i j)).1
 ·rintro i W j ⟨t,a,f,u,m,q,J⟩
  refine(Q i j a W f u m t q J).mono ?_;rintro e w' ⟨rfl,F,E,D,G,C,M⟩;refine⟨_,rfl,fun d=>?_,fun d=>?_⟩
  ·obtain⟨y,z⟩:=ZnZ gs x i j t
   refine⟨by rw[z];exact d,F,fun k v=>E k (f k v),D,m.trans G (fun _ _ h=>h),?_,M d⟩
   rw[y,Nat.mul_succ,Nat.mul_succ,<-Nat.add_assoc,<-Nat.add_assoc];exact C
  ·obtain⟨y,z⟩:=ZvN gs x i j t d
   refine⟨z,F,fun k v=>E k (f k v),D,m.trans G (fun _ _ h=>h),?_⟩
   rw[y];refine C.mono ?_ ?_
   ·have:=Nat.mul_le_mul_left l (show i+1<=gs.length from j)
    rw[Nat.mul_succ] at this;omega
   ·have:=Nat.mul_le_mul_left n (show i+1<=gs.length from j)
    rw[Nat.mul_succ] at this;omega
 ·exact⟨rfl,K2,fun _ h=>h,L,Ql.refl _ _,by rw[Nat.mul_zero,Nat.mul_zero];exact I,R⟩
 ·rintro e w' ⟨c,rfl,t,U⟩
  by_cases A:c=0
  ·obtain⟨d,a,f,u,m,q,-⟩:=t A
   rw[List.take_length] at d q;exact⟨by rw[d,A],a,f,u,m,q,fun _=>trivial⟩
  ·obtain⟨d,a,f,u,m,q⟩:=U A
   exact⟨by rw[d],a,f,u,m,q,fun _=>trivial⟩
theorem Jz.seqD {a:Nat->Prop} {r:SDk × Int} {N' T':Nat} {X:(Nat->Prop)->World->Prop} {e:Ending} (h:Jz a W pd p r N T e w') (d:∀ k,a k->k<W.heap.size) (m:∀ k,K0 k->a k) (g:N<=N') (i:T<=T') (l:Ql (fun k=>¬ a k) W w'->X a w'):Ztk K0 a pd p r N' T' X W e w':=by
 obtain⟨rfl,f,c⟩:=h;exact⟨rfl,a,fun _ h=>h,fun k b=>Nat.lt_of_lt_of_le (d k b) c.size,c.mono (fun k b j=>b (m k j)),f.mono g i,fun _=>l c⟩
theorem Rd.keepK {l:List UInt8} (h:Rd w v l) (hv:l=[]∨∀ k,v.ownBlock=some k->K k) (f:Ql (fun k=>¬ K k) w w'):Rd w' v l:=by
 rcases hv with rfl | hv
 ·obtain⟨ao,cap,rfl,c,d,e,g⟩:=h
  exact⟨ao,cap,rfl,c,d,e,.inl rfl⟩
 ·exact h.only f fun k b a=>a (hv k b)
def Gb (n:Q0):List UInt8:=if Z6 n then ZjA n else[]
theorem Ztl (n:Q0):(Gb n).length<=80000:=by
 unfold Gb;split
 ·rename_i h
  unfold ZjA ZaI;rw[Q8,length_append];have e:=Zay h;have a:=Zey (i:=n.idx.toNat) (by have:=h.1;omega) (w:=Xt n) (by omega)
  have b:=J7 (d:=Zbn n.idx.toNat (Xt n)) (by omega)
  have c:=Zaq _ (Xt n) zL;omega
 ·exact Nat.zero_le _
theorem Zqe {v0:Value} (w:World) (h:SD K w pd p s d N T) (hR:w.cell? ⟨R,0,none⟩=some (ptr p)) (A:Bk 53 w Rb #[v0]) (X:K Rb):
 Calls prog 55 #[.pointer (some ⟨R,0,none⟩),.pointer (some ⟨Rb,0,none⟩)] w fun e w'=>e=.returned (.int .i64 (if Z6 s.now then 0 else 1))∧∃ v',Bk 53 w' Rb #[v']∧Rd w' v' (Gb s.now)∧(∀ k,v'.ownBlock=some k->w.heap.size<=k∧k<w'.heap.size)∧
  SD (fun k=>K k∨(w.heap.size<=k∧k<w'.heap.size)) w' pd p s d N T∧Ql (fun k=>k=Rb) w w':=by
 have HS:=ZZ h;have x:=ZZ A;have ac:=ZZ X;obtain⟨F,M,I,L,Z,j,-⟩:=h;have B:=ZZ (ZpI (snV (L.nx s)) s.now w j.now.snV);obtain⟨c0,-,-,-,-,⟨c5,c6,c7,c8,c9,ae⟩,-⟩:=j.cs;obtain⟨z,m,lc,q,E,u,W,S⟩:=j.now.shape;have t:L.nl=.slice z m lc:=W;have v:L.nt=.slice q E u:=S;have U:Hid (snV (L.nx s)=.agg #[.int .i64 s.now.idx,.int .i64 s.now.st.kind,.slice z m lc,.bool s.now.st.shut,.int .i64 s.now.st.eng,.slice q E u]):=ZZ (by unfold snV snC ZdU.nx;rw[t,v])
 rw[U.o] at B;rw[t] at c7;rw[v] at ae;obtain⟨D,l⟩:∃ D:Int,D=if Z6 s.now then 0 else 1:=⟨_,rfl⟩
 have ab:Hid (Calls prog 56 #[.agg #[.int .i64 s.now.idx,.int .i64 s.now.st.kind,.slice z m lc,.bool s.now.st.shut,.int .i64 s.now.st.eng,.slice q E u]] w fun e w'=>∃ v',e=.returned (.tuple #[v',.int .i64 D])∧Own w' w.heap.size v' (Gb s.now)∧Below w.heap.size w w'):=ZZ (by rw[l];exact B.o)
 rw[<-l];have ad:Hid (Gb s.now=Gb s.now):=ZZ rfl;generalize Gb s.now=J at *;generalize s.now.idx=n0 at *;generalize s.now.st.kind=n1 at *;generalize s.now.st.shut=n2 at *;generalize s.now.st.eng=n3 at *;obtain⟨b0,f0⟩:=A.cell 0 rfl;clear Z j W S t v U B l ad A X
 go_enter func55,ntmps55
 go_wp2_with fail
 refine ab.o.mono ?_;rintro e a ⟨v',rfl,n,C⟩;have H:=ZZ C;have G:=ZZ n;have V:=ZZ (x.o.keep (C.block _ x.o.lt));obtain⟨f,g,Q,-⟩:=n.rd;generalize Y:J.length=c at Q;clear Y;subst Q;obtain⟨b1,f1⟩:=V.o.cell 0 rfl
 have aa:Hid (∃ v',Bk 53 (a.setCell ⟨Rb,0,none⟩ (.slice f c g)) Rb #[v']∧Rd (a.setCell ⟨Rb,0,none⟩ (.slice f c g)) v' J∧(∀ k,v'.ownBlock=some k->w.heap.size<=k∧k<(a.setCell ⟨Rb,0,none⟩ (.slice f c g)).heap.size)∧
  SD (fun k=>K k∨(w.heap.size<=k∧k<(a.setCell ⟨Rb,0,none⟩ (.slice f c g)).heap.size)) (a.setCell ⟨Rb,0,none⟩ (.slice f c g)) pd p s d N T∧Ql (fun k=>k=Rb) w (a.setCell ⟨Rb,0,none⟩ (.slice f c g))):=ZZ (by
  have P:(a.setCell ⟨Rb,0,none⟩ (.slice f c g)).heap.size=a.heap.size:=ZqD _ _ _ _;have O:=World.ownsRow.lt G.o;have af:=x.o.lt;have y:Ql (fun k=>k=Rb) a (a.setCell ⟨Rb,0,none⟩ (.slice f c g)):=(Ql.refl (fun k=>k=Rb) a).setCell (b:=Rb) 0 (fun _=>rfl) _
  refine⟨_,V.o.set 0 _,?_,fun k i=>by rw[P];exact O k i,?_,(Ql.ofBelow H.o).trans y (fun _ _ h=>h)⟩
  ·exact G.o.rd.only y fun k i e=>by
    have:=O k i;omega
  ·rw[P]
   exact(HS.o.fresh H.o).onlyK (y.mono (fun k i=>by rw[i];exact .inl ac.o)))
 clear n C;go_wp2;go_ret;exact⟨rfl,aa.o⟩
theorem Ztm (w:World) (h:SD K w pd p s d N T) (i:∀ k,K k->k<w.heap.size) (O:w.cell? ⟨R,0,none⟩=some (ptr p)) (q:Bk 53 w Rb #[v]) (b:Rd w v (Gb s.now)) (m:Gb s.now=[]∨∀ k,v.ownBlock=some k->K k) (B:N<=1000000) (C:T<=1000000000):
 Calls prog 57 #[.pointer (some ⟨R,0,none⟩),.pointer (some ⟨Rb,0,none⟩)] w fun e w'=>Jz K w pd p (ZbN (s,d)) (N+2) (T+80000) e w':=by
 have t:Hid (∀ W,Below w.heap.size w W->Calls prog 52 #[ptr pd,.int .i64 1,v] W fun e w'=>Jz K W pd p (ZbN (s,d)) (N+2) (T+80000) e w'):=ZZ (fun W c=>(h.below c).step (fun d=>Qy d 1 (Gb s.now)) (fun k a=>Nat.lt_of_lt_of_le (i k a) c.size) (fun F A D=>by
  have L:=Ztl s.now;refine(Zkj 1 ⟨by decide,by decide⟩ v (Gb s.now) W A (b.below c zL) (m.imp id fun h k a x=>D k x (h k a)) B C (by omega)).mono ?_
  rintro e w' ⟨y,F',G,E⟩
  exact⟨y,F',G.mono zL (by omega),E⟩))
 obtain⟨⟨I,-⟩,-⟩:=h.cells;have u:Hid (Below w.heap.size w w.drew):=ZZ (Below.refl _ _).drew;obtain⟨P,-⟩:=q.cell 0 rfl;obtain⟨H,J,n,-⟩:=id b;generalize z:(Gb s.now).length=Q at n;obtain⟨r,l⟩:∃ r,r=ZbN (s,d):=⟨_,rfl⟩;rw[<-l] at t ⊢;subst n;clear h i l b m q z
 go_enter func57,ntmps57
 go_upto_region 1 with fail
 go_region_with(first | (go_at_call 52;refine(t.o _ u.o).mono ?_;rintro e M ⟨rfl,g,j⟩;have f:=ZZ (And.intro g j);clear g j))
 all_goals
  go_wp2;go_ret;exact⟨rfl,f.o.1,(Ql.ofBelow u.o).trans f.o.2 (fun _ _ h=>h)⟩
theorem Zzh:(prog.info? 153).map (fun i=>(i.zero,i.size,i.bytes))=some (some .nilFunc,1,8):=by kernel_rfl
def Za (l:List Stp):List Value:=l.map Stp.val
theorem ZjX (l:List Stp):(Za l).length=l.length*1:=by simp[Za]
theorem Zqf (l:List Stp):∀ u ∈ Za l,u.oneCell'=true:=fun u a=>by
 obtain⟨s,-,rfl⟩:=List.mem_map.1 a;rfl
theorem Zmi (w:World) (ty:TypeId) (v:Value) (l:List Stp) (h:w.ownsRow 0 153 1 v l.length (Za l)) (c:Stp) (p:l.length<=10000000):
 ∃ v' w',(Builtin.append_ #[106,106] ty #[v,.slice (some ⟨w.heap.size,0,none⟩) 1 1]).run prog (w.alloc (.cells #[c.val] 153))=.ok v' w'∧
  w'.ownsRow 0 153 1 v' (l++[c]).length (Za (l++[c]))∧(w.alloc (.cells #[c.val] 153)).grownBy w' v.ownBlock∧(v'.ownBlock=v.ownBlock∨v'.ownBlock=some (w.heap.size+1)):=by
 obtain⟨a,b,k,f,d⟩:=info_parts Zzh
 obtain⟨v',w',g,n,i,_,hl⟩:=run_append_own_at (P:=prog) (w.alloc (.cells #[c.val] 153)) 0 106 ty 153 a _ 1 8 underlying106 b k f d rfl (by decide) v l.length (Za l) (World.ownsRow.alloc h _)
  ⟨w.heap.size,0,none⟩ 1 1 (Za [c]) (ZjX [c]) (fun j u m=>by
   rw[Addr.add_lit,Nat.zero_add,cell_of_row _ w.heap.size j _ 153 (0,0) (heap_alloc_new w _)]
   simpa[Za] using m) (Zqf [c]) (by unfold maxLen;omega) (by omega) (Nat.zero_le _)
 refine⟨v',w',g,?_,i,?_⟩
 ·have e:Za (l++[c])=Za l++Za [c]:=by simp[Za]
  rw[length_append,e];exact n
 ·rcases hl with hl | hl
  ·exact .inl hl
  ·exact .inr (by rw[hl];simp)
theorem Zcv (w:World) {b:Array Oper} {rest:List Oper} {o:Oper} {a:Act} {Q:Exit->Act->World->Prop} (m:o.guard=none) (s x:Operand)
 (q:o.op=.call { callee:=.builtin .append,args:=#[s,x],argTypes:=#[106,106] })
 (v:Value) (l:List Stp) (f:a.eval s=v) (h:w.ownsRow 0 153 1 v l.length (Za l)) (c:Stp) (d:a.eval x=.slice (some ⟨w.heap.size,0,none⟩) 1 1) (g:l.length<=10000000)
 (e:∀ v' w',w'.ownsRow 0 153 1 v' (l++[c]).length (Za (l++[c]))->(w.alloc (.cells #[c.val] 153)).grownBy w' v.ownBlock->(v'.ownBlock=v.ownBlock∨v'.ownBlock=some (w.heap.size+1))->
  wpList prog b Q rest (a.put o.dst v') w'):wpList prog b Q (o::rest) a (w.alloc (.cells #[c.val] 153)):=
 wpList_plain m fun _ p=>by
  obtain⟨v',w',n,i,j,k⟩:=Zmi w o.type v l h c g;unfold Oper.wp execOp;simp only [q,resolve,invoke,builtin,Sem.run_bind,Sem.run_pure,Result.andThen_ok,map_toArray,map_cons,map_nil,f,d,n];exact p _ _ (e v' w' i j k)
theorem Jq.ofLogZ {M I Z:Nat->Prop} {L:ZdU} {b c:Value} (h:Jq M I w p pd L s) (v:∀ k,Z k->¬ I k)
 (a:Zix 76 w' p 1 ((((stC pd L s).setIfInBounds 1 (.int .i64 g.first)).setIfInBounds (1+1) b).setIfInBounds (1+2) c) b c g) (q:Ql (fun k=>k=p) w w') (j:∀ k,ZjN p b c k->ZjN p L.rv L.pv k∨Z k):
 ∃ M' L',Jq M' I w' p pd L' { s with log:=g }∧Ql M w w'∧∀ k,M' k->M k∨Z k:=by
 have f:Ql M w w':=q.mono (fun k hk=>by rw[hk];exact h.mh)
 have n:∀ k,I k->w'.heap[k]?=w.heap[k]?:=fun k hk=>f.block k (h.ltI k hk) fun a=>h.dis k a hk
 have u:((((stC pd L s).setIfInBounds 1 (.int .i64 g.first)).setIfInBounds (1+1) b).setIfInBounds (1+2) c)=stC pd { L with rv:=b,pv:=c } { s with log:=g }:=rfl
 rw[u] at a
 have t:∀ k,ZjN p b c k->k<w'.heap.size:=fun k hk=>by
  rcases hk with rfl | hk | hk
  ·exact a.blk.lt
  ·obtain⟨m,d⟩:=X0 a.recs hk
   exact d.lt
  ·obtain⟨m,d⟩:=X0 a.pcs hk
   exact d.lt
 refine⟨fun k=>M k∨ZjN p b c k,{ L with rv:=b,pv:=c },⟨a.blk,a.recs,a.pcs,Qh h.bases fun k hk=>?_,h.bsEq,h.now.keep h.inow n,fun x l=>(h.base x l).keep (h.ibase x l) n,.inr (.inl rfl),fun k hk=>.inr (.inr (.inl hk)),fun k hk=>.inr (.inr (.inr hk)),fun k hk=>.inl (h.mb k hk),h.inow,h.ibase,fun k hk=>?_,fun k hk=>Nat.lt_of_lt_of_le (h.ltI k hk) f.size,fun k hk i=>?_⟩,f,fun k hk=>?_⟩
 ·obtain⟨m,d⟩:=X0 h.bases hk
  exact q.block k d.lt (fun e=>by
   subst e
   exact(d.ne h.head (by decide)) rfl)
 ·rcases hk with hk | hk
  ·exact Nat.lt_of_lt_of_le (h.ltM k hk) f.size
  ·exact t k hk
 ·rcases hk with hk | hk
  ·exact h.dis k hk i
  ·rcases j k hk with h1 | h1
   ·exact h.dis k (h.logF k h1) i
   ·exact v k h1 i
 ·rcases hk with hk | hk
  ·exact .inl hk
  ·rcases j k hk with h1 | h1
   ·exact .inl (h.logF k h1)
   ·exact .inr h1
theorem SD.letGo {f:Nat->Prop} (h:SD f w pd p s d N T) (c:∀ k,K k->f k) (G:∀ k,f k->k<w.heap.size) (b:Value) (left:List Pce) (base:Int)
 (z:w.ownsRow 0 108 3 b left.length (Q6 left)) (C:∀ k,b.ownBlock=some k->f k∧¬ K k)
 (H:left.length<=1000000) (O:s.log.recs.length<=1000000) (P:∀ r ∈ s.log.recs,Zcx r) (A:s.log.first<=Zg left base) (x:Zg left base<=s.log.first+s.log.recs.length) (J:0<=s.log.first) (v:s.log.first+s.log.recs.length<=4611686018427387904):
 Calls prog 70 #[.pointer (some ⟨p,1,none⟩),b,.int .i64 base] w fun e w'=>e=.returned (.tuple #[])∧SD K w' pd p { s with log:=s.log.letGo left base } d N T∧Ql (fun k=>¬ K k) w w':=by
 obtain⟨F,M,I,L,t,g,l,i,u,m,B⟩:=h;refine(Zvg 76 (by decide) p 1 (stC pd L s) L.rv L.pv s.log b left base w g.toLog z H O P A x J v).mono ?_
 rintro e w' ⟨rfl,R,D,Q,E⟩
 have j:∀ k,(b.ownBlock=some k∨w.heap.size<=k)->¬ K k∧¬ F k∧¬ M k∧¬ I k:=fun k hk=>by
  rcases hk with hk | hk
  ·have a:=C k hk
   exact⟨a.2,fun hx=>l k hx a.1,fun hx=>i k hx a.1,fun hx=>u k hx a.1⟩
  ·refine⟨fun hx=>?_,fun hx=>?_,fun hx=>?_,fun hx=>?_⟩
   ·have:=G k (c k hx);omega
   ·have:=t.ltF k hx;omega
   ·have:=g.ltM k hx;omega
   ·have:=g.ltI k hx;omega
 obtain⟨M',L',y,q,n⟩:=g.ofLogZ (Z:=fun k=>b.ownBlock=some k∨w.heap.size<=k) (fun k hk=>(j k hk).2.2.2) D Q (fun k hk=>by
  rcases hk with hk | hk | hk
  ·exact .inl (.inl hk)
  ·exact .inr (.inr (E k hk))
  ·exact .inr (.inl hk))
 refine⟨rfl,⟨F,M',I,L',t.only q m,y,fun k hk a=>l k hk (c k a),fun k hk a=>?_,fun k hk a=>u k hk (c k a),fun k hk a=>?_,B⟩,q.mono (fun k hk a=>i k hk (c k a))⟩
 ·rcases n k hk with hx | hx
  ·exact i k hx (c k a)
  ·exact(j k hx).1 a
 ·rcases n k a with hx | hx
  ·exact m k hk hx
  ·exact(j k hx).2.1 hk
theorem Zqg {l:Nat} (a:Int) (w:World) (h:SD K w pd p s d N T) (f:∀ k,K k->k<w.heap.size) (B:w.cell? ⟨R,0,none⟩=some (ptr p)) (y:w.cell? ⟨l,0,none⟩=some (.int .i64 a)) (t:I64 a) (m:N<=1000000) (n:T<=1000000000):
 Calls prog 68 #[.pointer (some ⟨R,0,none⟩),.pointer (some ⟨l,0,none⟩)] w fun e w'=>Jz K w pd p (Xm (fun d=>Qj d a) (s,d)) (N+2) T e w':=by
 have q:Hid (∀ W,Below w.heap.size w W->Calls prog 69 #[ptr pd,.int .i64 a] W fun e w'=>Jz K W pd p (Xm (fun d=>Qj d a) (s,d)) (N+2) T e w'):=ZZ (fun W g=>(h.below g).step (fun d=>Qj d a) (fun k v=>Nat.lt_of_lt_of_le (f k v) g.size) (fun F x _=>Zkk a t _ x m n))
 obtain⟨⟨z,-⟩,-⟩:=h.cells;have u:Hid (Below w.heap.size w w.drew):=ZZ (Below.refl _ _).drew;obtain⟨r,j⟩:∃ r,r=Xm (fun d=>Qj d a) (s,d):=⟨_,rfl⟩
 rw[<-j] at q ⊢;clear h f j t m n
 go_enter func68,ntmps68
 go_upto_region 1 with fail
 go_region_with(first | (go_at_call 69;refine(q.o _ u.o).mono ?_;rintro e A ⟨rfl,c,i⟩;have b:=ZZ (And.intro c i);clear c i))
 all_goals
  go_wp2;go_ret;exact⟨rfl,b.o.1,(Ql.ofBelow u.o).trans b.o.2 (fun _ _ h=>h)⟩
theorem Zgw (q:Pce->Bool) (l:List Pce) (j:Nat) (a:j<l.length):(l.take (j+1)).filter q=(l.take j).filter q++if q (l.getD j Zj)=true then[l.getD j Zj] else[]:=by
 rw[Zrg a Zj,List.filter_append]
 congr 1
 rw[List.filter_cons];split <;> rfl
def ZjC (R b:Nat):Stp:=⟨68,#[],#[.pointer (some ⟨R,0,none⟩),.pointer (some ⟨b,0,none⟩)]⟩
structure ZdZ (w:World) (R:Nat) (gone left:List Pce) (bx:List Nat) (vs vl:Value) (wr:World):Prop where
 len:bx.length=gone.length
 row:wr.ownsRow 0 153 1 vs (bx.map (ZjC R)).length (Za (bx.map (ZjC R)))
 far:∀ k,vs.ownBlock=some k->w.heap.size<=k
 lrow:wr.ownsRow 0 108 3 vl left.length (Q6 left)
 lfar:∀ k,vl.ownBlock=some k->w.heap.size<=k
 box:∀ j,j<bx.length->w.heap.size<=bx.getD j 0∧vl.ownBlock≠some (bx.getD j 0)∧Bk 108 wr (bx.getD j 0) (pcC (gone.getD j Zj))
 old:Below w.heap.size w wr
theorem ZdZ.start (w:World) (R:Nat):ZdZ w R [] [] [] (.slice none 0 0) (.slice none 0 0) w:=
 ⟨rfl,⟨rfl,.inl ⟨rfl,rfl⟩⟩,(fun k a=>by cases a),⟨rfl,.inl ⟨rfl,rfl⟩⟩,(fun k a=>by cases a),fun j b=>absurd b (Nat.not_lt_zero _),Below.refl _ _⟩
theorem ZdZ.below {e:List Nat} {d:Value} (h:ZdZ w R gone left e vs d wr) (b:Below wr.heap.size wr w'):ZdZ w R gone left e vs d w':=
 ⟨h.len,Qh h.row fun g c=>b.block g (World.ownsRow.lt h.row g c).2,h.far,Qh h.lrow fun g c=>b.block g (World.ownsRow.lt h.lrow g c).2,h.lfar,fun j a=>⟨(h.box j a).1,(h.box j a).2.1,(h.box j a).2.2.keep (b.block _ (h.box j a).2.2.lt)⟩,h.old.trans (b.mono h.old.size)⟩
theorem ZiZ {α:Type} (l:List α) (x z:α) (j:Nat) (a:j<l.length):(l++[x]).getD j z=l.getD j z:=by
 simp[List.getD,List.getElem?_append_left a]
theorem Zja {α:Type} (l:List α) (x z:α):(l++[x]).getD l.length z=x:=by
 simp[List.getD]
theorem ZdZ.step {f:List Nat} {u:Value} (h:ZdZ w R gone left f vs u wr) (c:Pce) (a:Below wr.heap.size wr W) (z:Bk 108 W wr.heap.size (pcC c))
 (G:W'.ownsRow 0 153 1 v' (f.map (ZjC R)++[ZjC R wr.heap.size]).length (Za (f.map (ZjC R)++[ZjC R wr.heap.size]))) (i:(W.alloc (.cells #[(ZjC R wr.heap.size).val] 153)).grownBy W' vs.ownBlock) (h3:v'.ownBlock=vs.ownBlock∨v'.ownBlock=some (W.heap.size+1)):
 ZdZ w R (gone++[c]) left (f++[wr.heap.size]) v' u W':=by
 have p:(W.alloc (.cells #[(ZjC R wr.heap.size).val] 153)).heap.size=W.heap.size+1:=by simp
 have I:=a.size;have F:=h.old.size;have J:W.heap.size+1<=W'.heap.size:=by have:=i.size;rw[p] at this;exact this
 have n:∀ k,vs.ownBlock=some k->∃ cs,Bk 153 wr k cs:=fun k d=>X0 h.row d
 have d:∀ k,k<W.heap.size->vs.ownBlock≠some k->W'.heap[k]?=W.heap[k]?:=fun k d D=>by
  rw[i.block k (by rw[p];omega) (fun e=>D e.symm)]
  exact Below.heap_alloc _ _ _ (by omega)
 have q:∀ {k:Nat} {cs:Array Value},Bk 108 W k cs->Bk 108 W' k cs:=fun {k cs} b=>b.keep (d k b.lt (fun e=>by
  obtain⟨x,l⟩:=n k e
  exact b.ne (l.keep (a.block _ l.lt)) (by decide) rfl))
 refine⟨by rw[length_append,length_append,h.len];rfl,?_,fun k m=>?_,?_,h.lfar,fun j v=>?_,?_⟩
 ·rw[List.map_append]
  exact G
 ·rcases h3 with h3 | h3
  ·exact h.far k (by rw[<-h3];exact m)
  ·rw[h3] at m
   have:=Option.some.inj m;omega
 ·refine Qh h.lrow fun g A=>?_
  obtain⟨cs,b⟩:=X0 h.lrow A
  rw[d g (by have:=b.lt;omega) (fun e=>by
   obtain⟨x,l⟩:=n g e
   exact b.ne l (by decide) rfl)]
  exact a.block g b.lt
 ·rw[length_append] at v
  by_cases e:j<f.length
  ·rw[ZiZ _ _ _ _ e,ZiZ _ _ _ _ (by rw[<-h.len];exact e)]
   obtain⟨H,E,t⟩:=h.box j e;exact⟨H,E,q (t.keep (a.block _ t.lt))⟩
  ·have C:j=f.length:=by simp at v;omega
   rw[C,Zja,h.len,Zja];refine⟨F,fun y=>?_,q z⟩
   have:=(World.ownsRow.lt h.lrow _ y).2;omega
 ·refine⟨i.os.trans (a.os.trans h.old.os),i.tape.trans (a.tape.trans h.old.tape),i.output.trans (a.output.trans h.old.output),by omega,fun k B=>?_⟩
  rw[d k (by omega) (fun e=>by have:=h.far k e;omega),a.block k (by omega)]
  exact h.old.block k B
theorem ZdZ.leave {p:List Nat} {i:Value} (h:ZdZ w R gone left p vs i wr) (c:Pce) (a:Below wr.heap.size wr W)
 (z:W'.ownsRow 0 108 3 v' (left++[c]).length (Q6 (left++[c]))) (b:(W.alloc (.cells (pcC c) 108)).grownBy W' i.ownBlock) (h3:v'.ownBlock=i.ownBlock∨v'.ownBlock=some (W.heap.size+1)):
 ZdZ w R gone (left++[c]) p vs v' W':=by
 have n:(W.alloc (.cells (pcC c) 108)).heap.size=W.heap.size+1:=by simp
 have C:=a.size;have E:=h.old.size;have D:W.heap.size+1<=W'.heap.size:=by have:=b.size;rw[n] at this;exact this
 have d:∀ k,k<W.heap.size->i.ownBlock≠some k->W'.heap[k]?=W.heap[k]?:=fun k d x=>by
  rw[b.block k (by rw[n];omega) (fun e=>x e.symm)]
  exact Below.heap_alloc _ _ _ (by omega)
 refine⟨h.len,?_,h.far,z,fun k m=>?_,fun j y=>?_,?_⟩
 ·refine Qh h.row fun g u=>?_
  obtain⟨cs,l⟩:=X0 h.row u
  rw[d g (by have:=l.lt;omega) (fun e=>by
   obtain⟨B,t⟩:=X0 h.lrow e
   exact l.ne t (by decide) rfl)]
  exact a.block g l.lt
 ·rcases h3 with h3 | h3
  ·exact h.lfar k (by rw[<-h3];exact m)
  ·rw[h3] at m
   have:=Option.some.inj m;omega
 ·obtain⟨A,q,f⟩:=h.box j y
  refine⟨A,fun e=>?_,(f.keep (a.block _ f.lt)).keep (d _ (by have:=f.lt;omega) q)⟩
  rcases h3 with h3 | h3
  ·exact q (by rw[<-h3];exact e)
  ·rw[h3] at e
   have:=Option.some.inj e;have:=f.lt;omega
 ·refine⟨b.os.trans (a.os.trans h.old.os),b.tape.trans (a.tape.trans h.old.tape),b.output.trans (a.output.trans h.old.output),by omega,fun k v=>?_⟩
  rw[d k (by omega) (fun e=>by have:=h.lfar k e;omega),a.block k (by omega)]
  exact h.old.block k v
theorem ZdZ.last {d:List Nat} {t:Value} {c:Stp} {l:List Stp} (h:ZdZ w R gone left d vs t wr)
 (_h1:W'.ownsRow 0 153 1 v' l.length (Za l)) (b:(wr.alloc (.cells #[c.val] 153)).grownBy W' vs.ownBlock) (h3:v'.ownBlock=vs.ownBlock∨v'.ownBlock=some (wr.heap.size+1)):
 Below w.heap.size w W'∧W'.ownsRow 0 108 3 t left.length (Q6 left)∧(∀ j,j<d.length->w.heap.size<=d.getD j 0∧Bk 108 W' (d.getD j 0) (pcC (gone.getD j Zj)))∧(∀ k,v'.ownBlock=some k->w.heap.size<=k):=by
 have q:(wr.alloc (.cells #[c.val] 153)).heap.size=wr.heap.size+1:=by simp
 have D:=h.old.size;have B:wr.heap.size+1<=W'.heap.size:=by have:=b.size;rw[q] at this;exact this
 have n:∀ k,vs.ownBlock=some k->∃ cs,Bk 153 wr k cs:=fun k a=>X0 h.row a
 have a:∀ k,k<wr.heap.size->vs.ownBlock≠some k->W'.heap[k]?=wr.heap[k]?:=fun k a y=>by
  rw[b.block k (by rw[q];omega) (fun e=>y e.symm)]
  exact Below.heap_alloc _ _ _ (by omega)
 refine⟨⟨b.os.trans h.old.os,b.tape.trans h.old.tape,b.output.trans h.old.output,by omega,fun k x=>?_⟩,?_,fun j z=>?_,fun k i=>?_⟩
 ·rw[a k (by omega) (fun e=>by have:=h.far k e;omega)]
  exact h.old.block k x
 ·refine Qh h.lrow fun g v=>?_
  obtain⟨cs,p⟩:=X0 h.lrow v
  exact a g p.lt (fun e=>by
   obtain⟨u,f⟩:=n g e
   exact p.ne f (by decide) rfl)
 ·obtain⟨A,C,m⟩:=h.box j z
  exact⟨A,m.keep (a _ m.lt (fun e=>by
   obtain⟨u,f⟩:=n _ e
   exact m.ne f (by decide) rfl))⟩
 ·rcases h3 with h3 | h3
  ·exact h.far k (by rw[<-h3];exact i)
  ·rw[h3] at i
   have:=Option.some.inj i;omega
theorem ZAv {l:List Stp} (h:w.ownsRow 0 153 1 v l.length (Za l)) (j:l.length≠0) (z:Stp):
 ∃ g cap cs,v=.slice (some ⟨g,0,none⟩) l.length cap∧Bk 153 w g cs∧v.ownBlock=some g∧∀ i,i<l.length->cs[i]?=some (l.getD i z).val:=by
 rcases h.2 with ⟨_,e⟩ | ⟨g,cap,cur,a,n,d,m,k,p,f⟩
 ·exact absurd e j
 ·refine⟨g,cap,cur,a,d,by rw[a];rfl,fun i c=>?_⟩
  have b:(Za l)[i]?=some (l.getD i z).val:=by
   unfold Za;simp[List.getD,c]
  rw[<-f,List.getElem?_take,if_pos (by omega),Array.getElem?_toList] at b
  exact b
theorem Zzi {l:List Pce} (h:w.ownsRow 0 108 3 v l.length (Q6 l)) (j:Nat) (f:j<l.length):
 ∃ g cap,v=.slice (some ⟨g,0,none⟩) l.length cap∧w.cell? ⟨g,j*3,none⟩=some (.int .i64 (l.getD j Zj).name)∧w.cell? ⟨g,j*3+1,none⟩=some (.int .i64 (l.getD j Zj).first)∧w.cell? ⟨g,j*3+2,none⟩=some (.int .i64 (l.getD j Zj).stop):=by
 rcases h.2 with ⟨_,t⟩ | ⟨g,cap,cur,c,p,d,n,m,q,e⟩
 ·omega
 ·have i:=Zas l
  have key:∀ k,k<3->w.cell? ⟨g,j*3+k,none⟩=(pcC (l.getD j Zj))[k]?:=fun k b=>by
   have a:=Zci l j k f b;rw[<-e,List.getElem?_take,if_pos (by omega),Array.getElem?_toList] at a
   rw[cell_of_row w g _ _ _ _ d];exact a
  exact⟨g,cap,c,key 0 (by decide),key 1 (by decide),key 2 (by decide)⟩
theorem Zoa {α β:Type} (f:α->β) (l:List α) (y z:β) (b:α) (i:Nat) (a:i<l.length):(l.map f++[y]).getD i z=f (l.getD i b):=by
 rw[ZiZ _ _ _ _ (by rw[length_map];exact a)]
 simp[List.getD,a]
theorem Zob {α β:Type} (f:α->β) (l:List α) (y z:β) (i:Nat) (a:i=l.length):(l.map f++[y]).getD i z=y:=by
 have h:=Zja (l.map f) y z;rw[length_map] at h;rw[a];exact h
def Ztn (p R:Nat) (bx:List Nat) (i:Nat):Stp:=(bx.map (ZjC R)++[(⟨64,#[ptr p],#[]⟩:Stp)]).getD i (⟨0,#[],#[]⟩:Stp)
theorem ZvP {cap:Nat} {a:List Nat} (w:World) (I:SD K0 w pd p s d N T) (x:∀ k,K0 k->k<w.heap.size) (P:K0 b) (O:K0 R) (Y:∀ j,j<a.length->K0 (a.getD j 0)∧Bk 108 w (a.getD j 0) (pcC (gone.getD j Zj))) (A:a.length=gone.length)
 (G:Bk 28 w R #[ptr p]) (cs:Array Value) (C:Bk 153 w b cs) (Q:∀ i,i<a.length+1->cs[i]?=some (Ztn p R a i).val) (H:∀ q ∈ gone,I64 q.name) (aa:gone.length<=100000) (hN:N<=700000) (hT:T<=900000000):
 Calls prog 62 #[.slice (some ⟨b,0,none⟩) (a.length+1) cap] w fun e w'=>Ztk K0 K0 pd p (Qv ((gone.map fun q=>Xm (fun d=>Qj d q.name))++[Qq]) (s,d)) (N+2*(a.length+1)) T (fun _ _=>True) w e w':=by
 obtain⟨gs,h⟩:∃ gs,gs=(gone.map fun q:Pce=>Xm (fun d=>Qj d q.name))++[Qq]:=⟨_,rfl⟩
 have J:gs.length=a.length+1:=by rw[h,length_append,length_map,A];rfl
 rw[<-h,<-J]
 have z:∀ i,i<a.length->gs.getD i ZdY=Xm (fun d=>Qj d (gone.getD i Zj).name)∧Ztn p R a i=ZjC R (a.getD i 0):=fun i f=>by
  have l:i<gone.length:=by omega
  refine⟨?_,?_⟩
  ·rw[h]
   exact Zoa (fun q:Pce=>Xm (fun d=>Qj d q.name)) gone Qq ZdY Zj i l
  ·unfold Ztn
   exact Zoa (ZjC R) a _ _ 0 i f
 have n:gs.getD a.length ZdY=Qq∧Ztn p R a a.length=⟨64,#[ptr p],#[]⟩:=by
  refine⟨?_,?_⟩
  ·rw[h]
   exact Zob (fun q:Pce=>Xm (fun d=>Qj d q.name)) gone Qq ZdY a.length A
  ·unfold Ztn
   exact Zob (ZjC R) a _ _ a.length rfl
 have u:=ZvO (K0:=K0) (K2:=K0) (pd:=pd) (p:=p) b cap (Ztn p R a) gs (s,d) N T 2 0 w (fun _ _ _=>True) (by omega) P cs C (fun i f=>Q i (by omega)) x I trivial (fun i f Z W B g L h4 t _=>?_) (fun i f args W=>?_)
 ·rw[Nat.zero_mul,Nat.add_zero] at u
  exact u
 ·rw[Nat.zero_mul,Nat.add_zero] at t
  have y:∀ k,K0 k->W.heap[k]?=w.heap[k]?:=fun k v=>L.block k (x k v) (fun F=>F v)
  by_cases e:i<a.length
  ·obtain⟨X,S⟩:=z i e
   rw[X,S];obtain⟨D,V⟩:=Y i e;have M:=((V.keep (y _ D)).cell 0 rfl).1;have K:=((G.keep (y _ O)).cell 0 rfl).1
   have U:(gone.getD i Zj) ∈ gone:=by
    have l:i<gone.length:=by omega
    have:gone.getD i Zj=gone[i]:=by simp[List.getD,l]
    rw[this];exact getElem_mem l
   refine(Zqg (gone.getD i Zj).name W t g K M (H _ U) (by omega) (by omega)).mono ?_
   intro c E m;exact m.seqD g B zL (by omega) (fun _=>trivial)
  ·have c:i=a.length:=by omega
   subst c;rw[n.1,n.2];refine(ZcM W t g).mono ?_;intro c E m;exact m.seqD g B zL (by omega) (fun _=>trivial)
 ·by_cases e:i<a.length
  ·rw[(z i e).2]
   exact(enters_of func68 (by kernel_rfl) rfl) args W
  ·have c:i=a.length:=by omega
   subst c;rw[n.2];exact(enters_of func64 (by kernel_rfl) rfl) args W
end Go.Proofs.YtnahjngbneicaaaGreatDoor
