import Derived.Test.YtnahjngbneicaaaGreatDoorPack13
import Derived.Test.YtnahjngbneicaaaGreatDoorBlockTakeC
import Derived.Test.YtnahjngbneicaaaGreatDoorPack11
namespace Go.Proofs.YtnahjngbneicaaaGreatDoor
open _root_.Go.Proofs.Tryz
open List (length_set)
set_option maxRecDepth 100000
open Go.RowKit
structure DIB (w wr:World) (b:List UInt8) (first count g B:Nat) (L:List Rec) (vl:Value) (m:List UInt8) (t:Bool):Prop where
 row:Zmj wr g (L++List.replicate (count-L.length) Zaj)
 map:ZiS wr B L.length (Zav L)
 rd:Rd wr vl m
 le:m.length<=b.length
 read:Zsv b first count L m t
 below:Below w.heap.size w wr
theorem ZoK (L:List Rec):∀ u ∈ Zan L,∃ n,u=Value.int .i64 n:=by
 induction L with
 | nil=>intro u a;simp[Zan] at a
 | cons r t b=>
  intro u a;rw[Zan] at a;rcases List.mem_append.1 a with h | h
  ·simp[Zeo] at h
   rcases h with rfl | rfl | rfl | rfl | rfl | rfl | rfl <;> exact⟨_,rfl⟩
  ·exact b u h
theorem Rd.row {w w':World} {v:Value} {m:List UInt8} (h:Rd w v m) {g:Nat} {L:List Rec} (q:Zmj w g L) (x:But g g w w'):Rd w' v m:=by
 obtain⟨y,t,i,u,l,d,f⟩:=h;refine⟨y,t,i,u,l,d,?_⟩;rcases f with f | ⟨c,off,h5,h6⟩
 ·exact .inl f
 ·refine .inr ⟨c,off,h5,fun j p=>?_⟩
  have b:=h6 j p;by_cases e:c=g
  ·rw[e,(q.cell _).1] at b
   obtain⟨n,d⟩:=ZoK L _ (List.mem_of_getElem? b)
   cases d
  ·have k:c<w.heap.size:=World.block_lt_of_cell? w ⟨c,off+j,none⟩ b
   rw[World.cell?_of_block (a:=⟨c,off+j,none⟩) (x.block c k e e)];exact b
theorem ZiS.row {w w':World} {b n:Nat} {f:Int->Int} (h:ZiS w b n f) {g:Nat} {L:List Rec} (c:Zmj w g L) (d:But g g w w'):ZiS w' b n f:=by
 have a:b≠g:=fun e=>h.apart c e.symm
 exact h.keep (d.block b h.lt a a)
theorem ZBe (L:List Rec) (a:Nat) (b:L.length<a) (r:Rec):(L++List.replicate (a-L.length) Zaj).set L.length r=(L++[r])++List.replicate (a-(L++[r]).length) Zaj:=by
 have e:a-L.length=(a-(L++[r]).length)+1:=by simp;omega
 rw[e,List.replicate_succ,List.set_append_right _ _ zL,Nat.sub_self];simp
set_option maxHeartbeats 4000000 in
theorem ZjK (vb:Value) (b:List UInt8) (w:World) (hr:Rd w vb b) (bH:b.length<=1000000):
 Calls prog 120 #[vb] w fun e w'=>ZdR w b e w':=by
 have HR:=ZZ hr
 obtain⟨va,vc,rfl⟩:∃ va vc,vb=.slice va b.length vc:=by
  obtain⟨va,vc,rfl,_⟩:=hr;exact⟨va,vc,rfl⟩
 clear hr;have bc:=ZZ (fun q n C=>Zsj (l:=q) (b:=b) n C)
 obtain⟨i,S⟩:∃ i,i=behind (Zab b).2 b:=⟨_,rfl⟩;obtain⟨A,Y⟩:∃ A,A=behind (Zab i).2 i:=⟨_,rfl⟩
 have az:Hid (∀ W v,Rd W v b->Calls prog 167 #[v,.func (.func 168) #[] #[]] W fun e w'=>∃ v',e=.returned (.tuple #[.int .i64 ((Zab b).1:Nat),v',.bool (decide ((Zab b).2≠0))])∧Rd w' v' i∧Below W.heap.size W w'):=ZZ (fun W v h=>by
  have:=Zhh ((Zab b).1:Nat) (Zab b).2 v b W h (Zcj b) (ZfY v b W h);rw[<-S] at this
  exact this)
 have ag:Hid (∀ W v,Rd W v i->Calls prog 167 #[v,.func (.func 168) #[] #[]] W fun e w'=>∃ v',e=.returned (.tuple #[.int .i64 ((Zab i).1:Nat),v',.bool (decide ((Zab i).2≠0))])∧Rd w' v' A∧Below W.heap.size W w'):=ZZ (fun W v h=>by
  have:=Zhh ((Zab i).1:Nat) (Zab i).2 v i W h (Zcj i) (ZfY v i W h);rw[<-Y] at this
  exact this)
 have l1:=ZbT (Zab b).2 b;have l2:=ZbT (Zab i).2 i;rw[<-S] at l1;rw[<-Y] at l2
 have c1:(Zab b).1<4611686018427387904:=by
  rcases Zay b with h | h
  ·rw[h];decide
  ·exact h.1
 have HW:Hid (∀ q,ZbE q->ZdF q=b->(Zab i).2≠0∧q.length=(Zab i).1∧A=Zbs [] q∧(q.headD Zaj).idx=((Zab b).1:Nat)):=ZZ (fun q n C=>by
  obtain⟨g1,g2,g3,g4,g5⟩:=bc.o q n C;rw[Zbh g2] at S;rw[<-S] at g3 g4 g5;rw[Zbh g4] at Y;refine⟨g4,g3.symm,?_,g1.symm⟩;rw[<-List.drop_drop,<-S,<-Y] at g5
  exact g5)
 have HS:Hid ((Zab i).2≠0->b=Lib.uvarint (Zab b).1++(Lib.uvarint (Zab i).1++A)):=ZZ (fun h=>by
  have h1:(Zab b).2≠0:=ZfC (l:=b) (by rw[<-S];exact Zvy h)
  have M:=ZlL h1;have Q:=ZlL h;rw[<-S] at M;rw[<-Y] at Q
  exact M.trans (congrArg (Lib.uvarint (Zab b).1++·) Q))
 have bt:Hid (∀ W v l,RdR W v l->Calls prog 48 #[v] W fun e w'=>e=.returned (.bool (decide (ZbE l)))∧Below W.heap.size W w'):=ZZ (fun W v l h=>ZeP v l W h)
 clear S Y bc;generalize decide ((Zab b).2≠0)=T0 at *;generalize (Zab b).1=first at *;generalize (Zab i).1=g at *;obtain⟨T1,U⟩:∃ T1,T1=decide ((Zab i).2≠0):=⟨_,rfl⟩;rw[<-U] at ag;by_cases af:(Zab i).2=0∨256<g
 ·have B:Hid (∀ q,ZbE q->ZdF q≠b):=ZZ (fun q n C=>by
   obtain⟨g1,g2,_⟩:=HW.o q n C;have:=n.2.1
   omega)
  by_cases K:(Zab i).2=0
  ·have n:T1=false:=by rw[U];exact decide_eq_false (fun h=>h K)
   subst n;clear af HW HS K U
   go_enter func120,ntmps120
   go_wp2_with fail
   refine(az.o _ _ HR.o).mono ?_;rintro e W1 ⟨v1,rfl,y,J⟩;obtain⟨a1,n1,M,-⟩:=id y;subst M;have aa:=ZZ y;have G:=ZZ J;clear y J
   go_wp2_with fail
   refine(ag.o _ _ aa.o).mono ?_;rintro e f ⟨v2,rfl,E,I⟩;obtain⟨a2,n2,Q,-⟩:=id E;subst Q;have N:=ZZ (G.o.trans (I.mono G.o.size));clear E I;go_wp2;go_ret2;exact ZdR.none B.o N.o
  ·have n:T1=true:=by rw[U];exact decide_eq_true K
   subst n;have bz:256<(g:Int):=by omega
   clear af HW HS K U
   go_enter func120,ntmps120
   go_wp2_with fail
   refine(az.o _ _ HR.o).mono ?_;rintro e W1 ⟨v1,rfl,y,J⟩;obtain⟨a1,n1,M,-⟩:=id y;subst M;have aa:=ZZ y;have G:=ZZ J;clear y J
   go_wp2_with fail
   refine(ag.o _ _ aa.o).mono ?_;rintro e f ⟨v2,rfl,E,I⟩;obtain⟨a2,n2,Q,-⟩:=id E;subst Q;have N:=ZZ (G.o.trans (I.mono G.o.size));clear E I;go_wp2;go_ret2;exact ZdR.none B.o N.o
 have K:(Zab i).2≠0:=fun h=>af (.inl h)
 have bm:g<=256:=Nat.le_of_not_lt (fun h=>af (.inr h))
 have n:T1=true:=by rw[U];exact decide_eq_true K
 subst n
 have a6:Hid (Zsv b first g [] A true):=ZZ ⟨trivial,(fun r h=>by simp at h),(fun _ _=>HS.o K),(fun h=>by cases h),fun q n C=>by
  obtain⟨g1,g2,g3,g4⟩:=HW.o q n C
  exact⟨g2,by simp,by simpa using g3,rfl,g4⟩⟩
 have bG:¬ 256<(g:Int):=by omega
 have a5:=ZoJ;have bx:∀ W:World,(Instr.makeSlice 29 (.int .i64 (g:Int)) (.int .i64 (g:Int))).run prog W=.ok (.slice (some ⟨W.heap.size,0,none⟩) g g) (W.alloc (.cells (Zan (List.replicate g Zaj)).toArray 62)):=fun W=>a5 W g (by omega)
 have bA:=@run_makeMap prog;have bv:A.length<=b.length:=by omega
 clear af HW HS K U a5 l1 l2;obtain⟨ZR,aM⟩:∃ ZR,ZR=(Zan (List.replicate g Zaj)).toArray:=⟨_,rfl⟩;rw[<-aM] at bx;have bn:=ZZ aM;clear aM
 go_enter func120,ntmps120
 go_wp2_with fail
 refine(az.o _ _ HR.o).mono ?_;rintro e W1 ⟨v1,rfl,y,J⟩;obtain⟨a1,n1,M,-⟩:=id y;subst M;have aa:=ZZ y;have G:=ZZ J;clear y J
 go_wp2_with fail
 refine(ag.o _ _ aa.o).mono ?_;rintro e f ⟨v2,rfl,E,I⟩;obtain⟨a2,n2,Q,-⟩:=id E;subst Q;have bf:=ZZ E;have N:=ZZ (G.o.trans (I.mono G.o.size));clear E I aa G az ag
 have bh:Hid (DIB w ((f.alloc (.cells ZR 62)).alloc (.map #[] 0)) b first g f.heap.size (f.heap.size+1) [] (.slice a2 A.length n2) A true):=ZZ (by
  have u:Below f.heap.size f ((f.alloc (.cells ZR 62)).alloc (.map #[] 0)):=((Below.refl _ _).alloc zL _).alloc (by simp) _
  have hs:(f.alloc (.cells ZR 62)).heap.size=f.heap.size+1:=by simp
  refine⟨?_,?_,bf.o.below u zL,bv,a6.o,N.o.trans (u.mono N.o.size)⟩
  ·rw[List.nil_append,List.length_nil,Nat.sub_zero]
   unfold Zmj;rw[<-bn.o];exact(Below.heap_alloc _ _ _ (by simp)).trans (heap_alloc_new f _)
  ·have h:=ZiS.made (f.alloc (.cells ZR 62))
   rw[hs] at h
   exact h)
 have B:=ZZ N.o.size;clear bf N a6;go_wp2
 go_loopw[5,8,35] (fun vl vt vi wr=>∃ (t:Bool) (L:List Rec) (m:List UInt8),vt=.bool t∧vi=.int .i64 (L.length:Int)∧L.length<=g∧Hid (DIB w wr b first g f.heap.size (f.heap.size+1) L vl m t)) (fun _ _ vi _=>g-(intOf vi).toNat)
 case atStart=>exact⟨true,[],A,rfl,rfl,Nat.zero_le _,bh⟩
 case round=>
  clear bh;obtain⟨t,L,m,rfl,rfl,hk,p⟩:=hrel;by_cases aQ:L.length<g
  case neg=>
   obtain rfl:g=L.length:=by omega
   have bE:¬ (L.length:Int)<(L.length:Int):=by omega
   have aE:=p.o.row;rw[Nat.sub_self,List.replicate_zero,List.append_nil] at aE;have bd:=ZZ (aE.rd p.o.read.ok (by unfold maxLen;omega))
   have ar:=ZZ (bt.o wr _ L bd.o);have ak:=ZZ p.o.read.done.1;have T:=ZZ p.o.read.done.2;have ab:=ZZ p.o.below
   obtain⟨H,F,aP⟩:∃ H F,u5=.slice H m.length F:=by
    obtain⟨H,F,h,-⟩:=p.o.rd;exact⟨H,F,h⟩
   subst aP;clear aE p
   cases t with
   | false=>
    have ah:=ZZ (T.o (fun h=>by cases h.1))
    clear ak T;go_wp2;go_ret2;exact ZdR.none ah.o ab.o
   | true=>
    by_cases hm:m=[]
    case neg=>
     have ah:=ZZ (T.o (fun h=>hm h.2.1))
     have bu:0<m.length:=Nat.pos_of_ne_zero (fun e=>hm (List.eq_nil_of_length_eq_zero e))
     clear ak T hm;generalize m.length=ln at *;have bC:decide (0<ln)=true:=decide_eq_true bu;go_wp2;go_ret2;exact ZdR.none ah.o ab.o
    subst hm;by_cases n:ZbE L
    ·have HE:=ZZ (ak.o ⟨rfl,rfl,n⟩)
     rw[decide_eq_true n] at ar;have bo:=ZZ n;clear ak T n
     go_wp2_with fail
     refine ar.o.mono ?_;rintro e W3 ⟨rfl,u⟩;have V:=ZZ (ab.o.trans (u.mono ab.o.size));have ap:=ZZ (bd.o.below u zL);clear u;go_wp2;go_ret2;exact⟨_,L,0,rfl,ap.o,.inl ⟨rfl,bo.o,HE.o⟩,V.o⟩
    ·have ah:=ZZ (T.o (fun h=>n h.2.2))
     rw[decide_eq_false n] at ar;clear ak T n
     go_wp2_with fail
     refine ar.o.mono ?_;rintro e W3 ⟨rfl,u⟩;have V:=ZZ (ab.o.trans (u.mono ab.o.size));clear u;go_wp2;go_ret2;exact ZdR.none ah.o V.o
  have bD:(L.length:Int)<(g:Int):=by omega
  obtain⟨R,d,m',t',hT⟩:∃ R d m' t',Zdl m=(R,d,m',t'):=⟨_,_,_,_,rfl⟩;have ai:=ZZ (ZmE _ m wr p.o.rd (by have:=p.o.le;omega))
  have bb:=ZZ (p.o.read.step c1 aQ bm hT);have aS:=ZBd m;have aT:=ZxU m;rw[hT] at ai aS aT;have aD:=ZZ aT;have aW:Hid (m'.length<=b.length):=ZZ (Nat.le_trans aS p.o.le)
  obtain⟨H,F,aP⟩:∃ H F,u5=.slice H m.length F:=by
   obtain⟨H,F,h,-⟩:=p.o.rd;exact⟨H,F,h⟩
  subst aP;clear hT aS aT;unfold ZuH at ai
  dsimp only at ai
  have aZ:(L++List.replicate (g-L.length) Zaj).length=g:=by simp;omega
  have bi:=ZZ aZ;clear aZ
  go_wp2_with fail
  refine ai.o.mono ?_;rintro e W3 ⟨v3,rfl,aC,u⟩;obtain⟨a3,n3,e3,-⟩:=id aC;subst e3;have aj:=ZZ (p.o.row.below u zL);have a4:=ZZ (p.o.map.below u zL);have ap:=ZZ aC;have V:=ZZ (p.o.below.trans (u.mono p.o.below.size));clear aC u ai p
  have O:∀ j,j<7->∃ x,W3.cell? ⟨f.heap.size,L.length*7+j,none⟩=some x∧W3.frozen? ⟨f.heap.size,L.length*7+j,none⟩=false:=fun j hj=>by
   have h:=aj.o.cell (L.length*7+j);obtain⟨x,hx⟩:∃ x,(Zan (L++List.replicate (g-L.length) Zaj))[L.length*7+j]?=some x:=⟨_,List.getElem?_eq_getElem (by rw[Zbo,bi.o];omega)⟩
   exact⟨x,h.1.trans hx,h.2⟩
  obtain⟨x0,k0,f0⟩:=O 0 (by decide)
  obtain⟨x1,k1,f1⟩:=O 1 (by decide)
  obtain⟨x2,k2,f2⟩:=O 2 (by decide)
  obtain⟨x3,k3,f3⟩:=O 3 (by decide)
  obtain⟨x4,k4,f4⟩:=O 4 (by decide)
  obtain⟨x5,k5,f5⟩:=O 5 (by decide)
  obtain⟨x6,k6,f6⟩:=O 6 (by decide)
  rw[Nat.add_zero] at k0 f0;clear O
  go_upto_region 12 with fail
  obtain⟨X,am⟩:∃ X,X=((((((W3.setCell ⟨f.heap.size,L.length*7,none⟩ (.int .i64 R.idx)).setCell ⟨f.heap.size,L.length*7+1,none⟩ (.int .i64 R.proc)).setCell ⟨f.heap.size,L.length*7+2,none⟩ (.int .i64 R.seq)).setCell ⟨f.heap.size,L.length*7+3,none⟩ (.int .i64 R.op.code)).setCell ⟨f.heap.size,L.length*7+4,none⟩ (.int .i64 R.op.a)).setCell ⟨f.heap.size,L.length*7+5,none⟩ (.int .i64 R.op.b)).setCell ⟨f.heap.size,L.length*7+6,none⟩ (.int .i64 R.resp):=⟨_,rfl⟩;rw[<-am];have ax:L.length<(L++List.replicate (g-L.length) Zaj).length:=by rw[bi.o];exact aQ
  have P:=ZZ ax;have aL:=aj.o.seven ax R.idx R.proc R.seq R.op.code R.op.a R.op.b R.resp;rw[<-am] at aL
  have aw:Hid (But f.heap.size f.heap.size W3 X):=ZZ (by
   rw[am]
   exact(((((((But.refl _ _ _).set _ _ (.inl rfl) _).set _ _ (.inl rfl) _).set _ _ (.inl rfl) _).set _ _ (.inl rfl) _).set _ _ (.inl rfl) _).set _ _ (.inl rfl) _).set _ _ (.inl rfl) _)
  have a0:=ZZ (ap.o.row aj.o aw.o);have bj:=ZZ (a4.o.row aj.o aw.o);have aJ:=ZZ (ZcQ V.o aw.o V.o.size B.o B.o);have ac:=ZZ aL;obtain⟨⟨bJ,bq⟩,bk⟩:(∃ x,X.cell? ⟨f.heap.size,L.length*7,none⟩=some x)∧X.frozen? ⟨f.heap.size,L.length*7,none⟩=false:=⟨⟨_,(ac.o.at (k:=L.length) (by rw[length_set];exact ax)).1⟩,(ac.o.cell _).2⟩
  clear am aL ax aj ap a4 V aw k0 k1 k2 k3 k4 k5 k6 f0 f1 f2 f3 f4 f5 f6
  go_upto_region 13 with fail
  obtain⟨W5,an⟩:∃ W5,W5=X.setCell ⟨f.heap.size,L.length*7,none⟩ (.int .i64 ((first:Int)+(L.length:Int))):=⟨_,rfl⟩;rw[<-an];have ba:L.length<((L++List.replicate (g-L.length) Zaj).set L.length ⟨R.idx,R.proc,R.seq,⟨R.op.code,R.op.a,R.op.b⟩,R.resp⟩).length:=by rw[length_set];exact P.o
  have aI:=ac.o.set ba 0 (by decide) (.int .i64 ((first:Int)+(L.length:Int))) ⟨(first:Int)+L.length,R.proc,R.seq,⟨R.op.code,R.op.a,R.op.b⟩,R.resp⟩ (by rw[Zdq P.o];rfl)
  rw[Nat.add_zero,<-an,List.set_set] at aI
  have ao:Hid (But f.heap.size f.heap.size X W5):=ZZ (by
   rw[an]
   exact(But.refl _ _ _).set _ _ (.inl rfl) _)
  have aV:=ZZ (a0.o.row ac.o ao.o);have aK:=ZZ (bj.o.row ac.o ao.o);have aR:=ZZ (ZcQ aJ.o ao.o aJ.o.size B.o B.o);have ad:=ZZ aI;have ay:=ad.o.at (k:=L.length) (by rw[length_set];exact P.o)
  rw[Zdq P.o] at ay;have k1:=ay.2.1;have k2:=ay.2.2.1;have f2:=(ad.o.cell (L.length*7+2)).2;have aY:=aK.o.look aD.o.1
  dsimp only at k1 k2
  clear an aI ba ay ac a0 bj aJ ao bq bk;obtain⟨ls,aF⟩:∃ ls,ls=Zav L R.proc:=⟨_,rfl⟩;rw[<-aF] at aY;have a7:=ZZ aF;clear aF
  go_upto_region 14 with fail
  obtain⟨z,aG⟩:∃ z,z=bw (ls+d):=⟨_,rfl⟩;rw[<-aG]
  have aO:IntKind.i64.wrap (Zav L R.proc+d)=z:=by
   rw[aG,<-a7.o];unfold bw;exact IntKind.wrap_i64 _
  have bg:Hid ((⟨(first:Int)+L.length,R.proc,z,⟨R.op.code,R.op.a,R.op.b⟩,R.resp⟩:Rec)=Zgj first L R d):=ZZ (by
   unfold Zgj
   rw[aO])
  have br:Hid (I64 z):=ZZ (by rw[<-aO];exact ZlM _)
  clear aO aG a7;obtain⟨Z,au⟩:∃ Z,Z=W5.setCell ⟨f.heap.size,L.length*7+2,none⟩ (.int .i64 z):=⟨_,rfl⟩;rw[<-au];have be:L.length<((L++List.replicate (g-L.length) Zaj).set L.length ⟨(first:Int)+L.length,R.proc,R.seq,⟨R.op.code,R.op.a,R.op.b⟩,R.resp⟩).length:=by rw[length_set];exact P.o
  have ae:=ad.o.set be 2 (by decide) (.int .i64 z) ⟨(first:Int)+L.length,R.proc,z,⟨R.op.code,R.op.a,R.op.b⟩,R.resp⟩ (by rw[Zdq P.o];rfl)
  rw[<-au,List.set_set] at ae
  have aq:Hid (But f.heap.size f.heap.size W5 Z):=ZZ (by
   rw[au]
   exact(But.refl _ _ _).set _ _ (.inl rfl) _)
  have a9:=ZZ (aV.o.row ad.o aq.o);have aA:=ZZ (aK.o.row ad.o aq.o);have aU:=ZZ (ZcQ aR.o aq.o aR.o.size B.o B.o);have al:=ae.at (k:=L.length) (by rw[length_set];exact P.o)
  rw[Zdq P.o] at al;have j1:=al.2.1;have j2:=al.2.2.1
  dsimp only at j1 j2
  rw[bg.o,ZBe L g aQ] at ae;have aN:=ZZ ae;clear au ae be al ad aV aK aR aq k1 k2 f2 aY;have aX:ZiS Z.drew (f.heap.size+1) L.length (Zav L):=aA.o.keep rfl;obtain⟨W7,bF,aH,av⟩:=aX.put aD.o.1 br.o (by omega)
  have a8:ZBu (Zav L) R.proc z=Zav (L++[Zgj first L R d]):=by
   rw[<-bg.o];exact ZlA L ⟨(first:Int)+L.length,R.proc,z,⟨R.op.code,R.op.a,R.op.b⟩,R.resp⟩
  rw[a8] at aH;have aB:(L++[Zgj first L R d]).length=L.length+1:=by simp
  have bp:Hid (DIB w W7 b first g f.heap.size (f.heap.size+1) (L++[Zgj first L R d]) (.slice a3 m'.length n3) m' t'):=ZZ (by
   have bB:some f.heap.size≠some (f.heap.size+1):=by simp
   have bl:∀ c,c<Z.heap.size->c≠f.heap.size+1->W7.heap[c]?=Z.heap[c]?:=fun c hc hn=>av.block c hc (fun e=>hn (by simpa using e))
   refine⟨(bl _ aN.o.lt (by omega)).trans aN.o,by rw[aB];exact aH,?_,aW.o,bb.o,(aU.o.drew).grown av aU.o.size (fun j hj=>by cases hj;have:=B.o;omega)⟩
   obtain⟨va,vc,h1,h2,h3,hn,h4⟩:=a9.o;refine⟨va,vc,h1,h2,h3,hn,?_⟩;rcases h4 with h4 | ⟨c,off,h5,h6⟩
   ·exact .inl h4
   ·refine .inr ⟨c,off,h5,fun j hj=>?_⟩
    have hc:=h6 j hj
    exact av.cell hc (fun e=>by
     have e':c=f.heap.size+1:=by simpa using e
     obtain⟨D,⟨es,bI,C,_⟩,_⟩:=aA.o;rw[e'] at hc
     simp[World.cell?,C] at hc))
  clear aX aH av a8 aA aN a9 aU bb aD aW
  go_region
  all_goals
   go_wp2;go_roundw
   case rel=>exact⟨t',L++[Zgj first L R d],m',rfl,by rw[aB];go_num,by rw[aB];omega,bp⟩
   case measure=>simp[intOf];omega
end Go.Proofs.YtnahjngbneicaaaGreatDoor
