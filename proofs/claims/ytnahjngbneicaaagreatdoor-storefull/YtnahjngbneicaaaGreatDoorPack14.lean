import Derived.Test.YtnahjngbneicaaaGreatDoorPack13
namespace Go.Proofs.YtnahjngbneicaaaGreatDoor
set_option linter.unusedSimpArgs false
open _root_.Go.Proofs.Tryz
open List (getElem_mem length_append length_map length_set map_cons map_nil take_length)
set_option maxHeartbeats 4000000
set_option maxRecDepth 100000
open Go.RowKit
variable {W w w' wr:World} {bv pv rv v:Value} {B N R Rb T b f i n o p pd:Nat} {H:List UInt8} {d:Dk} {l:List Int} {s:Sto} {t:TypeId} {xs:List Value} {cs:Array Value} {g:Lgb} {F I K K0 K2:Nat->Prop} {bs:List (Q0 × Value × Value)} {kind:Int}
abbrev zem:=@List.mem_iff_getElem
abbrev ze1:=@Go.Exit.noGoto_ret
abbrev zg0:=@Nat.mul_succ
structure DIB (w wr:World) (b:List UInt8) (first count g B:Nat) (L:List Rec) (vl:Value) (m:List UInt8) (t:Bool):Prop where
 row:ZjO wr g (L++List.replicate (count-L.length) Qj)
 map:Zgd wr B L.length (Q8 L)
 rd:Rd wr vl m
 le:m.length<=b.length
 read:Zqr b first count L m t
 below:Below w.heap.size w wr
theorem Zmy (L:List Rec):∀ u ∈ Qx L,∃ n,u=Value.int .i64 n:=by
 induction L with
 | nil=>intro u a;simp[Qx] at a
 | cons r t b=>
  intro u a;rw[Qx] at a;rcases za2.1 a with h | h
  ·simp[Jg] at h
   rcases h with rfl | rfl | rfl | rfl | rfl | rfl | rfl <;> exact⟨_,rfl⟩
  ·exact b u h
theorem Rd.row {m:List UInt8} (h:Rd w v m) {g:Nat} {L:List Rec} (p:ZjO w g L) (q:But g g w w'):Rd w' v m:=by
 obtain⟨u,z,t,B,y,d,f⟩:=h;refine⟨u,z,t,B,y,d,?_⟩;rcases f with f | ⟨c,i,l,x⟩
 ·exact .inl f
 ·refine .inr ⟨c,i,l,fun j k=>?_⟩
  have b:=x j k;by_cases e:c=g
  ·rw[e,(p.cell _).1] at b
   obtain⟨n,d⟩:=Zmy L _ (List.mem_of_getElem? b)
   cases d
  ·have A:c<w.heap.size:=za1 w ⟨c,i+j,none⟩ b
   rw[zb4 (a:=⟨c,i+j,none⟩) (q.block c A e e)];exact b
theorem Zgd.row {f:Int->Int} (h:Zgd w b n f) {g:Nat} {L:List Rec} (c:ZjO w g L) (d:But g g w w'):Zgd w' b n f:=by
 have a:b≠g:=fun e=>h.apart c e.symm
 exact h.keep (d.block b h.lt a a)
theorem ZzK (L:List Rec) (a:Nat) (b:L.length<a) (r:Rec):(L++List.replicate (a-L.length) Qj).set L.length r=(L++[r])++List.replicate (a-(L++[r]).length) Qj:=by
 have e:a-L.length=(a-(L++[r]).length)+1:=by simp;omega
 rw[e,zge,ze4 _ _ zL,zf8];simp
theorem Zha (vb:Value) (b:List UInt8) (w:World) (hr:Rd w vb b) (bI:b.length<=1000000):
 Calls prog 120 #[vb] w fun e w'=>ZaQ w b e w':=by
 have HR:=ZZ hr
 obtain⟨va,vc,rfl⟩:∃ va vc,vb=.slice va b.length vc:=by
  obtain⟨va,vc,rfl,_⟩:=hr;exact⟨va,vc,rfl⟩
 clear hr;have bj:=ZZ (fun q n F=>Zqf (l:=q) (b:=b) n F)
 obtain⟨i,I⟩:=zg7 (behind (Qb b).2 b);obtain⟨z,ac⟩:=zg7 (behind (Qb i).2 i)
 have al:Hid (∀ W v,Rd W v b->Calls prog 167 #[v,.func (.func 168) #[] #[]] W fun e w'=>∃ v',e=.returned (.tuple #[.int .i64 ((Qb b).1:Nat),v',.bool (decide ((Qb b).2≠0))])∧Rd w' v' i∧Below W.heap.size W w'):=ZZ (fun W v h=>by
  have:=Zeg ((Qb b).1:Nat) (Qb b).2 v b W h (Jy b) (ZcH v b W h);rw[<-I] at this
  exact this)
 have ag:Hid (∀ W v,Rd W v i->Calls prog 167 #[v,.func (.func 168) #[] #[]] W fun e w'=>∃ v',e=.returned (.tuple #[.int .i64 ((Qb i).1:Nat),v',.bool (decide ((Qb i).2≠0))])∧Rd w' v' z∧Below W.heap.size W w'):=ZZ (fun W v h=>by
  have:=Zeg ((Qb i).1:Nat) (Qb i).2 v i W h (Jy i) (ZcH v i W h);rw[<-ac] at this
  exact this)
 have l1:=Jj (Qb b).2 b;have l2:=Jj (Qb i).2 i;rw[<-I] at l1;rw[<-ac] at l2
 have c1:(Qb b).1<4611686018427387904:=by
  rcases Xh b with h | h
  ·rw[h];decide
  ·exact h.1
 have HW:Hid (∀ q,Yg q->Yc q=b->(Qb i).2≠0∧q.length=(Qb i).1∧z=Yl [] q∧(q.headD Qj).idx=((Qb b).1:Nat)):=ZZ (fun q n F=>by
  obtain⟨g1,g2,g3,g4,g5⟩:=bj.o q n F;rw[Yx g2] at I;rw[<-I] at g3 g4 g5;rw[Yx g4] at ac;refine⟨g4,g3.symm,?_,g1.symm⟩;rw[<-zdz,<-I,<-ac] at g5
  exact g5)
 have HS:Hid ((Qb i).2≠0->b=Lib.uvarint (Qb b).1++(Lib.uvarint (Qb i).1++z)):=ZZ (fun h=>by
  have h1:(Qb b).2≠0:=Zcm (l:=b) (by rw[<-I];exact ZtA h)
  have Q:=Zjh h1;have O:=Zjh h;rw[<-I] at Q;rw[<-ac] at O
  exact Q.trans (congrArg (Lib.uvarint (Qb b).1++·) O))
 have bz:Hid (∀ W v l,RdR W v l->Calls prog 48 #[v] W fun e w'=>e=.returned (.bool (decide (Yg l)))∧Below W.heap.size W w'):=ZZ (fun W v l h=>ZbE v l W h)
 clear I ac bj;generalize decide ((Qb b).2≠0)=T0 at *;generalize (Qb b).1=first at *;generalize (Qb i).1=g at *;obtain⟨T1,T⟩:=zg7 (decide ((Qb i).2≠0));rw[<-T] at ag;by_cases ak:(Qb i).2=0∨256<g
 ·have A:Hid (∀ q,Yg q->Yc q≠b):=ZZ (fun q n F=>by
   obtain⟨g1,g2,_⟩:=HW.o q n F;have:=n.2.1
   omega)
  by_cases J:(Qb i).2=0
  ·have n:T1=false:=by rw[T];exact zai (fun h=>h J)
   subst n;clear ak HW HS J T
   go_enter func120,ntmps120
   go_wp2_with fail
   refine(al.o _ _ HR.o).mono ?_;rintro e W1 ⟨v1,rfl,y,K⟩;obtain⟨a1,n1,Q,-⟩:=id y;subst Q;have Y:=ZZ y;have E:=ZZ K;clear y K
   go_wp2_with fail
   refine(ag.o _ _ Y.o).mono ?_;rintro e f ⟨v2,rfl,H,N⟩;obtain⟨a2,n2,O,-⟩:=id H;subst O;have S:=ZZ (E.o.trans (N.mono E.o.size));clear H N;go_wp2;go_ret2;exact ZaQ.none A.o S.o
  ·have n:T1=true:=by rw[T];exact zan J
   subst n;have bK:256<(g:Int):=by omega
   clear ak HW HS J T
   go_enter func120,ntmps120
   go_wp2_with fail
   refine(al.o _ _ HR.o).mono ?_;rintro e W1 ⟨v1,rfl,y,K⟩;obtain⟨a1,n1,Q,-⟩:=id y;subst Q;have Y:=ZZ y;have E:=ZZ K;clear y K
   go_wp2_with fail
   refine(ag.o _ _ Y.o).mono ?_;rintro e f ⟨v2,rfl,H,N⟩;obtain⟨a2,n2,O,-⟩:=id H;subst O;have S:=ZZ (E.o.trans (N.mono E.o.size));clear H N;go_wp2;go_ret2;exact ZaQ.none A.o S.o
 have J:(Qb i).2≠0:=fun h=>ak (.inl h)
 have bx:g<=256:=Nat.le_of_not_lt (fun h=>ak (.inr h))
 have n:T1=true:=by rw[T];exact zan J
 subst n
 have bi:Hid (Zqr b first g [] z true):=ZZ ⟨trivial,(fun r h=>by simp at h),(fun _ _=>HS.o J),(fun h=>by cases h),fun q n F=>by
  obtain⟨g1,g2,g3,g4⟩:=HW.o q n F
  exact⟨g2,by simp,by simpa using g3,rfl,g4⟩⟩
 have bC:¬ 256<(g:Int):=by omega
 have bg:=Zmx;have bu:∀ W:World,(Instr.makeSlice 29 (.int .i64 (g:Int)) (.int .i64 (g:Int))).run prog W=.ok (.slice (some ⟨W.heap.size,0,none⟩) g g) (W.alloc (.cells (Qx (List.replicate g Qj)).toArray 62)):=fun W=>bg W g (by omega)
 have bD:=@run_makeMap prog;have br:z.length<=b.length:=by omega
 clear ak HW HS J T bg l1 l2;obtain⟨ZR,aG⟩:=zg7 ((Qx (List.replicate g Qj)).toArray);rw[<-aG] at bu;have bm:=ZZ aG;clear aG
 go_enter func120,ntmps120
 go_wp2_with fail
 refine(al.o _ _ HR.o).mono ?_;rintro e W1 ⟨v1,rfl,y,K⟩;obtain⟨a1,n1,Q,-⟩:=id y;subst Q;have Y:=ZZ y;have E:=ZZ K;clear y K
 go_wp2_with fail
 refine(ag.o _ _ Y.o).mono ?_;rintro e f ⟨v2,rfl,H,N⟩;obtain⟨a2,n2,O,-⟩:=id H;subst O;have aY:=ZZ H;have S:=ZZ (E.o.trans (N.mono E.o.size));clear H N Y E al ag
 have bb:Hid (DIB w ((f.alloc (.cells ZR 62)).alloc (.map #[] 0)) b first g f.heap.size (f.heap.size+1) [] (.slice a2 z.length n2) z true):=ZZ (by
  have u:Below f.heap.size f ((f.alloc (.cells ZR 62)).alloc (.map #[] 0)):=((zac _ _).alloc zL _).alloc (by simp) _
  have hs:(f.alloc (.cells ZR 62)).heap.size=f.heap.size+1:=by simp
  refine⟨?_,?_,aY.o.below u zL,br,bi.o,S.o.trans (u.mono S.o.size)⟩
  ·rw[zev,zc0,ze6]
   unfold ZjO;rw[<-bm.o];exact(zav _ _ _ (by simp)).trans (zak f _)
  ·have h:=Zgd.made (f.alloc (.cells ZR 62))
   rw[hs] at h
   exact h)
 have A:=ZZ S.o.size;clear aY S bi;go_wp2
 go_loopw[5,8,35] (fun vl vt vi wr=>∃ (t:Bool) (L:List Rec) (m:List UInt8),vt=.bool t∧vi=.int .i64 (L.length:Int)∧L.length<=g∧Hid (DIB w wr b first g f.heap.size (f.heap.size+1) L vl m t)) (fun _ _ vi _=>g-(intOf vi).toNat)
 case atStart=>exact⟨true,[],z,rfl,rfl,zap _,bb⟩
 case round=>
  clear bb;obtain⟨t,L,m,rfl,rfl,hk,p⟩:=hrel;by_cases aC:L.length<g
  case neg=>
   obtain rfl:g=L.length:=by omega
   have bF:¬ (L.length:Int)<(L.length:Int):=by omega
   have aK:=p.out.row;rw[zf8,List.replicate_zero,zc8] at aK;have a4:=ZZ (aK.rd p.out.read.ok (by unfold maxLen;omega))
   have au:=ZZ (bz.o wr _ L a4.o);have ai:=ZZ p.out.read.done.1;have X:=ZZ p.out.read.done.2;have aa:=ZZ p.out.below
   obtain⟨G,C,aD⟩:∃ G C,u5=.slice G m.length C:=by
    obtain⟨G,C,h,-⟩:=p.out.rd;exact⟨G,C,h⟩
   subst aD;clear aK p
   cases t with
   | false=>
    have af:=ZZ (X.o (fun h=>by cases h.1))
    clear ai X;go_wp2;go_ret2;exact ZaQ.none af.o aa.o
   | true=>
    by_cases hm:m=[]
    case neg=>
     have af:=ZZ (X.o (fun h=>hm h.2.1))
     have bt:0<m.length:=Nat.pos_of_ne_zero (fun e=>hm (zao e))
     clear ai X hm;generalize m.length=ln at *;have bB:decide (0<ln)=true:=zan bt;go_wp2;go_ret2;exact ZaQ.none af.o aa.o
    subst hm;by_cases n:Yg L
    ·have HE:=ZZ (ai.o ⟨rfl,rfl,n⟩)
     rw[zan n] at au;have bw:=ZZ n;clear ai X n
     go_wp2_with fail
     refine au.o.mono ?_;rintro e W3 ⟨rfl,u⟩;have V:=ZZ (aa.o.trans (u.mono aa.o.size));have ao:=ZZ (a4.o.below u zL);clear u;go_wp2;go_ret2;exact⟨_,L,0,rfl,ao.o,.inl ⟨rfl,bw.o,HE.o⟩,V.o⟩
    ·have af:=ZZ (X.o (fun h=>n h.2.2))
     rw[zai n] at au;clear ai X n
     go_wp2_with fail
     refine au.o.mono ?_;rintro e W3 ⟨rfl,u⟩;have V:=ZZ (aa.o.trans (u.mono aa.o.size));clear u;go_wp2;go_ret2;exact ZaQ.none af.o V.o
  have bJ:(L.length:Int)<(g:Int):=by omega
  obtain⟨R,d,m',t',hT⟩:∃ R d m' t',J2 m=(R,d,m',t'):=⟨_,_,_,_,rfl⟩;have ad:=ZZ (Zkj _ m wr p.out.rd (by have:=p.out.le;omega))
  have bk:=ZZ (p.out.read.step c1 aC bx hT);have aE:=ZzJ m;have aI:=Zwb m;rw[hT] at ad aE aI;have aS:=ZZ aI;have aV:Hid (m'.length<=b.length):=ZZ (zau aE p.out.le)
  obtain⟨G,C,aD⟩:∃ G C,u5=.slice G m.length C:=by
   obtain⟨G,C,h,-⟩:=p.out.rd;exact⟨G,C,h⟩
  subst aD;clear hT aE aI;unfold ZsI at ad
  dsimp only at ad
  have a0:(L++List.replicate (g-L.length) Qj).length=g:=by simp;omega
  have a7:=ZZ a0;clear a0
  go_wp2_with fail
  refine ad.o.mono ?_;rintro e W3 ⟨v3,rfl,aQ,u⟩;obtain⟨a3,n3,e3,-⟩:=id aQ;subst e3;have aj:=ZZ (p.out.row.below u zL);have aW:=ZZ (p.out.map.below u zL);have ao:=ZZ aQ;have V:=ZZ (p.out.below.trans (u.mono p.out.below.size));clear aQ u ad p
  have P:∀ j,j<7->∃ x,W3.cell? ⟨f.heap.size,L.length*7+j,none⟩=some x∧W3.frozen? ⟨f.heap.size,L.length*7+j,none⟩=false:=fun j hj=>by
   have h:=aj.o.cell (L.length*7+j);obtain⟨x,hx⟩:∃ x,(Qx (L++List.replicate (g-L.length) Qj))[L.length*7+j]?=some x:=⟨_,za4 (by rw[Zq,a7.o];omega)⟩
   exact⟨x,h.1.trans hx,h.2⟩
  obtain⟨x0,k0,f0⟩:=P 0 (by decide)
  obtain⟨x1,k1,f1⟩:=P 1 (by decide)
  obtain⟨x2,k2,f2⟩:=P 2 (by decide)
  obtain⟨x3,k3,f3⟩:=P 3 (by decide)
  obtain⟨x4,k4,f4⟩:=P 4 (by decide)
  obtain⟨x5,k5,f5⟩:=P 5 (by decide)
  obtain⟨x6,k6,f6⟩:=P 6 (by decide)
  rw[zc2] at k0 f0;clear P
  go_upto_region 12 with fail
  obtain⟨U,ap⟩:=zg7 (((((((W3.setCell ⟨f.heap.size,L.length*7,none⟩ (.int .i64 R.idx)).setCell ⟨f.heap.size,L.length*7+1,none⟩ (.int .i64 R.proc)).setCell ⟨f.heap.size,L.length*7+2,none⟩ (.int .i64 R.seq)).setCell ⟨f.heap.size,L.length*7+3,none⟩ (.int .i64 R.op.code)).setCell ⟨f.heap.size,L.length*7+4,none⟩ (.int .i64 R.op.a)).setCell ⟨f.heap.size,L.length*7+5,none⟩ (.int .i64 R.op.b)).setCell ⟨f.heap.size,L.length*7+6,none⟩ (.int .i64 R.resp));rw[<-ap];have az:L.length<(L++List.replicate (g-L.length) Qj).length:=by rw[a7.o];exact aC
  have M:=ZZ az;have aR:=aj.o.seven az R.idx R.proc R.seq R.op.code R.op.a R.op.b R.resp;rw[<-ap] at aR
  have av:Hid (But f.heap.size f.heap.size W3 U):=ZZ (by
   rw[ap]
   exact(((((((But.refl _ _ _).set _ _ (.inl rfl) _).set _ _ (.inl rfl) _).set _ _ (.inl rfl) _).set _ _ (.inl rfl) _).set _ _ (.inl rfl) _).set _ _ (.inl rfl) _).set _ _ (.inl rfl) _)
  have a8:=ZZ (ao.o.row aj.o av.o);have aX:=ZZ (aW.o.row aj.o av.o);have aU:=ZZ (Zaf V.o av.o V.o.size A.o A.o);have ab:=ZZ aR;obtain⟨⟨bH,bo⟩,bq⟩:(∃ x,U.cell? ⟨f.heap.size,L.length*7,none⟩=some x)∧U.frozen? ⟨f.heap.size,L.length*7,none⟩=false:=⟨⟨_,(ab.o.at (k:=L.length) (by rw[length_set];exact az)).1⟩,(ab.o.cell _).2⟩
  clear ap aR az aj ao aW V av k0 k1 k2 k3 k4 k5 k6 f0 f1 f2 f3 f4 f5 f6
  go_upto_region 13 with fail
  obtain⟨W5,ay⟩:=zg7 (U.setCell ⟨f.heap.size,L.length*7,none⟩ (.int .i64 ((first:Int)+(L.length:Int))));rw[<-ay];have bf:L.length<((L++List.replicate (g-L.length) Qj).set L.length ⟨R.idx,R.proc,R.seq,⟨R.op.code,R.op.a,R.op.b⟩,R.resp⟩).length:=by rw[length_set];exact M.o
  have aL:=ab.o.set bf 0 (by decide) (.int .i64 ((first:Int)+(L.length:Int))) ⟨(first:Int)+L.length,R.proc,R.seq,⟨R.op.code,R.op.a,R.op.b⟩,R.resp⟩ (by rw[Zaw M.o];rfl)
  rw[zc2,<-ay,zer] at aL
  have an:Hid (But f.heap.size f.heap.size U W5):=ZZ (by
   rw[ay]
   exact(But.refl _ _ _).set _ _ (.inl rfl) _)
  have ba:=ZZ (a8.o.row ab.o an.o);have aP:=ZZ (aX.o.row ab.o an.o);have aF:=ZZ (Zaf aU.o an.o aU.o.size A.o A.o);have Z:=ZZ aL;have aq:=Z.o.at (k:=L.length) (by rw[length_set];exact M.o)
  rw[Zaw M.o] at aq;have k1:=aq.2.1;have k2:=aq.2.2.1;have f2:=(Z.o.cell (L.length*7+2)).2;have aZ:=aP.o.look aS.o.1
  dsimp only at k1 k2
  clear ay aL bf aq ab a8 aX aU an bo bq;obtain⟨ls,aT⟩:=zg7 (Q8 L R.proc);rw[<-aT] at aZ;have a9:=ZZ aT;clear aT
  go_upto_region 14 with fail
  obtain⟨B,aM⟩:=zg7 (wrap64 (ls+d));rw[<-aM]
  have aN:IntKind.i64.wrap (Q8 L R.proc+d)=B:=by
   rw[aM,<-a9.o];unfold wrap64;exact zbo _
  have bd:Hid ((⟨(first:Int)+L.length,R.proc,B,⟨R.op.code,R.op.a,R.op.b⟩,R.resp⟩:Rec)=ZcT first L R d):=ZZ (by
   unfold ZcT
   rw[aN])
  have bp:Hid (I64 B):=ZZ (by rw[<-aN];exact Zji _)
  clear aN aM a9;obtain⟨W6,ar⟩:=zg7 (W5.setCell ⟨f.heap.size,L.length*7+2,none⟩ (.int .i64 B));rw[<-ar];have a5:L.length<((L++List.replicate (g-L.length) Qj).set L.length ⟨(first:Int)+L.length,R.proc,R.seq,⟨R.op.code,R.op.a,R.op.b⟩,R.resp⟩).length:=by rw[length_set];exact M.o
  have ae:=Z.o.set a5 2 (by decide) (.int .i64 B) ⟨(first:Int)+L.length,R.proc,B,⟨R.op.code,R.op.a,R.op.b⟩,R.resp⟩ (by rw[Zaw M.o];rfl)
  rw[<-ar,zer] at ae
  have aw:Hid (But f.heap.size f.heap.size W5 W6):=ZZ (by
   rw[ar]
   exact(But.refl _ _ _).set _ _ (.inl rfl) _)
  have bc:=ZZ (ba.o.row Z.o aw.o);have aJ:=ZZ (aP.o.row Z.o aw.o);have aB:=ZZ (Zaf aF.o aw.o aF.o.size A.o A.o);have am:=ae.at (k:=L.length) (by rw[length_set];exact M.o)
  rw[Zaw M.o] at am;have j1:=am.2.1;have j2:=am.2.2.1
  dsimp only at j1 j2
  rw[bd.o,ZzK L g aC] at ae;have aO:=ZZ ae;clear ar ae a5 am Z ba aP aF aw k1 k2 f2 aZ;have be:Zgd W6.drew (f.heap.size+1) L.length (Q8 L):=aJ.o.keep rfl;obtain⟨W7,bG,aA,ax⟩:=be.put aS.o.1 bp.o (by omega)
  have a6:ZAa (Q8 L) R.proc B=Q8 (L++[ZcT first L R d]):=by
   rw[<-bd.o];exact ZiW L ⟨(first:Int)+L.length,R.proc,B,⟨R.op.code,R.op.a,R.op.b⟩,R.resp⟩
  rw[a6] at aA;have aH:(L++[ZcT first L R d]).length=L.length+1:=by simp
  have bn:Hid (DIB w W7 b first g f.heap.size (f.heap.size+1) (L++[ZcT first L R d]) (.slice a3 m'.length n3) m' t'):=ZZ (by
   have bA:some f.heap.size≠some (f.heap.size+1):=by simp
   have bl:∀ c,c<W6.heap.size->c≠f.heap.size+1->W7.heap[c]?=W6.heap[c]?:=fun c hc hn=>ax.block c hc (fun e=>hn (by simpa using e))
   refine⟨(bl _ aO.o.lt (by omega)).trans aO.o,by rw[aH];exact aA,?_,aV.o,bk.o,(aB.o.drew).grown ax aB.o.size (fun j hj=>by cases hj;have:=A.o;omega)⟩
   obtain⟨va,vc,h1,h2,h3,hn,h4⟩:=bc.o;refine⟨va,vc,h1,h2,h3,hn,?_⟩;rcases h4 with h4 | ⟨c,bv,h5,h6⟩
   ·exact .inl h4
   ·refine .inr ⟨c,bv,h5,fun j hj=>?_⟩
    have hc:=h6 j hj
    exact ax.cell hc (fun e=>by
     have e':c=f.heap.size+1:=by simpa using e
     obtain⟨D,⟨es,bE,F,_⟩,_⟩:=aJ.o;rw[e'] at hc
     simp[World.cell?,F] at hc))
  clear be aA ax a6 aJ aO bc aB bk aS aV
  go_region
  all_goals
   go_wp2;go_roundw
   case rel=>exact⟨t',L++[ZcT first L R d],m',rfl,by rw[aH];go_num,by rw[aH];omega,bn⟩
   case measure=>simp[intOf];omega
theorem ZgF {a b:List UInt8} (f:a.length<=1048576) (g:b.length<=1048576) (h:Qd a=Qd b):a=b:=by
 have d:=Zag [a] (by simpa using f)
 have c:=Zag [b] (by simpa using g)
 have i:Qf [a]=Qd a:=by simp[Qf]
 have e:Qf [b]=Qd b:=by simp[Qf]
 rw[i,h] at d;rw[e] at c;have:=congrArg Prod.fst (d.symm.trans c);simpa using this
theorem Zyf (j:H.length<=1048576) {kind:Int} (F:0<=kind) (y:kind<6):
 decide (Qd H=ZgX 3 kind (G0 (Qd H)).1.first)=(Zbz H kind).isSome∧(∀ f,Zbz H kind=some f->(G0 (Qd H)).1.first=(f:Int))∧0<=(G0 (Qd H)).1.first∧(G0 (Qd H)).1.first<4611686018427387904:=by
 have m:=Zag [H] (by simpa using j)
 have D:Qf [H]=Qd H:=by simp[Qf]
 rw[D] at m
 have d:G0 (Qd H)=match Z8 H with
  | .error _=>(ZeF,0,false)
  | .ok (v,k,f)=>(⟨k,f,(J8 v f [] [] 16).1⟩,(Qf ([H].take (1+(J8 v f [] [] 16).2.1))).length,true):=by
  unfold G0 Zxf;rw[m];rw[zaa (by simp)]
  rfl
 have q:∀ f:Int,0<=f->f<4611686018427387904->ZgX 3 kind f=Qd (Xq 3 kind.toNat f.toNat):=fun f u n=>by
  unfold ZgX;rw[zab (by decide),zab ⟨F,y,u,n⟩]
  rfl
 have w:∀ f:Int,0<=f->f<4611686018427387904->(Xq 3 kind.toNat f.toNat).length<=1048576:=fun f u n=>by
  have:=ZcO (v:=3) (k:=kind.toNat) (f:=f.toNat) (by decide) (by omega) (by omega)
  omega
 cases hr:Z8 H with
 | error x=>
  rw[hr] at d;have i:(G0 (Qd H)).1.first=0:=by rw[d];rfl
  have e:Zbz H kind=none:=by unfold Zbz;rw[hr]
  rw[i,e];refine⟨?_,(fun f a=>by cases a),by decide,by decide⟩
  rw[q 0 (by decide) (by decide)]
  refine zai fun a=>?_
  have:=ZgF j (w 0 (by decide) (by decide)) a
  rw[this,Zgb (by decide) (by decide) (by omega) (by decide)] at hr
  cases hr
 | ok t=>
  obtain⟨v,k,f⟩:=t;obtain⟨z,G,J,I,C⟩:=Zcj hr;rw[hr] at d;have i:(G0 (Qd H)).1.first=(f:Int):=by rw[d]
  rw[i,q f (by omega) (by omega)]
  have e:Zbz H kind=if v=3∧(k:Int)=kind then some f else none:=by unfold Zbz;rw[hr]
  have l:((f:Int)).toNat=f:=by omega
  rw[l];have p:=w f (by omega) (by omega)
  rw[l] at p;by_cases b:v=3∧(k:Int)=kind
  ·rw[e,zab b]
   refine⟨?_,fun A g=>by rw[zaq g],by omega,by omega⟩
   have B:kind.toNat=k:=by omega
   rw[z,b.1,B];exact zan rfl
  ·rw[e,zaa b]
   refine⟨zai fun a=>?_,(fun A g=>by cases g),by omega,by omega⟩
   have E:=ZgF j p a;have c:=Zgb (v:=3) (k:=kind.toNat) (f:=f) (by decide) (by decide) (by omega) C
   rw[<-E,hr] at c
   injection c with c
   injection c with h5 h6
   injection h6 with h6 h7
   exact b ⟨h5,by omega⟩
theorem Zos (i:Value) (H:List UInt8) (kind:Int) (w:World) (B:Rd w i H) (hH:H.length<=90000) (L:0<=kind) (z:kind<6):
 Calls prog 119 #[i,.int .i64 kind] w fun e w'=>∃ x:Int,e=.returned (.tuple #[.int .i64 x,.bool (Zbz H kind).isSome])∧(∀ f,Zbz H kind=some f->x=(f:Int))∧Below w.heap.size w w':=by
 obtain⟨j,M,S,q4⟩:=Zyf (H:=H) (by omega) L z
 have E:=ZZ (Zdp i H w B);rw[Zmo (by omega)] at E
 have n:=Zag [H] (by simp;omega)
 have P:Qf [H]=Qd H:=by simp[Qf]
 rw[P] at n;have aa:=Xa H;have V:(Lib.uvarint H.length).length<=10:=Gm (by omega)
 have m:=ZZ (fun k W (h:Rd W k (Qd H))=>Zke k (Qd H) W h (by omega) (by rw[n];rfl))
 obtain⟨fs,p⟩:=zg7 ((G0 (Qd H)).1.first);have D:=ZZ (fun W=>Zoh 3 kind fs W)
 unfold Zba at m;unfold Zrs at D;rw[<-p] at j m;have HQ:Hid (∀ f,Zbz H kind=some f->fs=(f:Int)):=ZZ (fun f U=>by rw[p];exact M f U)
 have Q:=ZZ (fun l C W (T:Rd W l (Qd H)) (hb:Rd W C (ZgX 3 kind fs))=>Zjg l C _ _ W T hb)
 rw[j] at Q;generalize (Zbz H kind).isSome=aj at *;generalize (G0 (Qd H)).1.kind=N at *;generalize ((G0 (Qd H)).2.1:Int)=rn at *;generalize (G0 (Qd H)).2.2=ro at *;generalize (G0 (Qd H)).1.recs=v at *;generalize ZgX 3 kind fs=HL at *;generalize Jm 3 kind fs=he at *;generalize Qd H=FH at *;obtain⟨l,vc,rfl,-⟩:=B;clear j M S q4 n P aa V p L z
 go_enter func119,ntmps119
 go_wp2_with fail
 refine E.o.mono ?_;rintro e W1 ⟨k,rfl,G,F⟩;have t:=ZZ G.rd;have K:=ZZ F;clear G F
 go_wp2_with fail
 refine(m.o _ _ t.o).mono ?_;rintro e b ⟨vl,rfl,af,q⟩;obtain⟨y,lc,rfl,-⟩:=af;have ab:=ZZ q;have R:=ZZ (K.o.trans (q.mono K.o.size));obtain⟨a,g⟩:=zg7 (b.alloc (.cells #[.int .i64 N,.int .i64 fs,.slice y v.length lc] 217));have HX:Hid (Bsg a b.heap.size #[.int .i64 N,.int .i64 fs,.slice y v.length lc]):=ZZ (by rw[g];exact zak b _)
 have u:Hid (Below b.heap.size b a):=ZZ (by rw[g];exact Z3 _ _)
 have J:=ZZ (R.o.trans (u.o.mono R.o.size));have X:=ZZ ((t.o.below ab.o zL).below u.o zL);have A:Hid (∀ W,Below a.heap.size a W->W.cell? ⟨b.heap.size,1,none⟩=some (.int .i64 fs)):=ZZ (fun W hW=>((HX.o.below hW zL).cell 1).1)
 have Y:=A.o a (zac _ _);clear q
 go_upto_region 3 with fail
 rw[<-g];clear g
 go_wp2_with fail
 refine(D.o a).mono ?_;rintro e c ⟨v4,rfl,I,d⟩;have ai:=ZZ d;have ag:=ZZ (J.o.trans (d.mono J.o.size));have ac:=ZZ I.rd;have ae:=ZZ (X.o.below d zL);have ad:Hid (Below a.heap.size a c.drew):=ZZ d.drew;have O:Hid (Below c.heap.size c c.drew):=ZZ (zac _ _).drew;have Z:=ZZ (Q.o _ _ c.drew (ae.o.below O.o zL) (ac.o.below O.o zL));clear I d Y
 go_upto_region 4 with fail
 go_region_held(fun W=>W.cell? ⟨b.heap.size,1,none⟩=some (.int .i64 fs))
  (first | (with_reducible exact A.o _ ad.o))
  (first | (go_at_call 163;refine Z.o.mono ?_;rintro e W5 ⟨rfl,rfl⟩))
 all_goals
  go_wp2;go_ret2;exact⟨fs,rfl,HQ.o,ag.o.drew⟩
theorem Zhb (w:World) (ty:TypeId) (B:Nat) (v:Value) (b:List Rec) (c:Xl w B v b) (e:Value) (l:List Rec) (q:RdR w e l)
 (C:b.length+l.length<=10000000) (f:B<=w.heap.size):
 ∃ v' w',(Builtin.append_ #[29,29] ty #[v,e]).run prog w=.ok v' w'∧Xl w' B v' (b++l)∧Below B w w':=by
 obtain⟨g,i,n,m,z⟩:=zbx Zdl;obtain⟨ao,cap,rfl,D,E,p,_,y⟩:=q
 cases ao with
 | none=>
  have j:=p rfl;subst j;have A:l=[]:=zao (by omega)
  subst A;have d:=zc6 (P:=prog) w B 29 ty 62 g 7 underlying29 i v b.length (Qx b) c;exact⟨v,w,d,by rw[zc8];exact c,zac _ _⟩
 | some a=>
  obtain⟨v',w',d,u,x,_⟩:=zdn (P:=prog) w B 29 ty 62 g _ 7 56 underlying29 i n m z rfl (by decide) v b.length (Qx b) c a l.length cap (Qx l)
   (Zq l) (RdR.cells y a rfl) (Zbt l) (by unfold maxLen;omega) (by omega) f
  refine⟨v',w',d,?_,?_⟩
  ·unfold Xl
   rw[length_append,ZaB];exact u
  ·exact(zac _ _).grown x f (fun k t=>(zaz c k t).1)
theorem Zeh (w:World) {d:Array Oper} {rest:List Oper} {o:Oper} {a:Act} {Q:Exit->Act->World->Prop} (j:o.guard=none) (s x:Operand)
 (n:o.op=.call { callee:=.builtin .append,args:=#[s,x],argTypes:=#[29,29] })
 (B:Nat) (v:Value) (b:List Rec) (e:a.eval s=v) (p:Xl w B v b) (c:Value) (l:List Rec) (t:a.eval x=c) (k:RdR w c l)
 (f:b.length+l.length<=10000000) (m:B<=w.heap.size)
 (h:∀ v' w',Xl w' B v' (b++l)->Below B w w'->wpList prog d Q rest (a.put o.dst v') w'):wpList prog d Q (o::rest) a w:=
 zb0 j fun _ g=>by
  obtain⟨v',w',i,u,q⟩:=Zhb w o.type B v b p c l k f m;unfold Oper.wp execOp;simp only [n,resolve,invoke,builtin,zbt,zbv,zbe,zch,map_cons,map_nil,e,t,i];exact g _ _ (h v' w' u q)
theorem Zwd {L:List (List UInt8)} {q:Nat} (h:q<L.length):L.getD q [] ∈ L:=by
 rw[show L.getD q []=L[q] by simp[List.getD,h]]
 exact getElem_mem _
theorem Zyg {d:List UInt8} {l:List Rec} {n:Int} (h:DecB d l n):(n=0∧ZdU d=some l∧Yg l)∨(n=3∧ZdU d=none):=by
 rcases h with ⟨c,b,a⟩ | ⟨c,b,a⟩
 ·exact .inl ⟨c,by rw[<-a];exact Znc b,b⟩
 ·refine .inr ⟨c,?_⟩
  unfold ZdU;rw[zaa fun e=>a _ e.1 e.2]
theorem ZaD (first:Int) (d:List UInt8) (t:List (List UInt8)) (a:List Rec):Yu first (d::t) a=match ZdU d with
 | none=>a
 | some l=>if(l.headD Qj).idx=first+a.length then Yu first t (a++l) else a:=by
 rw[Yu]
 cases ZdU d <;> rfl
def Zqs (L:List (List UInt8)) (kind:Int):Option (Nat × List Rec):=
 match L with
 | []=>none
 | H::B=>(Zbz H kind).map fun f=>(f,Yu f B [])
theorem Zmz (b:List UInt8) (kind:Int):ZoZ b kind=Zqs (Qq b).1 kind:=by
 unfold ZoZ Zqs
 cases (Qq b).1 <;> rfl
def Zwe (w:World) (o:Option (Nat × List Rec)) (e:Ending) (w':World):Prop:=
 ∃ (x:Int) (a:Option Addr) (n c:Nat),e=.returned (.tuple #[.int .i64 x,.slice a n c,.bool o.isSome])∧(∀ f l,o=some (f,l)->x=(f:Int)∧Xl w' w.heap.size (.slice a n c) l)∧Below w.heap.size w w'
theorem Xl.rdF {l:List Rec} (h:Xl w B v l) (b:∀ r ∈ l,Q1 r):RdR w v l:=h.rd fun r a=>Zck (b r a)
theorem Zjj (vb:Value) (b:List UInt8) (kind:Int) (w:World) (hr:Rd w vb b) (hb:b.length<=90000) (be:0<=kind) (a4:kind<6):
 Calls prog 77 #[vb,.int .i64 kind] w fun e w'=>Zwe w (ZoZ b kind) e w':=by
 have aw:=ZZ (ZkT vb b w hr (by omega))
 obtain⟨V,aG⟩:=ZeZ b;rw[Zmz];obtain⟨va,vc,rfl,-⟩:=hr;generalize (Qq b).2.1=tk at *;generalize (Qq b).1=L at *;obtain⟨u,al⟩:∃ u:Option (Nat × List Rec),u=Zqs L kind:=⟨_,rfl⟩;rw[<-al];have Z:=ZZ al;clear al;have bq:(L.length:Int)<=100000:=by omega
 by_cases S:L.length=0
 ·have e:L=[]:=zao S
  have D:Hid (u=none):=ZZ (by rw[Z.o,e];rfl)
  have aZ:((L.length:Int) == 0)=true:=by rw[zbi];omega
  clear S e V aG Z
  go_enter func77,ntmps77
  go_wp2;go_step3
  go_wp2_with fail
  refine aw.o.mono ?_;rintro e P ⟨v1,rfl,y,G⟩;have M:=ZZ G;obtain⟨a1,c1,ab,-⟩:=y.rd;subst ab;clear y G;go_wp2
  try rw[ze1]
  go_ret3
  rw[D.o];exact⟨0,_,_,_,rfl,(fun f l i=>by cases i),M.o⟩
 have ay:L≠[]:=fun e=>S (by rw[e];rfl)
 have aZ:((L.length:Int) == 0)=false:=zah.2 (by omega)
 have bp:(0:Int)<(L.length:Int):=by omega
 have ap:L.getD 0 []=L.headD []:=by cases L <;> rfl
 have af:Hid (u=(Zbz (L.headD []) kind).map fun(f:Nat)=>(f,Yu (f:Int) L.tail [])):=ZZ (by
  rw[Z.o]
  cases L with
  | nil=>exact absurd rfl ay
  | cons H B=>rfl)
 have aD:(L.headD []).length<=90000:=by
  rw[<-ap];have:=(V (L.getD 0 []) (by rw[show L.getD 0 []=L[0]'(by omega) by simp[List.getD,show 0<L.length by omega]];exact getElem_mem _)).2
  omega
 have aH:=ZZ (fun F W (h:Rd W F (L.headD []))=>Zos F (L.headD []) kind W h aD be a4)
 have a3:=ZZ (fun(q:Nat) (hq:q<L.tail.length) F W (h:Rd W F (L.tail.getD q []))=>Zha F (L.tail.getD q []) W h (by
  have hm:L.tail.getD q [] ∈ L:=List.mem_of_mem_tail (Zwd hq);have:=(V _ hm).2
  omega))
 have bm:L.tail.length<=20000:=by rw[List.length_tail];omega
 clear V aG Z S
 go_enter func77,ntmps77
 go_wp2;go_step3
 go_wp2_with fail
 refine aw.o.mono ?_;rintro e P ⟨v1,rfl,y,G⟩;have M:=ZZ G;have ao:=ZZ y.rd;obtain⟨a1,c1,ab,-⟩:=y.rd;subst ab;clear y G;obtain⟨b0,o0,x0,rfl,aQ,U⟩:=ao.o.at 0 (by omega)
 obtain⟨am,cm,aa,an⟩:=ZvT P _ L L.length c1 rfl ao.o 1 (by omega)
 rw[List.drop_one] at aa an;rw[ap] at U;have km:=an 1 rfl;have aL:=ZZ aa;have aE:=aQ P (zac _ _);have aA:=ZZ (U P (zac _ _));obtain⟨a0,q0,bc,-⟩:=U P (zac _ _);subst bc;rw[zc2] at aE;clear aa an aQ U ap ao aw ay;generalize L.tail=B at *;generalize L.headD []=H at *;generalize aW:H.length=hl at *;clear aW aD
 go_wp2_with fail
 refine(aH.o _ _ aA.o).mono ?_;rintro e m ⟨x,rfl,aJ,au⟩;have E:=ZZ (M.o.trans (au.mono M.o.size));have aF:=ZZ (aL.o.below au zL);have aI:=ZZ aJ;clear aJ au aE aA aL aH M
 cases i:Zbz H kind with
 | none=>
  have D:Hid (u=none):=ZZ (by rw[af.o,i];rfl)
  clear i;simp only [zed];go_wp2
  try rw[ze1]
  go_ret3
  rw[D.o];exact⟨0,_,_,_,rfl,(fun f l h'=>by cases h'),E.o⟩
 | some f=>
  obtain rfl:=aI.o f i
  have aX:f<4611686018427387904:=by
   unfold Zbz at i;split at i
   ·rename_i v k f' bk
    split at i
    ·have:=(Zcj bk).2.2.2.2
     rw[<-zaq i];exact this
    ·cases i
   ·cases i
  have D:Hid (u=some (f,Yu f B [])):=ZZ (by rw[af.o,i];rfl)
  simp only [zee];obtain⟨j,ak⟩:∃ j:Int,j=(f:Int):=⟨_,rfl⟩;have ag:=ZZ ak;have bt:0<=j:=by omega
  have bw:j<4611686018427387904:=by omega
  rw[<-ak];clear i aI af ak aX;obtain⟨t,ac⟩:=zg7 B.length;rw[<-ac] at km aF bm;have aK:=ZZ ac;clear ac;have bD:(t:Int)<=20000:=by omega
  have ai:Hid (∀ (wr:World) (J:Value) d,Xl wr w.heap.size J d->Yu f B []=d->Below w.heap.size w wr->Zwe w u (.returned (.tuple #[.int .i64 j,J,.bool true])) wr):=ZZ (fun wr J d ho hk a8=>by
   obtain⟨a,c,rfl⟩:=ho.shape;refine⟨j,a,_,c,by rw[D.o];rfl,fun f' l' T=>?_,a8⟩
   rw[D.o] at T;have T:=zaq T
   injection T with e1 e2
   rw[<-e1,<-e2,hk]
   exact⟨ag.o,ho⟩)
  go_wp2;go_step3;go_wp2
  go_loopw[11,37] (fun J vi wr=>∃ (q:Nat) (d:List Rec) (a:Option Addr) (n c:Nat),vi=.int .i64 (q:Int)∧q<=t∧J=.slice a n c∧Hid (Xl wr m.heap.size (.slice a n c) d)∧Hid (∀ r ∈ d,Q1 r)∧Hid (d.length<=256*q)∧Hid (Yu f B []=Yu f (B.drop q) d)∧Hid (Below m.heap.size m wr)) (fun _ vi _=>t-(intOf vi).toNat)
  case atStart=>exact⟨0,[],none,0,0,rfl,zap _,rfl,ZZ (Xl.nil _ _),ZZ (fun r hr=>by cases hr),ZZ (zap _),ZZ rfl,ZZ (zac _ _)⟩
  case round=>
   obtain⟨q,d,a,n,c,rfl,hq,rfl,HO,a7,aU,av,Y⟩:=hrel;have ax:Hid (Below w.heap.size w wr):=ZZ (E.o.trans (Y.o.mono E.o.size));by_cases a2:q<t
   case neg=>
    have e:q=t:=by omega
    have Q:=ZZ (ai.o wr _ d (HO.o.mono E.o.size) (by
     rw[av.o,e,aK.o,ze9]
     rfl) ax.o)
    clear e;go_wp2
    try rw[ze1]
    go_ret3
    exact Q.o
   have aq:q<B.length:=by rw[<-aK.o];exact a2
   have bB:(q:Int)<(t:Int):=by omega
   have bu:=aU.o;obtain⟨bb,ob,xb,bl,aC,aN⟩:=(aF.o.below Y.o zL).at q aq;subst bl;have cx:=aC wr (zac _ _);have az:=aN wr (zac _ _);have I:=ZZ (a3.o q aq _ wr az);unfold ZaQ at I;have p:Hid (Yu f B []=Yu f (B.getD q []::B.drop (q+1)) d):=ZZ (by rw[av.o,drop_one aq])
   rw[ZaD] at p;obtain⟨xa,xc,aT,-⟩:=az;subst aT;generalize B.getD q []=dq at *;generalize aP:dq.length=dl at *;have bo:=ZZ aP;clear aP aC aN av
   go_wp2_with fail
   refine I.o.mono ?_;rintro e N ⟨v3,g,n3,rfl,O,R,A⟩;have aM:Hid (Below m.heap.size m N):=ZZ (Y.o.trans (A.mono Y.o.size));have aB:Hid (Below w.heap.size w N):=ZZ (ax.o.trans (A.mono ax.o.size));have X:=ZZ (HO.o.below A zL);have a5:=ZZ O;rcases Zyg R with ⟨rfl,z,K⟩ | ⟨rfl,z⟩
   case inr=>
    have Q:=ZZ (ai.o N _ d (X.o.mono E.o.size) (by rw[p.o,z]) aB.o)
    clear z R O A p I cx;go_wp2
    try rw[ze1]
    go_ret3
    exact Q.o
   have aR:1<=g.length:=K.1;have bv:g.length<=256:=K.2.1;obtain⟨ra,rc,a6,-,-,-,-,aY⟩:=id O;subst a6;rcases aY with ba | ⟨rb,ro,rfl,ad⟩
   ·rw[ba] at aR;simp at aR
   have ar:g.getD 0 Qj=g.headD Qj:=by cases g <;> rfl
   have ci:=(ad 0 (by omega)).1
   rw[ar,zc7,zc2] at ci;rw[z] at p
   dsimp only at p
   have bA:(d.length:Int)<=6000000:=by omega
   have ae:Hid (n=d.length):=ZZ (by
    obtain⟨a9,c9,e9⟩:=X.o.shape
    injection e9 with _ e9 _)
   have bz:n<=6000000:=by rw[ae.o];omega
   have bC:(n:Int)<=6000000:=by omega
   have bx:IntKind.i64.wrap (j+(n:Int))=j+n:=by rw[zbo];omega
   have br:(0:Int)<(g.length:Int):=by omega
   by_cases C:(g.headD Qj).idx=j+n
   case neg=>
    have Q:=ZZ (ai.o N _ d (X.o.mono E.o.size) (by rw[p.o,zaa (by rw[<-ag.o,<-ae.o];exact C)]) aB.o)
    have bf:((g.headD Qj).idx != j+(n:Int))=true:=by rw[zbq];exact C
    generalize (g.headD Qj).idx=ix at *;clear z R O A p I cx ad ar K C;go_wp2
    try rw[ze1]
    go_ret3
    exact Q.o
   have bf:((g.headD Qj).idx != j+(n:Int))=false:=by rw[C];simp
   have bj:Hid (Yu f B []=Yu f (B.drop (q+1)) (d++g)):=ZZ (by rw[p.o,zab (by rw[<-ag.o,<-ae.o];exact C)])
   have bd:Hid (∀ r ∈ d++g,Q1 r):=ZZ (fun r hr=>by
    rcases za2.1 hr with hr | hr
    ·exact a7.o r hr
    ·exact K.2.2.1 r hr)
   have bi:Hid ((d++g).length<=256*(q+1)):=ZZ (by rw[length_append];omega)
   have aV:Hid (d.length+g.length<=10000000):=ZZ (by omega)
   have bg:Hid (m.heap.size<=N.heap.size):=ZZ aM.o.size;generalize (g.headD Qj).idx=ix at *;clear z R O A p I cx ad ar K C
   go_wp2_with(at_builtin;refine Zeh _ rfl _ _ rfl m.heap.size _ d rfl X.o _ g rfl a5.o (by have:=aV.o;omega) bg.o ?_)
   intro v4 W4 aj aO;have aS:=ZZ aj
   obtain⟨y1,y2,y3,hy⟩:∃ a n c,v4=Value.slice a n c:=by
    obtain⟨a,c,i⟩:=aj.shape;exact⟨a,_,c,i⟩
   subst hy;have bn:Hid (Below m.heap.size m W4):=ZZ (aM.o.trans aO);clear aj aO;go_wp2;go_roundw
   case rel=>exact⟨q+1,d++g,y1,y2,y3,by go_num,by omega,rfl,aS,bd,bi,bj,bn⟩
   case measure=>simp[intOf];omega
structure ZzL (g:Lgb):Prop where
 f0:0<=g.first
 f1:g.first<=4611686018427387904
 rl:g.recs.length<=9000000
 pl:g.pcs.length<=900000
 st:∀ p ∈ g.pcs,0<=p.stop∧p.stop<=4611686018427387904
def Jn (d:Dk) (kind:Int) (l:List Int) (q:Nat):Lgb:=(l.take q).foldl (logOne d kind) ZaF
theorem Zge (d:Dk) (kind:Int) (l:List Int) (q:Nat) (a:q<l.length):Jn d kind l (q+1)=logOne d kind (Jn d kind l q) (l.getD q 0):=by
 unfold Jn;rw[zcl,zdq,show l.getD q 0=l[q] by simp[List.getD,a]]
 simp[a]
theorem Zjk (d:Dk) (kind:Int) (l:List Int) (q:Nat) (a:q=l.length):Jn d kind l q=l.foldl (logOne d kind) ZaF:=by
 subst a;unfold Jn;rw[take_length]
def Zwf (w:World) (g:Lgb) (e:Ending) (w':World):Prop:=
 ∃ rv pv,e=.returned (.agg #[.int .i64 g.first,rv,pv])∧Xl w' w.heap.size rv g.recs∧w'.ownsRow w.heap.size 108 3 pv g.pcs.length (Q7 g.pcs)∧Below w.heap.size w w'
theorem ZaS {base c s:Nat} (h:w.ownsRow base t s v n xs) (d:∀ g,v.ownBlock=some g->c<=g):w.ownsRow c t s v n xs:=by
 obtain⟨e,a⟩:=h;refine⟨e,?_⟩;rcases a with a | ⟨g,cap,cur,b,f,r⟩
 ·exact .inl a
 ·exact .inr ⟨g,cap,cur,b,d g (by rw[b];rfl),r⟩
theorem ZtE {a:TypeId} {s:Nat} (h:ZiJ t w b o cs rv pv g) (f:w.ownsRow B a s v n xs) (l:a≠t) (p:a≠62) (m:a≠108)
 (j:Ql (Zka b rv pv) w w'):w'.ownsRow B a s v n xs:=Qh f fun k i=>by
 obtain⟨c,d⟩:=X5 f i;refine j.block k d.lt fun hf=>?_
 rcases hf with hf | hf | hf
 ·subst hf
  exact(d.ne h.blk l) rfl
 ·obtain⟨c',e⟩:=X5 h.recs hf
  exact(d.ne e p) rfl
 ·obtain⟨c',e⟩:=X5 h.pcs hf
  exact(d.ne e m) rfl
theorem ZiJ.ltF (h:ZiJ t w b o cs rv pv g):∀ k,Zka b rv pv k->k<w.heap.size:=fun k hk=>by
 rcases hk with hk | hk | hk
 ·subst hk;exact h.blk.lt
 ·obtain⟨c',a⟩:=X5 h.recs hk
  exact a.lt
 ·obtain⟨c',a⟩:=X5 h.pcs hk
  exact a.lt
structure Zgf (w W0:World) (v:Value) (l:List Int) (rv pv:Value) (g:Lgb) (wr:World):Prop where
 log:ZiJ 73 wr (w.heap.size+1) 0 #[.int .i64 g.first,rv,pv] rv pv g
 far:∀ k,Zka (w.heap.size+1) rv pv k->w.heap.size+1<=k
 out:Bk 73 wr w.heap.size #[.int .i64 0,.slice none 0 0,.slice none 0 0]
 row:Qt wr W0.heap.size v l
 old:Below w.heap.size w wr
theorem Zgf.below {b:World} (h:Zgf w b v l rv pv g wr) (a:Below wr.heap.size wr w'):Zgf w b v l rv pv g w':=
 ⟨h.log.below a,h.far,h.out.keep (a.block _ h.out.lt),h.row.below a zL,h.old.trans (a.mono h.old.size)⟩
theorem Zgf.did {d:World} {g':Lgb} (h:Zgf w d v l rv pv g wr) (e:ZeV 73 wr (w.heap.size+1) 0 #[.int .i64 g.first,rv,pv] rv pv g' w'):
 ∃ b c,Zgf w d v l b c g' w'∧Ql (Zka (w.heap.size+1) rv pv) wr w':=by
 obtain⟨b,c,f,a,i⟩:=e;have j:w.heap.size+1<wr.heap.size:=h.log.blk.lt;refine⟨b,c,⟨f,fun k hk=>?_,h.out.keep (a.block _ h.out.lt fun hk=>?_),ZtE h.log h.row (by decide) (by decide) (by decide) a,h.old.trans (a.below (by omega) fun k hk=>?_)⟩,a⟩
 ·rcases i k hk with hk | hk
  ·exact h.far k hk
  ·omega
 ·have:=h.far _ hk
  omega
 ·have:=h.far _ hk
  omega
def ZAy (g:Lgb) (n:Int):Option (Nat × List Rec)->Lgb
 | none=>g
 | some (f,l)=>if g.pcs.length=0∨(f:Int)=g.next then(g.start n f).add l else g
theorem Zqt (kind:Int) (w:World) (h:Dsk F w p d N T) (hN:N<=1000000) (hT:T<=1000000000) (aX:0<=kind) (aP:kind<6) (aO:∀ n,(Zu d n).1.length<=90000)
 (a0:∀ n f l,ZoZ (Zu d n).1 kind=some (f,l)->f<4611686018427387904∧∀ r ∈ l,Q1 r) (a6:∀ q,ZzL (Jn d kind (Xm (Qk d) 2) q)):
 Calls prog 35 #[ptr p,.int .i64 kind] w fun e w'=>Zwf w (Jq d kind) e w':=by
 have am:=ZZ (fun W (X:Below w.heap.size w W)=>Zci 2 W (h.below X) hN (by omega) (by omega))
 have bm:=ZZ (fun n (y:I64 n) W (X:Below w.heap.size w W)=>Znr n y W (h.below X) hT)
 have bi:=ZZ (fun n vb W (hr:Rd W vb (Zu d n).1)=>Zjj vb _ kind W hr (aO n) aX aP)
 have HI:Hid (∀ n ∈ Xm (Qk d) 2,I64 n):=ZZ (by
  obtain⟨L,g1,C,-⟩:=h
  exact fun n y=>by
   have:=Zbg C n (za3.1 y).1
   exact⟨by omega,by omega⟩)
 have al:Hid ((Xm (Qk d) 2).length<=1000000):=ZZ (by
  obtain⟨L,g1,C,g3,-⟩:=h;have h3:=Zbq d d.waits.length;rw[Zdg] at h3;have:=g3.names;refine zau (zdh _ _) ?_;unfold Qk;rw[length_map]
  omega)
 have a8:=ZZ a0;have az:=ZZ a6;have a7:Jq d kind=(Xm (Qk d) 2).foldl (logOne d kind) ZaF:=rfl;rw[a7];clear h aO a0 a6 a7 aX aP;obtain⟨l,hl⟩:=zg7 (Xm (Qk d) 2);rw[<-hl] at am HI al az ⊢;clear hl;obtain⟨t,Q⟩:=zg7 ((w.alloc (.cells #[.int .i64 0,.slice none 0 0,.slice none 0 0] 73)).alloc (.cells #[.int .i64 0,.slice none 0 0,.slice none 0 0] 73));have aa:Hid (Below w.heap.size w t):=ZZ (by rw[Q];exact((zac _ _).alloc zL _).alloc (by simp) _)
 have HY:Hid (Bk 73 t w.heap.size #[.int .i64 0,.slice none 0 0,.slice none 0 0]):=ZZ (by rw[Q];exact(zav _ _ _ (by simp)).trans (zak w _))
 have HX:Hid (Bk 73 t (w.heap.size+1) #[.int .i64 0,.slice none 0 0,.slice none 0 0]):=ZZ (by rw[Q];exact Zeb w _ _)
 have bo:Hid (∀ (a b c:Value) (W:World),Below w.heap.size w W->Below w.heap.size w (((W.setCell ⟨w.heap.size,0,none⟩ a).setCell ⟨w.heap.size,1,none⟩ b).setCell ⟨w.heap.size,2,none⟩ c)):=ZZ (fun a b c W X=>((X.setCell (p:=⟨w.heap.size,0,none⟩) zL a).setCell (p:=⟨w.heap.size,1,none⟩) zL b).setCell (p:=⟨w.heap.size,2,none⟩) zL c)
 go_enter func35,ntmps35
 go_upto_region 2 with fail
 rw[<-Q];clear Q
 go_wp2_with fail
 refine(am.o t aa.o).mono ?_;rintro e W1 ⟨v1,rfl,ax,af⟩
 have aq:Hid (Zgf w t v1 l (.slice none 0 0) (.slice none 0 0) ZaF W1):=ZZ (by
  refine⟨(ZiJ.mk HX.o rfl rfl rfl (Xl.nil _ _) (zck _ _ _ _)).below af,fun k hk=>?_,HY.o.keep (af.block _ HY.o.lt),ax,aa.o.trans (af.mono aa.o.size)⟩
  rcases hk with hk | hk | hk
  ·omega
  ·cases hk
  ·cases hk)
 obtain⟨a1,K,a9⟩:∃ a c,v1=.slice a l.length c:=ax.shape;subst a9;obtain⟨j,ab⟩:=zg7 l.length;rw[<-ab] at aq al;rw[<-ab];have aR:=ZZ ab;clear ax af am ab HX HY aa;have bC:=al.o;have bB:(j:Int)<=1000000:=by omega
 have aT:Hid (∀ (g:Lgb) (rv pv:Value) (W:World),g=l.foldl (logOne d kind) ZaF->Zgf w t (.slice a1 j K) l rv pv g W->Zwf w (l.foldl (logOne d kind) ZaF) (.returned (.agg #[.int .i64 g.first,rv,pv])) (((W.setCell ⟨w.heap.size,0,none⟩ (.int .i64 g.first)).setCell ⟨w.heap.size,1,none⟩ rv).setCell ⟨w.heap.size,2,none⟩ pv)):=ZZ (fun g rv pv W he u=>by
  rw[<-he]
  have hk:∀ k,Zka (w.heap.size+1) rv pv k->(((W.setCell ⟨w.heap.size,0,none⟩ (.int .i64 g.first)).setCell ⟨w.heap.size,1,none⟩ rv).setCell ⟨w.heap.size,2,none⟩ pv).heap[k]?=W.heap[k]?:=fun k hk=>by
   have:=u.far k hk;rw[zat _ _ _ _ (by show k≠w.heap.size;omega),zat _ _ _ _ (by show k≠w.heap.size;omega),zat _ _ _ _ (by show k≠w.heap.size;omega)]
  refine⟨rv,pv,rfl,Qh (ZaS u.log.recs fun k J=>?_) fun k J=>hk k (.inr (.inl J)),Qh (ZaS u.log.pcs fun k J=>?_) fun k J=>hk k (.inr (.inr J)),bo.o _ _ _ _ u.old⟩
  ·have:=u.far k (.inr (.inl J))
   omega
  ·have:=u.far k (.inr (.inr J))
   omega)
 go_wp2
 go_loopw[16] (fun vi wr=>∃ (q:Nat) (rv pv:Value),vi=.int .i64 (q:Int)∧q<=j∧Hid (Zgf w t (.slice a1 j K) l rv pv (Jn d kind l q) wr)) (fun vi _=>j-(intOf vi).toNat)
 case atStart=>exact⟨0,_,_,rfl,zap _,aq⟩
 case round=>
  obtain⟨q,rv,pv,rfl,hq,m⟩:=hrel;clear aq;by_cases bd:q<j
  case neg=>
   have e:q=j:=by omega
   have HF:=ZZ (aT.o _ rv pv wr (Zjk d kind l q (e.trans aR.o)) m.o);generalize Jn d kind l q=g at *;obtain⟨ra,rc,au⟩:=m.o.log.recs.shape;obtain⟨pa,pc,aG⟩:=Je m.o.log.pcs;subst au aG;obtain⟨x0,-⟩:=m.o.log.blk.cell 0 rfl;obtain⟨x1,-⟩:=m.o.log.blk.cell 1 rfl;obtain⟨x2,-⟩:=m.o.log.blk.cell 2 rfl;obtain⟨z0,y0⟩:=m.o.out.cell 0 rfl;obtain⟨z1,y1⟩:=m.o.out.cell 1 rfl;obtain⟨z2,y2⟩:=m.o.out.cell 2 rfl;subst e;clear m aT;go_wp2;refine zax (v:=.agg #[.int .i64 g.first,.slice ra g.recs.length rc,.slice pa g.pcs.length pc]) (by simp[results,Tryz.results35,go_sem,z0,z1,z2]) rfl ?_
   exact HF.o
  have U:q<l.length:=by rw[<-aR.o];exact bd
  have bz:(q:Int)<(j:Int):=by omega
  have HS:Hid (Jn d kind l (q+1)=logOne d kind (Jn d kind l q) (l.getD q 0)):=ZZ (Zge d kind l q U);have E:=ZZ (az.o q);have aV:=ZZ (az.o (q+1));obtain⟨nq,aK⟩:=zg7 (l.getD q 0);obtain⟨ao,cap,bc,-,-,-,-,ap⟩:=m.o.row.rd HI.o
  injection bc with e1 e2 e3
  rcases ap with ap | ⟨bb,ag,bn,hc⟩
  ·rw[ap] at U;simp at U
  subst e1;subst bn;have cx:=hc q U;rw[<-aK] at cx HS
  have bg:Hid (I64 nq):=ZZ (HI.o nq (by
   rw[aK,show l.getD q 0=l[q] by simp[List.getD,U]]
   exact getElem_mem _))
  clear hc e2 e3 aK;have aU:=ZZ (bm.o nq bg.o wr m.o.old)
  go_wp2_with fail
  refine aU.o.mono ?_;rintro e W2 ⟨v2,rfl,av,aZ⟩;have ad:=ZZ (m.o.below aZ);have aY:=ZZ av.rd;obtain⟨a2,c2,bj,-⟩:=av.rd;subst bj;clear av aZ aU m cx;have aW:=ZZ (bi.o nq _ W2 aY.o);generalize (Zu d nq).2=er at *;generalize bp:(Zu d nq).1.length=bw at *;clear bp
  go_wp2_with fail
  refine aW.o.mono ?_;rintro e W3 ⟨x,O,Y,R,rfl,aQ,aA⟩;have A:=ZZ (ad.o.below aA);have ae:=ZZ aQ;clear aQ aW aY;obtain⟨sg,aI⟩:=zg7 (ZoZ (Zu d nq).1 kind);have ai:Hid (Jn d kind l (q+1)=ZAy (Jn d kind l q) nq sg):=ZZ (by rw[HS.o,aI];rfl)
  have aH:=ZZ (a8.o nq);rw[<-aI] at aH ae ⊢;generalize Jn d kind l q=g at *;obtain⟨C,P⟩:=zg7 (Jn d kind l (q+1));have ac:=ZZ P;rw[<-P] at ai aV;clear aI HS P
  cases sg with
  | none=>
   have I:Hid (Jn d kind l (q+1)=g):=ZZ (by rw[<-ac.o];exact ai.o)
   simp only [zed];clear aA ae ad;go_wp2;go_roundw
   case rel=>exact⟨q+1,rv,pv,by go_num,by omega,ZZ (by rw[I.o];exact A.o)⟩
   case measure=>simp[intOf];omega
  | some fl=>
   obtain⟨f,i⟩:=fl;obtain⟨rfl,aM⟩:=ae.o f i rfl;obtain⟨bu,a5⟩:=aH.o f i rfl;have a4:=ZZ a5;have aB:=ZZ aM;have aL:Hid (∀ k,Zka (w.heap.size+1) rv pv k->k<W2.heap.size):=ZZ ad.o.log.ltF;have aj:Hid (C=if g.pcs.length=0∨(f:Int)=g.next then(g.start nq f).add i else g):=ZZ ai.o
   simp only [zee];clear a5 aM aH ae ai aA
   have V:Hid (∀ W,Zgf w t (.slice (some ⟨bb,ag,none⟩) j K) l rv pv g W->Xl W W2.heap.size (.slice O Y R) i->Calls prog 53 #[.pointer (some ⟨w.heap.size+1,0,none⟩),.int .i64 nq,.int .i64 (f:Int)] W fun e w'=>e=.returned (.tuple #[])∧∃ G H,Hid (Zgf w t (.slice (some ⟨bb,ag,none⟩) j K) l G H (g.start nq f) w')∧Hid (RdR w' (.slice O Y R) i)):=ZZ (fun W u ho=>by
    refine(ZkM 73 (by decide) (by decide) (w.heap.size+1) 0 _ rv pv g nq f W u.log (by have:=E.o.pl;omega)).mono ?_
    rintro e w' ⟨rfl,hd⟩;obtain⟨G,H,aD,be⟩:=u.did hd;refine⟨rfl,G,H,ZZ aD,ZZ (Xl.rdF (B:=W2.heap.size) (Qh ho fun k hk=>?_) a4.o)⟩
    have bf:=zaz ho k hk;refine be.block k bf.2 fun hf=>?_
    have:=aL.o k hf
    omega)
   have z:Hid (C=(g.start nq f).add i->∀ G H W,Zgf w t (.slice (some ⟨bb,ag,none⟩) j K) l G H (g.start nq f) W->RdR W (.slice O Y R) i->Calls prog 54 #[.pointer (some ⟨w.heap.size+1,0,none⟩),.slice O Y R] W fun e w'=>e=.returned (.tuple #[])∧∃ aw ak,Hid (Zgf w t (.slice (some ⟨bb,ag,none⟩) j K) l aw ak ((g.start nq f).add i) w')):=ZZ (fun P G H W u hr=>by
    have aE:=aV.o.rl;rw[P] at aE
    have bv:(g.start nq f).recs.length+i.length<=9000000:=by
     have e:((g.start nq f).add i).recs=(g.start nq f).recs++i:=rfl;rw[e,length_append] at aE;exact aE
    have bD:(g.start nq f).pcs.length=g.pcs.length+1:=by
     show(g.pcs++[_]).length=_;simp
    refine(Zvy 73 (by decide) (by decide) (w.heap.size+1) 0 _ G H (g.start nq f) (.slice O Y R) i W u.log hr (by omega) (by have:=E.o.pl;omega) (by omega) (fun p hp=>?_)).mono ?_
    ·have hp':p ∈ g.pcs++[(⟨nq,f,f⟩:Pce)]:=hp
     rcases za2.1 hp' with hp' | hp'
     ·exact E.o.st p hp'
     ·rw[zaw.1 hp']
      show(0:Int)<=(f:Int)∧(f:Int)<=4611686018427387904;omega
    ·rintro e w' ⟨rfl,hd⟩
     obtain⟨aw,ak,aD,-⟩:=u.did hd
     exact⟨rfl,aw,ak,ZZ aD⟩)
   obtain⟨ra,rc,au⟩:=A.o.log.recs.shape;obtain⟨pa,pc,aG⟩:=Je A.o.log.pcs;subst au aG;obtain⟨x0,-⟩:=A.o.log.blk.cell 0 rfl;obtain⟨x1,-⟩:=A.o.log.blk.cell 1 rfl;obtain⟨x2,-⟩:=A.o.log.blk.cell 2 rfl;have bl:=E.o.f0;have bA:=E.o.f1;have bt:=E.o.rl;have bx:(g.pcs.length:Int)<=900000:=by have:=E.o.pl;omega
   have bk:g.first+(g.recs.length:Int)<=9000000000000000000:=by omega
   have aN:=ZZ (Zmb (w.heap.size+1) 0 g.first ra g.recs.length rc W3 x0 x1 bl bk);clear ad aL a4;by_cases Z:g.pcs.length=0
   ·have bq:((g.pcs.length:Int) == 0)=true:=by rw[zbi];omega
    have D:C=(g.start nq f).add i:=by rw[aj.o,zab (.inl Z)]
    have I:Hid (Jn d kind l (q+1)=(g.start nq f).add i):=ZZ (by rw[<-ac.o];exact D)
    replace z:=ZZ (z.o D)
    clear D Z
    go_wp2_with fail
    refine(V.o W3 A.o aB.o).mono ?_;rintro e W5 ⟨rfl,aF,aJ,S,M⟩;clear V
    go_wp2_with fail
    refine(z.o aF aJ W5 S.o M.o).mono ?_;rintro e W6 ⟨rfl,an,ar,ay⟩;clear z M S;go_wp2;go_roundw
    case rel=>exact⟨q+1,an,ar,by go_num,by omega,ZZ (by rw[I.o];exact ay.o)⟩
    case measure=>simp[intOf];omega
   have bq:((g.pcs.length:Int) == 0)=false:=zah.2 (by omega)
   go_wp2_with fail
   refine aN.o.mono ?_;rintro e W4 ⟨rfl,aC⟩;have aS:=ZZ (A.o.below aC);have ba:=ZZ (aB.o.below aC zL);clear aC aN A aB x0 x1 x2;by_cases y:(f:Int)=g.first+(g.recs.length:Int)
   ·have br:((f:Int) == g.first+(g.recs.length:Int))=true:=by rw[zbi];exact y
    have D:C=(g.start nq f).add i:=by rw[aj.o,zab (.inr y)]
    have I:Hid (Jn d kind l (q+1)=(g.start nq f).add i):=ZZ (by rw[<-ac.o];exact D)
    replace z:=ZZ (z.o D)
    clear D Z y
    go_wp2_with fail
    refine(V.o W4 aS.o ba.o).mono ?_;rintro e W5 ⟨rfl,aF,aJ,S,M⟩;clear V
    go_wp2_with fail
    refine(z.o aF aJ W5 S.o M.o).mono ?_;rintro e W6 ⟨rfl,an,ar,ay⟩;clear z M S;go_wp2;go_roundw
    case rel=>exact⟨q+1,an,ar,by go_num,by omega,ZZ (by rw[I.o];exact ay.o)⟩
    case measure=>simp[intOf];omega
   ·have br:((f:Int) == g.first+(g.recs.length:Int))=false:=zah.2 y
    have I:Hid (Jn d kind l (q+1)=g):=ZZ (by
     rw[<-ac.o,aj.o,zaa];rintro(h | h)
     ·exact Z h
     ·exact y h)
    clear Z y V z;go_wp2;go_roundw
    case rel=>exact⟨q+1,_,_,by go_num,by omega,ZZ (by rw[I.o];exact aS.o)⟩
    case measure=>simp[intOf];omega
theorem ZzM:(prog.info? 41).map (fun i=>(i.zero,i.size,i.bytes))=some (some (.agg #[.int .i64 0,.int .i64 0,.slice none 0 0,.bool false,.int .i64 0,.slice none 0 0]),6,80):=by kernel_rfl
def SlX (x:Q0 × Value × Value):Prop:=∃ a n c a' n' c',x.2.1=.slice a n c∧x.2.2=.slice a' n' c'
theorem Zqu (l:List (Q0 × Value × Value)) (h:∀ x ∈ l,SlX x):∀ u ∈ Xw l,u.oneCell'=true:=by
 induction l with
 | nil=>intro u hu;cases hu
 | cons c l d=>
  intro u hu;rw[Xw] at hu;rcases za2.1 hu with hu | hu
  ·obtain⟨a,n,k,a',n',g,e,b⟩:=h c (zbp ..)
   unfold snC at hu;rw[e,b] at hu;simp only [zbd,zc3,zfk] at hu;rcases hu with rfl | rfl | rfl | rfl | rfl | rfl <;> rfl
  ·exact d (fun x f=>h x (za6 _ f)) u hu
theorem Zfg (w:World) (ty:TypeId) (v:Value) (l:List (Q0 × Value × Value)) (h:w.ownsRow 0 41 6 v l.length (Xw l)) (c:Q0 × Value × Value) (a:SlX c) (q:l.length<=10000000):
 ∃ v' w',(Builtin.append_ #[74,74] ty #[v,.slice (some ⟨w.heap.size,0,none⟩) 1 1]).run prog (w.alloc (.cells (snC c) 41))=.ok v' w'∧
  w'.ownsRow 0 41 6 v' (l++[c]).length (Xw (l++[c]))∧(w.alloc (.cells (snC c) 41)).grownBy w' v.ownBlock∧(v'.ownBlock=v.ownBlock∨v'.ownBlock=some (w.heap.size+1)):=by
 obtain⟨i,n,d,b,m⟩:=zbx ZzM
 obtain⟨v',w',f,g,k,_,hl⟩:=zdf (P:=prog) (w.alloc (.cells (snC c) 41)) 0 74 ty 41 i _ 6 80 underlying74 n d b m rfl (by decide) v l.length (Xw l) (zb3 h _)
  ⟨w.heap.size,0,none⟩ 1 1 (Xw [c]) (ZdC [c]) (fun j u e=>by
   rw[zbn,za9,zas _ w.heap.size j _ 41 (0,0) (zak w _)]
   simpa[Xw] using e) (Zqu [c] (fun x p=>by rw[zaw.1 p];exact a)) (by unfold maxLen;omega) (by omega) (zap _)
 refine⟨v',w',f,?_,k,?_⟩
 ·rw[length_append,ZiC]
  exact g
 ·rcases hl with hl | hl
  ·exact .inl hl
  ·exact .inr (by rw[hl];simp)
theorem Zhc (w:World) {b:Array Oper} {rest:List Oper} {o:Oper} {a:Act} {Q:Exit->Act->World->Prop} (j:o.guard=none) (s x:Operand)
 (m:o.op=.call { callee:=.builtin .append,args:=#[s,x],argTypes:=#[74,74] })
 (v:Value) (l:List (Q0 × Value × Value)) (d:a.eval s=v) (h:w.ownsRow 0 41 6 v l.length (Xw l)) (c:Q0 × Value × Value) (f:SlX c) (q:a.eval x=.slice (some ⟨w.heap.size,0,none⟩) 1 1) (e:l.length<=10000000)
 (g:∀ v' w',w'.ownsRow 0 41 6 v' (l++[c]).length (Xw (l++[c]))->(w.alloc (.cells (snC c) 41)).grownBy w' v.ownBlock->(v'.ownBlock=v.ownBlock∨v'.ownBlock=some (w.heap.size+1))->
  wpList prog b Q rest (a.put o.dst v') w'):wpList prog b Q (o::rest) a (w.alloc (.cells (snC c) 41)):=
 zb0 j fun _ n=>by
  obtain⟨v',w',i,t,p,k⟩:=Zfg w o.type v l h c f e;unfold Oper.wp execOp;simp only [m,resolve,invoke,builtin,zbt,zbv,zbe,zch,map_cons,map_nil,d,q,i];exact n _ _ (g v' w' t p k)
theorem Zfh:∀ (a b:List (SDk->SDk × Int)) (x:SDk),Qv (a++b) x=if(Qv a x).2=0 then Qv b (Qv a x).1 else Qv a x
 | [],b,x=>by simp[Qv]
 | f::a,b,x=>by
  rw[zcq,Qv,Qv];by_cases h:(f x).2=0
  ·rw[zab h,zab h]
   exact Zfh a b _
  ·rw[zaa h,zaa h,zaa h]
def Zei (y:SDk):SDk × Int:=(y,0)
theorem Zds (g:SDk->SDk × Int) (y:SDk):(Qv [g] y).1=(g y).1∧(Qv [g] y).2=(g y).2:=by
 unfold Qv;split
 ·rename_i h
  exact⟨rfl,h.symm⟩
 ·exact⟨rfl,rfl⟩
theorem Zrx {α:Type} {l:List α} (a:i<l.length) (z:α):l.take (i+1)=l.take i++[l.getD i z]:=by
 rw[zdx a]
 congr 2
 simp[List.getD,a]
theorem Zot (gs:List (SDk->SDk × Int)) (x:SDk) (i:Nat) (b:i<gs.length) (a:(Qv (gs.take i) x).2=0):
 (Qv (gs.take (i+1)) x).1=(gs.getD i Zei (Qv (gs.take i) x).1).1∧(Qv (gs.take (i+1)) x).2=(gs.getD i Zei (Qv (gs.take i) x).1).2:=by
 rw[Zrx b Zei,Zfh,zab a];exact Zds _ _
theorem Zwg (gs:List (SDk->SDk × Int)) (x:SDk) (i:Nat) (c:i<gs.length) (e:(Qv (gs.take i) x).2=0) (f:(gs.getD i Zei (Qv (gs.take i) x).1).2≠0):
 (Qv gs x).1=(gs.getD i Zei (Qv (gs.take i) x).1).1∧(Qv gs x).2=(gs.getD i Zei (Qv (gs.take i) x).1).2:=by
 have b:=Zot gs x i c e
 have d:Qv gs x=Qv (gs.take (i+1)) x:=by
  have a:=Zfh (gs.take (i+1)) (gs.drop (i+1)) x;rw[zb9,zaa (by rw[b.2];exact f)] at a
  exact a
 rw[d];exact b
def ZtF (K0 Kc:Nat->Prop) (pd p:Nat) (r:SDk × Int) (N T:Nat) (X:(Nat->Prop)->World->Prop) (W:World) (e:Ending) (w':World):Prop:=
 e=.returned (.int .i64 r.2)∧∃ Kd:Nat->Prop,(∀ k,Kc k->Kd k)∧(∀ k,Kd k->k<w'.heap.size)∧Ql (fun k=>¬ K0 k) W w'∧SD Kd w' pd p r.1.1 r.1.2 N T∧(r.2=0->X Kd w')
theorem Zwh (b cap:Nat) (fs:Nat->Stp) (gs:List (SDk->SDk × Int)) (x:SDk) (N T f j:Nat) (w:World) (X:Nat->(Nat->Prop)->World->Prop) (K:gs.length<=1000000)
 (U:K0 b) (cs:Array Value) (B:Bk 153 w b cs) (P:∀ i,i<gs.length->cs[i]?=some (fs i).val)
 (S:∀ k,K2 k->k<w.heap.size) (H:SD K2 w pd p x.1 x.2 N T) (I:X 0 K2 w)
 (Q:∀ i,i<gs.length->∀ (a:Nat->Prop) W,(∀ k,K2 k->a k)->(∀ k,a k->k<W.heap.size)->Ql (fun k=>¬ K0 k) w W->(Qv (gs.take i) x).2=0->SD a W pd p (Qv (gs.take i) x).1.1 (Qv (gs.take i) x).1.2 (N+f*i) (T+j*i)->X i a W->
  Calls prog (fs i).g ((fs i).bd++(fs i).cp) W fun e w'=>ZtF K0 a pd p (gs.getD i Zei (Qv (gs.take i) x).1) (N+f*i+f) (T+j*i+j) (X (i+1)) W e w')
 (V:∀ i,i<gs.length->∀ args W,(callFunc (fs i).g args).run prog W=.ok (.enter (fs i).g args) W):
 Calls prog 62 #[.slice (some ⟨b,0,none⟩) gs.length cap] w fun e w'=>ZtF K0 K2 pd p (Qv gs x) (N+f*gs.length) (T+j*gs.length) (fun _ _=>True) w e w':=by
 refine(ZnR b 0 cap gs.length fs w
  (fun i W=>(Qv (gs.take i) x).2=0∧∃ a:Nat->Prop,(∀ k,K2 k->a k)∧(∀ k,a k->k<W.heap.size)∧Ql (fun k=>¬ K0 k) w W∧SD a W pd p (Qv (gs.take i) x).1.1 (Qv (gs.take i) x).1.2 (N+f*i) (T+j*i)∧X i a W)
  (fun c W=>(Qv gs x).2=c∧∃ a:Nat->Prop,(∀ k,K2 k->a k)∧(∀ k,a k->k<W.heap.size)∧Ql (fun k=>¬ K0 k) w W∧SD a W pd p (Qv gs x).1.1 (Qv gs x).1.2 (N+f*gs.length) (T+j*gs.length)) K ?_ ?_ V ?_).mono ?_
 ·rintro i W n ⟨-,a,-,-,L,-⟩
  rw[za9];exact((B.keep (L.block b B.lt (fun O=>O U))).cell i (P i n)).1
 ·rintro i W n ⟨u,a,m,t,l,q,J⟩
  refine(Q i n a W m t l u q J).mono ?_;rintro e w' ⟨rfl,F,C,G,D,E,R⟩;refine⟨_,rfl,fun d=>?_,fun d=>?_⟩
  ·obtain⟨A,y⟩:=Zot gs x i n u
   refine⟨by rw[y];exact d,F,fun k z=>C k (m k z),G,l.trans D (fun _ _ h=>h),?_,R d⟩
   rw[A,zg0,zg0,<-zb1,<-zb1];exact E
  ·obtain⟨A,y⟩:=Zwg gs x i n u d
   refine⟨y,F,fun k z=>C k (m k z),G,l.trans D (fun _ _ h=>h),?_⟩
   rw[A];refine E.mono ?_ ?_
   ·have:=Nat.mul_le_mul_left f (show i+1<=gs.length from n)
    rw[zg0] at this;omega
   ·have:=Nat.mul_le_mul_left j (show i+1<=gs.length from n)
    rw[zg0] at this;omega
 ·exact⟨rfl,K2,fun _ h=>h,S,Ql.refl _ _,by rw[Nat.mul_zero,Nat.mul_zero];exact H,I⟩
 ·rintro e w' ⟨c,rfl,u,M⟩
  by_cases v:c=0
  ·obtain⟨d,a,m,t,l,q,-⟩:=u v
   rw[take_length] at d q;exact⟨by rw[d,v],a,m,t,l,q,fun _=>trivial⟩
  ·obtain⟨d,a,m,t,l,q⟩:=M v
   exact⟨by rw[d],a,m,t,l,q,fun _=>trivial⟩
theorem J3.seqD {a:Nat->Prop} {r:SDk × Int} {N' T':Nat} {X:(Nat->Prop)->World->Prop} {e:Ending} (h:J3 a W pd p r N T e w') (i:∀ k,a k->k<W.heap.size) (l:∀ k,K0 k->a k) (j:N<=N') (f:T<=T') (d:Ql (fun k=>¬ a k) W w'->X a w'):ZtF K0 a pd p r N' T' X W e w':=by
 obtain⟨rfl,m,c⟩:=h;exact⟨rfl,a,fun _ h=>h,fun k b=>zay (i k b) c.size,c.mono (fun k b g=>b (l k g)),m.mono j f,fun _=>d c⟩
theorem Rd.keepK {l:List UInt8} (h:Rd w v l) (hv:l=[]∨∀ k,v.ownBlock=some k->K k) (e:Ql (fun k=>¬ K k) w w'):Rd w' v l:=by
 rcases hv with rfl | hv
 ·obtain⟨ao,cap,rfl,f,c,b,g⟩:=h
  exact⟨ao,cap,rfl,f,c,b,.inl rfl⟩
 ·exact h.only e fun k d a=>a (hv k d)
def Ge (n:Q0):List UInt8:=if Zs n then ZjN n else[]
theorem ZtG (n:Q0):(Ge n).length<=80000:=by
 unfold Ge;split
 ·rename_i h
  unfold ZjN ZaJ;rw[Q9,length_append];have e:=Zaz h;have c:=ZeI (i:=n.idx.toNat) (by have:=h.1;omega) (w:=Xt n) (by omega)
  have b:=Ga (d:=Zbl n.idx.toNat (Xt n)) (by omega)
  have a:=Zaq _ (Xt n) zL;omega
 ·exact zap _
theorem Zqv {v0:Value} (w:World) (h:SD K w pd p s d N T) (hR:w.cell? ⟨R,0,none⟩=some (ptr p)) (E:Bk 53 w Rb #[v0]) (G:K Rb):
 Calls prog 55 #[.pointer (some ⟨R,0,none⟩),.pointer (some ⟨Rb,0,none⟩)] w fun e w'=>e=.returned (.int .i64 (if Zs s.now then 0 else 1))∧∃ v',Bk 53 w' Rb #[v']∧Rd w' v' (Ge s.now)∧(∀ k,v'.ownBlock=some k->w.heap.size<=k∧k<w'.heap.size)∧
  SD (fun k=>K k∨(w.heap.size<=k∧k<w'.heap.size)) w' pd p s d N T∧Ql (fun k=>k=Rb) w w':=by
 have HS:=ZZ h;have m:=ZZ E;have aa:=ZZ G;obtain⟨F,M,I,L,h1,j,-⟩:=h;have u:=ZZ (ZpZ (snV (L.nx s)) s.now w j.now.snV);obtain⟨c0,-,-,-,-,⟨c5,c6,Z,c8,c9,ae⟩,-⟩:=j.cs;obtain⟨n,z,lc,t,x,y,U,V⟩:=j.now.shape;have A:L.nl=.slice n z lc:=U;have C:L.nt=.slice t x y:=V;have W:Hid (snV (L.nx s)=.agg #[.int .i64 s.now.idx,.int .i64 s.now.st.kind,.slice n z lc,.bool s.now.st.shut,.int .i64 s.now.st.eng,.slice t x y]):=ZZ (by unfold snV snC ZdD.nx;rw[A,C])
 rw[W.o] at u;rw[A] at Z;rw[C] at ae;obtain⟨q,l⟩:∃ q:Int,q=if Zs s.now then 0 else 1:=⟨_,rfl⟩
 have ac:Hid (Calls prog 56 #[.agg #[.int .i64 s.now.idx,.int .i64 s.now.st.kind,.slice n z lc,.bool s.now.st.shut,.int .i64 s.now.st.eng,.slice t x y]] w fun e w'=>∃ v',e=.returned (.tuple #[v',.int .i64 q])∧Own w' w.heap.size v' (Ge s.now)∧Below w.heap.size w w'):=ZZ (by rw[l];exact u.o)
 rw[<-l];have Y:Hid (Ge s.now=Ge s.now):=ZZ rfl;generalize Ge s.now=O at *;generalize s.now.idx=n0 at *;generalize s.now.st.kind=n1 at *;generalize s.now.st.shut=n2 at *;generalize s.now.st.eng=n3 at *;obtain⟨b0,f0⟩:=E.cell 0 rfl;clear h1 j U V A C W u l Y E G
 go_enter func55,ntmps55
 go_wp2_with fail
 refine ac.o.mono ?_;rintro e a ⟨v',rfl,B,D⟩;have P:=ZZ D;have H:=ZZ B;have S:=ZZ (m.o.keep (D.block _ m.o.lt));obtain⟨f,c,J,-⟩:=B.rd;generalize ab:O.length=g at J;clear ab;subst J;obtain⟨b1,f1⟩:=S.o.cell 0 rfl
 have ad:Hid (∃ v',Bk 53 (a.setCell ⟨Rb,0,none⟩ (.slice f g c)) Rb #[v']∧Rd (a.setCell ⟨Rb,0,none⟩ (.slice f g c)) v' O∧(∀ k,v'.ownBlock=some k->w.heap.size<=k∧k<(a.setCell ⟨Rb,0,none⟩ (.slice f g c)).heap.size)∧
  SD (fun k=>K k∨(w.heap.size<=k∧k<(a.setCell ⟨Rb,0,none⟩ (.slice f g c)).heap.size)) (a.setCell ⟨Rb,0,none⟩ (.slice f g c)) pd p s d N T∧Ql (fun k=>k=Rb) w (a.setCell ⟨Rb,0,none⟩ (.slice f g c))):=ZZ (by
  have X:(a.setCell ⟨Rb,0,none⟩ (.slice f g c)).heap.size=a.heap.size:=ZqX _ _ _ _;have Q:=zaz H.o;have af:=m.o.lt;have v:Ql (fun k=>k=Rb) a (a.setCell ⟨Rb,0,none⟩ (.slice f g c)):=(Ql.refl (fun k=>k=Rb) a).setCell (b:=Rb) 0 (fun _=>rfl) _
  refine⟨_,S.o.set 0 _,?_,fun k i=>by rw[X];exact Q k i,?_,(Ql.ofBelow P.o).trans v (fun _ _ h=>h)⟩
  ·exact H.o.rd.only v fun k i e=>by
    have:=Q k i;omega
  ·rw[X]
   exact(HS.o.fresh P.o).onlyK (v.mono (fun k i=>by rw[i];exact .inl aa.o)))
 clear B D;go_wp2;go_ret;exact⟨rfl,ad.o⟩
theorem ZtH (w:World) (h:SD K w pd p s d N T) (g:∀ k,K k->k<w.heap.size) (L:w.cell? ⟨R,0,none⟩=some (ptr p)) (n:Bk 53 w Rb #[v]) (a:Rd w v (Ge s.now)) (t:Ge s.now=[]∨∀ k,v.ownBlock=some k->K k) (D:N<=1000000) (x:T<=1000000000):
 Calls prog 57 #[.pointer (some ⟨R,0,none⟩),.pointer (some ⟨Rb,0,none⟩)] w fun e w'=>J3 K w pd p (ZbO (s,d)) (N+2) (T+80000) e w':=by
 have l:Hid (∀ W,Below w.heap.size w W->Calls prog 52 #[ptr pd,.int .i64 1,v] W fun e w'=>J3 K W pd p (ZbO (s,d)) (N+2) (T+80000) e w'):=ZZ (fun W c=>(h.below c).step (fun d=>Qy d 1 (Ge s.now)) (fun k b=>zay (g k b) c.size) (fun F E B=>by
  have Q:=ZtG s.now;refine(Zkx 1 ⟨by decide,by decide⟩ v (Ge s.now) W E (a.below c zL) (t.imp id fun h k b C=>B k C (h k b)) D x (by omega)).mono ?_
  rintro e w' ⟨A,F',z,y⟩
  exact⟨A,F',z.mono zL (by omega),y⟩))
 obtain⟨⟨H,-⟩,-⟩:=h.cells;have j:Hid (Below w.heap.size w w.drew):=ZZ (zac _ _).drew;obtain⟨M,-⟩:=n.cell 0 rfl;obtain⟨J,O,i,-⟩:=id a;generalize G:(Ge s.now).length=P at i;obtain⟨r,f⟩:=zg7 (ZbO (s,d));rw[<-f] at l ⊢;subst i;clear h g f a t n G
 go_enter func57,ntmps57
 go_upto_region 1 with fail
 go_region_with(first | (go_at_call 52;refine(l.o _ j.o).mono ?_;rintro e I ⟨rfl,m,u⟩;have q:=ZZ (And.intro m u);clear m u))
 all_goals
  go_wp2;go_ret;exact⟨rfl,q.o.1,(Ql.ofBelow j.o).trans q.o.2 (fun _ _ h=>h)⟩
def Zcu:List (SDk->SDk × Int):=[Q5,ZcE,Yy,ZbO,Xo (fun d=>Xz d 1),Gx,Qp]
theorem ZgG (x:SDk):(Qp x).1.1.now=x.1.now∧(Qp x).1.1.bases=x.1.bases∧(Qp x).1.1.log=x.1.log:=by
 unfold Qp;split <;> exact⟨rfl,rfl,rfl⟩
theorem Zjl (x:SDk):(Q5 x).1.1.now=x.1.now∧(Q5 x).1.1.bases=x.1.bases∧(Q5 x).1.1.log=x.1.log:=by
 unfold Q5;split
 ·exact⟨rfl,rfl,rfl⟩
 ·have h:=Zmf x
  split
  ·rcases h with h | h
   ·show(Yi (Qv [Q2,Qw] x).1.1).now=_∧_
    rw[h];exact⟨rfl,rfl,rfl⟩
   ·show(Yi (Qv [Q2,Qw] x).1.1).now=_∧_
    rw[h];exact⟨rfl,rfl,rfl⟩
  ·rcases h with h | h
   ·rw[h];exact⟨rfl,rfl,rfl⟩
   ·rw[h];exact⟨rfl,rfl,rfl⟩
theorem ZkY (x:SDk):(Yy x).1.1.now=x.1.now∧(Yy x).1.1.bases=x.1.bases∧(Yy x).1.1.log=x.1.log:=by
 unfold Yy;split <;> exact⟨rfl,rfl,rfl⟩
theorem Zwi (i:Nat) (x:SDk):(Zcu.getD i Zei x).1.1.now=x.1.now∧(Zcu.getD i Zei x).1.1.bases=x.1.bases∧(Zcu.getD i Zei x).1.1.log=x.1.log:=by
 match i with
 | 0=>exact Zjl x
 | 1=>exact⟨rfl,rfl,rfl⟩
 | 2=>exact ZkY x
 | 3=>exact⟨rfl,rfl,rfl⟩
 | 4=>exact⟨rfl,rfl,rfl⟩
 | 5=>exact⟨rfl,rfl,rfl⟩
 | 6=>exact ZgG x
 | n+7=>exact⟨rfl,rfl,rfl⟩
theorem Zwj {gs:List (SDk->SDk × Int)} (h:∀ g ∈ gs,∀ x,(g x).1.1.now=x.1.now∧(g x).1.1.bases=x.1.bases∧(g x).1.1.log=x.1.log):∀ x,(Qv gs x).1.1.now=x.1.now∧(Qv gs x).1.1.bases=x.1.bases∧(Qv gs x).1.1.log=x.1.log:=by
 induction gs with
 | nil=>exact fun x=>⟨rfl,rfl,rfl⟩
 | cons g gs d=>
  intro x;have a:=h g zbp x;unfold Qv;split
  ·obtain⟨f,e,c⟩:=d (fun g' b=>h g' (za6 _ b)) (g x).1
   exact⟨f.trans a.1,e.trans a.2.1,c.trans a.2.2⟩
  ·exact a
theorem ZkZ:∀ g ∈ Zcu,∀ x,(g x).1.1.now=x.1.now∧(g x).1.1.bases=x.1.bases∧(g x).1.1.log=x.1.log:=by
 intro g a x;obtain⟨i,b,rfl⟩:=zem.1 a;have:=Zwi i x
 rwa [show Zcu.getD i Zei=Zcu[i] by simp[List.getD,b]] at this
theorem Zwk (i:Nat) (x:SDk):(Qv (Zcu.take i) x).1.1.now=x.1.now∧(Qv (Zcu.take i) x).1.1.bases=x.1.bases∧(Qv (Zcu.take i) x).1.1.log=x.1.log:=Zwj (fun g a=>ZkZ g (zbz a)) x
theorem ZcU (x:SDk):(J1 x).1.1.now=x.1.now∧(J1 x).1.1.bases=x.1.bases∧(J1 x).1.1.log=x.1.log:=Zwj ZkZ x
def Zfi (p R Rb:Nat) (i:Nat):Stp:=
 match i with
 | 0=>⟨27,#[ptr p],#[]⟩
 | 1=>⟨55,#[],#[.pointer (some ⟨R,0,none⟩),.pointer (some ⟨Rb,0,none⟩)]⟩
 | 2=>⟨63,#[ptr p],#[]⟩
 | 3=>⟨57,#[],#[.pointer (some ⟨R,0,none⟩),.pointer (some ⟨Rb,0,none⟩)]⟩
 | 4=>⟨58,#[],#[.pointer (some ⟨R,0,none⟩)]⟩
 | 5=>⟨60,#[],#[.pointer (some ⟨R,0,none⟩)]⟩
 | _=>⟨64,#[ptr p],#[]⟩
def ZAz (p R Rb:Nat):Array Value:=#[(Zfi p R Rb 0).val,(Zfi p R Rb 1).val,(Zfi p R Rb 2).val,(Zfi p R Rb 3).val,(Zfi p R Rb 4).val,(Zfi p R Rb 5).val,(Zfi p R Rb 6).val]
def XC (R Rb p:Nat) (n:Q0) (i:Nat) (K:Nat->Prop) (W:World):Prop:=
 ∃ v,Bk 53 W Rb #[v]∧K Rb∧K R∧Bk 28 W R #[ptr p]∧(2<=i->Rd W v (Ge n)∧(Ge n=[]∨∀ k,v.ownBlock=some k->K k))
theorem XC.keep {n:Q0} {j:Nat} {W':World} (h:XC R Rb p n i K W) (b:2<=j->2<=i) (d:Ql (fun k=>¬ K k) W W'):XC R Rb p n j K W':=by
 obtain⟨v,g,m,l,f,c⟩:=h;exact⟨v,g.keep (d.block _ g.lt (fun e=>e m)),m,l,f.keep (d.block _ f.lt (fun e=>e l)),fun a=>⟨(c (b a)).1.keepK (c (b a)).2 d,(c (b a)).2⟩⟩
theorem XC.cell {n:Q0} (h:XC R Rb p n i K W):W.cell? ⟨R,0,none⟩=some (ptr p):=by
 obtain⟨v,c,e,d,a,b⟩:=h;exact(a.cell 0 rfl).1
theorem Zyh {Y:Nat} (w:World) (U:K0 Y) (V:∀ k,K0 k->K2 k) (O:¬ K0 Rb) (F:Bk 153 w Y (ZAz p R Rb)) (Q:∀ k,K2 k->k<w.heap.size) (C:SD K2 w pd p s d N T) (D:XC R Rb p s.now 0 K2 w) (t:ZpV s) (hN:N<=900000) (X:T<=90000000):
 Calls prog 62 #[.slice (some ⟨Y,0,none⟩) 7 7] w fun e w'=>ZtF K0 K2 pd p (J1 (s,d)) (N+28) (T+560000) (fun _ _=>True) w e w':=by
 refine Zwh (K0:=K0) (K2:=K2) Y 7 (Zfi p R Rb) Zcu (s,d) N T 4 80000 w (XC R Rb p s.now) (by decide) U (ZAz p R Rb) F ?_ Q C D ?_ ?_
 ·intro i q
  match i,q with
  | 0,_=>rfl
  | 1,_=>rfl
  | 2,_=>rfl
  | 3,_=>rfl
  | 4,_=>rfl
  | 5,_=>rfl
  | 6,_=>rfl
 ·intro i q g W M b g3 P f a
  have l:∀ k,K0 k->g k:=fun k hk=>M k (V k hk)
  have m:=(Zwk i (s,d)).1;have z:i=0->ZpV (Qv (Zcu.take i) (s,d)).1.1:=fun e=>by rw[e];exact t
  generalize (Qv (Zcu.take i) (s,d)).1=y at f m z ⊢;obtain⟨s',d'⟩:=y
  dsimp only at f m z
  generalize s.now=Z at m a ⊢;clear P C D F t;have S:i=0∨i=1∨i=2∨i=3∨i=4∨i=5∨i=6:=by have:i<7:=q;omega
  rcases S with rfl | rfl | rfl | rfl | rfl | rfl | rfl
  ·show Calls prog 27 #[ptr p] W fun e w'=>ZtF K0 g pd p (Q5 (s',d')) _ _ _ W e w'
   refine zcv (ZeX W f b (z rfl)) ?_;intro e w' h;exact h.seqD b l (by omega) (by omega) fun c=>a.keep (by omega) c
  ·show Calls prog 55 #[.pointer (some ⟨R,0,none⟩),.pointer (some ⟨Rb,0,none⟩)] W fun e w'=>ZtF K0 g pd p (ZcE (s',d')) _ _ _ W e w'
   obtain⟨v,n,x,u,j,B⟩:=id a;refine zcv (Zqv (R:=R) (Rb:=Rb) W f a.cell n x) ?_;rintro e w' ⟨rfl,v',L,E,J,K,A⟩;rw[m] at E
   have I:R≠Rb:=fun e=>by
    rw[e] at j;exact j.ne n (by decide) rfl
   refine⟨rfl,_,fun k hk=>.inl hk,fun k hk=>?_,A.mono (fun k hk t=>O (by rw[<-hk];exact t)),K.mono (by omega) (by omega),fun _=>⟨v',L,.inl x,.inl u,j.keep (A.block _ j.lt I),fun _=>⟨E,.inr fun k hk=>.inr (J k hk)⟩⟩⟩
   rcases hk with hk | hk
   ·exact zay (b k hk) A.size
   ·exact hk.2
  ·show Calls prog 63 #[ptr p] W fun e w'=>ZtF K0 g pd p (Yy (s',d')) _ _ _ W e w'
   refine zcv (Ztd W f b (by omega) (by omega)) ?_
   intro e w' h;exact h.seqD b l (by omega) (by omega) fun c=>a.keep (by omega) c
  ·show Calls prog 57 #[.pointer (some ⟨R,0,none⟩),.pointer (some ⟨Rb,0,none⟩)] W fun e w'=>ZtF K0 g pd p (ZbO (s',d')) _ _ _ W e w'
   obtain⟨v,n,x,u,j,B⟩:=id a;obtain⟨H,G⟩:=B (by decide)
   rw[<-m] at H G;refine zcv (ZtH (R:=R) (Rb:=Rb) W f b a.cell n H G (by omega) (by omega)) ?_
   intro e w' h;exact h.seqD b l (by omega) (by omega) fun c=>a.keep (by omega) c
  ·show Calls prog 58 #[.pointer (some ⟨R,0,none⟩)] W fun e w'=>ZtF K0 g pd p (Xo (fun d=>Xz d 1) (s',d')) _ _ _ W e w'
   refine zcv (Zqb (R:=R) W f b a.cell) ?_;intro e w' h;exact h.seqD b l (by omega) (by omega) fun c=>a.keep (by omega) c
  ·show Calls prog 60 #[.pointer (some ⟨R,0,none⟩)] W fun e w'=>ZtF K0 g pd p (Gx (s',d')) _ _ _ W e w'
   obtain⟨v,n,x,u,j,B⟩:=id a;refine zcv (Zqc (R:=R) W f b a.cell u (by omega) (by omega)) ?_
   intro e w' h;exact h.seqD b l (by omega) (by omega) fun c=>a.keep (by omega) c
  ·show Calls prog 64 #[ptr p] W fun e w'=>ZtF K0 g pd p (Qp (s',d')) _ _ _ W e w'
   refine zcv (ZcL W f b) ?_;intro e w' h;exact h.seqD b l (by omega) (by omega) fun c=>a.keep (by omega) c
 ·intro i q
  match i,q with
  | 0,_=>exact enters_of func27 (by kernel_rfl) rfl
  | 1,_=>exact enters_of func55 (by kernel_rfl) rfl
  | 2,_=>exact enters_of func63 (by kernel_rfl) rfl
  | 3,_=>exact enters_of func57 (by kernel_rfl) rfl
  | 4,_=>exact enters_of func58 (by kernel_rfl) rfl
  | 5,_=>exact enters_of func60 (by kernel_rfl) rfl
  | 6,_=>exact enters_of func64 (by kernel_rfl) rfl
def Zyi (w:World) (s:St) (e:Ending) (w':World):Prop:=∃ vl,e=.returned (.agg #[.int .i64 s.kind,vl,.bool s.shut,.int .i64 s.eng])∧RdI w' vl s.L∧I64 s.kind∧I64 s.eng∧(∀ b,vl.ownBlock=some b->w.heap.size<=b)∧Below w.heap.size w w'
theorem ZtI (kind:Int) (w:World):Calls prog 16 #[.int .i64 kind] w fun e w'=>Zyi w (Gu kind) e w':=by
 have l:I64 0:=Qo (by decide) (by decide)
 have g:Hid (∀ x,Below w.heap.size w (w.alloc x)):=fun x=>(zac _ _).alloc zL x
 have n:Hid (∀ x y,Below w.heap.size w ((w.alloc x).alloc y)):=fun x y=>(g.o x).alloc (by simp) y
 have c:=Qc l;clear l;by_cases i:kind<0∨6<=kind
 ·have d:Hid (Gu kind=⟨0,[],false,0⟩):=zab i
  rw[d.o];have A:(kind == 0)=false:=zah.2 (by omega)
  have B:(kind == 1)=false:=zah.2 (by omega)
  have u:(kind == 2)=false:=zah.2 (by omega)
  have z:(kind == 3)=false:=zah.2 (by omega)
  have t:(kind == 4)=false:=zah.2 (by omega)
  have q:(kind == 5)=false:=zah.2 (by omega)
  clear i d
  go_enter func16,ntmps16
  go_wp2;refine zax (v:=.agg #[.int .i64 0,.slice none 0 0,.bool false,.int .i64 0]) (by simp[results,Tryz.results16,go_sem]) rfl ?_
  exact⟨_,rfl,RdI.nil _,c.out,c.out,(fun b a=>by cases a),g.o _⟩
 ·have f:Hid (I64 kind):=Qo (by omega) (by omega)
  by_cases j:kind<=1
  ·have d:Hid (Gu kind=⟨kind,[0],false,0⟩):=by
    unfold Gu;rw[zaa i,zab j];exact rfl
   rw[d.o];have k:kind=0∨kind=1:=by omega
   clear i j d
   have m:Hid (∀ x,RdI ((w.alloc x).alloc (.cells #[.int .i64 0] 3)) (.slice (some ⟨w.heap.size+1,0,none⟩) 1 1) [0]):=fun x=>by
    have h:=RdI.one (w.alloc x) 0 c.out;have e:(w.alloc x).heap.size=w.heap.size+1:=by simp
    rwa [e] at h
   rcases k with rfl | rfl
   ·go_enter func16,ntmps16
    go_wp2;refine zax (v:=.agg #[.int .i64 0,.slice (some ⟨w.heap.size+1,0,none⟩) 1 1,.bool false,.int .i64 0]) (by simp[results,Tryz.results16,go_sem]) rfl ?_
    exact⟨_,rfl,m.o _,f.o,c.out,(fun b a=>by have p:w.heap.size+1=b:=zaq a;omega),n.o _ _⟩
   ·go_enter func16,ntmps16
    go_wp2;refine zax (v:=.agg #[.int .i64 1,.slice (some ⟨w.heap.size+1,0,none⟩) 1 1,.bool false,.int .i64 0]) (by simp[results,Tryz.results16,go_sem]) rfl ?_
    exact⟨_,rfl,m.o _,f.o,c.out,(fun b a=>by have p:w.heap.size+1=b:=zaq a;omega),n.o _ _⟩
  ·have d:Hid (Gu kind=⟨kind,[],false,0⟩):=by
    unfold Gu;rw[zaa i,zaa j];exact rfl
   rw[d.o];have k:kind=2∨kind=3∨kind=4∨kind=5:=by omega
   clear i j d;rcases k with rfl | rfl | rfl | rfl
   ·go_enter func16,ntmps16
    go_wp2;refine zax (v:=.agg #[.int .i64 2,.slice none 0 0,.bool false,.int .i64 0]) (by simp[results,Tryz.results16,go_sem]) rfl ?_
    exact⟨_,rfl,RdI.nil _,f.o,c.out,(fun b a=>by cases a),g.o _⟩
   ·go_enter func16,ntmps16
    go_wp2;refine zax (v:=.agg #[.int .i64 3,.slice none 0 0,.bool false,.int .i64 0]) (by simp[results,Tryz.results16,go_sem]) rfl ?_
    exact⟨_,rfl,RdI.nil _,f.o,c.out,(fun b a=>by cases a),g.o _⟩
   ·go_enter func16,ntmps16
    go_wp2;refine zax (v:=.agg #[.int .i64 4,.slice none 0 0,.bool false,.int .i64 0]) (by simp[results,Tryz.results16,go_sem]) rfl ?_
    exact⟨_,rfl,RdI.nil _,f.o,c.out,(fun b a=>by cases a),g.o _⟩
   ·go_enter func16,ntmps16
    go_wp2;refine zax (v:=.agg #[.int .i64 5,.slice none 0 0,.bool false,.int .i64 0]) (by simp[results,Tryz.results16,go_sem]) rfl ?_
    exact⟨_,rfl,RdI.nil _,f.o,c.out,(fun b a=>by cases a),g.o _⟩
structure Gy (w:World) (I:Nat->Prop) (v:Value) (l:List Int) (bv:Value) (bs:List (Q0 × Value × Value)) (wr:World):Prop where
 row:wr.ownsRow 0 41 6 bv bs.length (Xw bs)
 far:∀ k,bv.ownBlock=some k->w.heap.size<=k
 each:∀ x ∈ bs,SnR wr x
 ibs:∀ x ∈ bs,Zma I x
 lo:∀ k,I k->w.heap.size<=k
 ltI:∀ k,I k->k<wr.heap.size
 dis:∀ k,I k->bv.ownBlock≠some k
 nms:Qt wr w.heap.size v l
 old:Below w.heap.size w wr
theorem Gy.ltB (h:Gy w I v l bv bs wr):∀ k,bv.ownBlock=some k->k<wr.heap.size:=fun k b=>by
 obtain⟨c,a⟩:=X5 h.row b;exact a.lt
theorem Gy.below (h:Gy w I v l bv bs wr) (a:Below wr.heap.size wr w'):Gy w I v l bv bs w':=
 ⟨Qh h.row fun k b=>a.block k (h.ltB k b),h.far,fun x c=>(h.each x c).below a zL,h.ibs,h.lo,fun k b=>zay (h.ltI k b) a.size,h.dis,h.nms.below a zL,h.old.trans (a.mono h.old.size)⟩
theorem Gy.add (h:Gy w I v l bv bs wr) (n:Below wr.heap.size wr W) (x:Q0 × Value × Value) (z:SnR W x)
 (j:Zma (fun k=>wr.heap.size<=k∧k<W.heap.size) x) {f:Value} {w':World} (q:w'.ownsRow 0 41 6 f (bs++[x]).length (Xw (bs++[x]))) (i:(W.alloc (.cells (snC x) 41)).grownBy w' bv.ownBlock) (hv:f.ownBlock=bv.ownBlock∨f.ownBlock=some (W.heap.size+1)):
 Gy w (fun k=>I k∨(wr.heap.size<=k∧k<W.heap.size)) v l f (bs++[x]) w':=by
 have B:=n.size;have C:=h.old.size;have D:W.heap.size+1<=w'.heap.size:=by have:=i.size;simpa using this
 have hk:∀ k,k<W.heap.size->bv.ownBlock≠some k->w'.heap[k]?=W.heap[k]?:=fun k hk p=>by
  rw[i.block k (by simp;omega) (fun e=>p e.symm),zav _ _ _ hk]
 have b:=h.below n
 have a:∀ k,(I k∨(wr.heap.size<=k∧k<W.heap.size))->k<W.heap.size∧bv.ownBlock≠some k:=fun k hk=>by
  rcases hk with hk | hk
  ·exact⟨b.ltI k hk,h.dis k hk⟩
  ·refine⟨hk.2,fun e=>?_⟩
   have:=h.ltB k e;omega
 refine⟨q,fun k hk'=>?_,fun y hy=>?_,fun y hy=>?_,fun k hk'=>?_,fun k hk'=>?_,fun k hk' e=>?_,Qh b.nms fun k hk'=>?_,b.old.trans ?_⟩
 ·rcases hv with hv | hv
  ·exact h.far k (by rw[<-hv];exact hk')
  ·rw[hv] at hk'
   have:=zaq hk';omega
 ·rcases za2.1 hy with hy | hy
  ·exact(b.each y hy).keep (h.ibs y hy) fun g d=>hk g (a g (.inl d)).1 (a g (.inl d)).2
  ·rw[zaw.1 hy]
   exact z.keep j fun g d=>hk g (a g (.inr d)).1 (a g (.inr d)).2
 ·rcases za2.1 hy with hy | hy
  ·exact(h.ibs y hy).mono fun k hk'=>.inl hk'
  ·rw[zaw.1 hy]
   exact j.mono fun k hk'=>.inr hk'
 ·rcases hk' with hk' | hk'
  ·exact h.lo k hk'
  ·omega
 ·have:=(a k hk').1
  omega
 ·have A:=a k hk'
  rcases hv with hv | hv
  ·exact A.2 (by rw[<-hv];exact e)
  ·rw[hv] at e
   have:=zaq e;omega
 ·obtain⟨c,m⟩:=X5 b.nms hk'
  refine hk k m.lt fun e=>?_
  obtain⟨c',t⟩:=X5 b.row e;exact(m.ne t (by decide)) rfl
 ·exact(Ql.trans (F:=fun k=>bv.ownBlock=some k) ((Ql.refl _ W).alloc _) (Ql.ofGrown (F:=fun k=>bv.ownBlock=some k) i fun k e _=>e) (fun _ _ u=>u)).below (by omega) fun k e=>h.far k e
def Zdw (d:Dk) (kind:Int) (l:List Int) (q:Nat):List Q0:=(l.take q).foldl (Jv d kind) [Jd kind]
theorem Zla (d:Dk) (kind:Int) (l:List Int) (q:Nat) (a:q<l.length):Zdw d kind l (q+1)=Jv d kind (Zdw d kind l q) (l.getD q 0):=by
 unfold Zdw;rw[zcl,zdq,show l.getD q 0=l[q] by simp[List.getD,a]]
 simp[a]
theorem Zou (d:Dk) (kind:Int) (l:List Int) (q:Nat) (a:q=l.length):Zdw d kind l q=l.foldl (Jv d kind) [Jd kind]:=by
 subst a;unfold Zdw;rw[take_length]
theorem Zqw (d:Dk) (kind:Int) (l:List Q0) (n:Int):(Jv d kind l n).length<=l.length+1:=by
 unfold Jv;split
 ·simp
 ·omega
theorem Zjm (d:Dk) (kind:Int) (l:List Int):∀ q,q<=l.length->(Zdw d kind l q).length<=q+1
 | 0,_=>by simp[Zdw]
 | q+1,h=>by
  rw[Zla d kind l q (by omega)]
  have:=Zqw d kind (Zdw d kind l q) (l.getD q 0);have:=Zjm d kind l q (by omega)
  omega
def Zov (w:World) (l:List Q0) (e:Ending) (w':World):Prop:=
 ∃ bv bs I v0 l0,e=.returned bv∧bs.map Prod.fst=l∧Gy w I v0 l0 bv bs w'
theorem ZmA (kind:Int) (w:World) (h:Dsk F w p d N T) (hN:N<=1000000) (hT:T<=1000000000) (av:∀ n,(Zu d n).1.length<=90000):
 Calls prog 34 #[ptr p,.int .i64 kind] w fun e w'=>Zov w (Ya d kind) e w':=by
 have ae:=ZZ (fun W (hb:Below w.heap.size w W)=>Zci 3 W (h.below hb) hN (by omega) (by omega))
 have aX:=ZZ (fun n (G:I64 n) W (hb:Below w.heap.size w W)=>Znr n G W (h.below hb) hT)
 have aR:=ZZ (fun n vb W (hr:Rd W vb (Zu d n).1)=>Zqq vb _ W hr (by have:=av n;omega))
 have HI:Hid (∀ n ∈ Xm (Qk d) 3,I64 n):=ZZ (by
  obtain⟨L,g1,O,-⟩:=h
  exact fun n G=>by
   have:=Zbg O n (za3.1 G).1
   exact⟨by omega,by omega⟩)
 have ad:Hid ((Xm (Qk d) 3).length<=1000000):=ZZ (by
  obtain⟨L,g1,O,g3,-⟩:=h;have h3:=Zbq d d.waits.length;rw[Zdg] at h3;have:=g3.names;refine zau (zdh _ _) ?_;unfold Qk;rw[length_map]
  omega)
 have aN:Ya d kind=(Xm (Qk d) 3).foldl (Jv d kind) [Jd kind]:=rfl;rw[aN];clear h av aN;obtain⟨l,hl⟩:=zg7 (Xm (Qk d) 3);rw[<-hl] at ae HI ad ⊢;clear hl;have aO:=ZZ (ZtI kind w)
 go_enter func34,ntmps34
 go_wp2_with fail
 refine aO.o.mono ?_;rintro e f ⟨vl,rfl,aa,ar,au,az,B⟩;obtain⟨la,lc,aZ,-⟩:=id aa;subst aZ;obtain⟨i,R⟩:∃ i:Q0 × Value × Value,i=(Jd kind,.slice la (Gu kind).L.length lc,.slice none 0 0):=⟨_,rfl⟩;obtain⟨u,A⟩:=zg7 (f.alloc (.cells #[.int .i64 0,.int .i64 (Gu kind).kind,.slice la (Gu kind).L.length lc,.bool (Gu kind).shut,.int .i64 (Gu kind).eng,.slice none 0 0] 41));have U:Hid (Below w.heap.size w u):=ZZ (by rw[A];exact B.alloc B.size _)
 have ax:Hid (Below f.heap.size f u):=ZZ (by rw[A];exact Z3 _ _)
 have aU:u.heap.size=f.heap.size+1:=by rw[A];simp
 have aJ:Hid (u.ownsRow 0 41 6 (.slice (some ⟨f.heap.size,0,none⟩) 1 1) [i].length (Xw [i])):=ZZ (by
  have v:=zgr (base:=0) (e:=41) f (snC i) 1 (zap _) (by unfold maxLen;omega) (size:=6) rfl
  rw[A];have h8:Xw [i]=(snC i).toList:=by simp[Xw]
  rw[h8];rw[R] at v ⊢
  exact v)
 have ay:Hid (SnR f i):=ZZ (by rw[R];exact⟨aa,RdE.nil _,ar,au,(Qo (by decide) (by decide):I64 0)⟩)
 have aC:Hid (Zma (fun k=>w.heap.size<=k∧k<f.heap.size) i):=ZZ (by
  rw[R];refine⟨?_,.inl rfl⟩;rcases aa.block with hb0 | ⟨-,k,b,J⟩
  ·exact .inl hb0
  ·refine .inr fun g t=>⟨az g t,?_⟩
   have am:(Value.slice la (Gu kind).L.length lc).ownBlock=some g:=t;rw[am] at b;obtain rfl:=zaq b
   exact J)
 have aK:Hid (i.1=Jd kind):=ZZ (by rw[R])
 have C:Hid (w.heap.size<=f.heap.size):=ZZ B.size;clear aa ar au az B aO R;generalize (Gu kind).kind=sk at *;generalize (Gu kind).L.length=sl at *;generalize (Gu kind).shut=ss at *;generalize (Gu kind).eng=se at *
 go_upto_region 2 with fail
 rw[<-A];clear A
 go_wp2_with fail
 refine(ae.o u U.o).mono ?_;rintro e W3 ⟨v3,rfl,ac,P⟩
 have ag:Hid (Gy w (fun k=>w.heap.size<=k∧k<f.heap.size) v3 l (.slice (some ⟨f.heap.size,0,none⟩) 1 1) [i] W3):=ZZ (by
  have a7:=P.size;have bc:=C.o;refine⟨Qh aJ.o fun k b=>P.block k ?_,fun k b=>?_,fun x m=>?_,fun x m=>?_,fun k b=>b.1,fun k b=>by omega,fun k b e=>?_,ac.mono U.o.size,U.o.trans (P.mono U.o.size)⟩
  ·have v:f.heap.size=k:=zaq b
   omega
  ·have v:f.heap.size=k:=zaq b
   omega
  ·rw[zaw.1 m]
   exact(ay.o.below ax.o zL).below P zL
  ·rw[zaw.1 m]
   exact aC.o
  ·have v:f.heap.size=k:=zaq e
   omega)
 obtain⟨a3,c3,a2⟩:∃ a c,v3=.slice a l.length c:=ac.shape;subst a2;obtain⟨j,V⟩:=zg7 l.length;rw[<-V] at ag ad;rw[<-V];have aB:=ZZ V;have ba:=ad.o;have a9:(j:Int)<=1000000:=by omega
 clear ac P ae V ay aC aJ ax U C aU;go_wp2
 go_loopw[5,19] (fun vb vi wr=>∃ (q:Nat) (a:Option Addr) (n c:Nat) (I:Nat->Prop) (bs:List (Q0 × Value × Value)),vi=.int .i64 (q:Int)∧q<=j∧vb=.slice a n c∧Hid (bs.map Prod.fst=Zdw d kind l q)∧Hid (Gy w I (.slice a3 j c3) l (.slice a n c) bs wr)) (fun _ vi _=>j-(intOf vi).toNat)
 case atStart=>exact⟨0,_,_,_,_,_,rfl,zap _,rfl,ZZ (by rw[map_cons,aK.o];rfl),ag⟩
 case round=>
  obtain⟨q,a,n,c,I,bs,rfl,hq,rfl,S,D⟩:=hrel;clear ag aK;by_cases J:q<j
  case neg=>
   have e:q=j:=by omega
   have HF:Hid (Zov w (l.foldl (Jv d kind) [Jd kind]) (.returned (.slice a n c)) wr):=ZZ ⟨_,bs,I,_,_,rfl,S.o.trans (Zou d kind l q (e.trans aB.o)),D.o⟩;subst e;clear D S;go_wp2
   try rw[ze1]
   go_ret;exact HF.o
  have Q:q<l.length:=by rw[<-aB.o];exact J
  have a8:(q:Int)<(j:Int):=by omega
  have HS:Hid (Zdw d kind l (q+1)=Jv d kind (Zdw d kind l q) (l.getD q 0)):=ZZ (Zla d kind l q Q)
  have aQ:Hid (bs.length<=10000000):=ZZ (by
   have v:=Zjm d kind l q (by omega)
   rw[<-S.o,length_map] at v
   omega)
  obtain⟨nq,an⟩:=zg7 (l.getD q 0);obtain⟨ao,cap,aP,-,-,-,-,af⟩:=D.o.nms.rd HI.o
  injection aP with e1 e2 e3
  rcases af with af | ⟨bb,aW,aY,hc⟩
  ·rw[af] at Q;simp at Q
  subst e1;subst aY;have cx:=hc q Q;rw[<-an] at cx HS
  have aT:Hid (I64 nq):=ZZ (HI.o nq (by
   rw[an,show l.getD q 0=l[q] by simp[List.getD,Q]]
   exact getElem_mem _))
  clear hc e2 e3 an;have aH:=ZZ (aX.o nq aT.o wr D.o.old)
  go_wp2_with fail
  refine aH.o.mono ?_;rintro e W4 ⟨v4,rfl,ai,aM⟩;have aD:=ZZ (D.o.below aM);have aE:=ZZ ai.rd;obtain⟨a4,c4,a1,-⟩:=ai.rd;subst a1;clear ai aM aH D cx;have aF:=ZZ (aR.o nq _ W4 aE.o);have C:Hid (Zdw d kind l (q+1)=if(ZmW (Zu d nq).1).2=0∧(ZmW (Zu d nq).1).1.st.kind=kind then Zdw d kind l q++[(ZmW (Zu d nq).1).1] else Zdw d kind l q):=ZZ (by rw[HS.o];rfl)
  generalize (Zu d nq).2=er at *;generalize ZmW (Zu d nq).1=dn at *;generalize a0:(Zu d nq).1.length=a6 at *;obtain⟨⟨ix,⟨kd,L,sh,Y⟩,tb⟩,ab⟩:=dn;clear a0
  dsimp only at C
  go_wp2_with fail
  refine aF.o.mono ?_;rintro e y ⟨vx,vu,rfl,M,r2,r3,H,r5,g1,O,ak⟩
  dsimp only at M r2 r3 H r5 ⊢
  have aG:Hid (SnR y (⟨ix,⟨kd,L,sh,Y⟩,tb⟩,vx,vu)):=ZZ ⟨M,H,r2,r3,r5⟩
  have aq:Hid (Zma (fun k=>W4.heap.size<=k∧k<y.heap.size) (⟨ix,⟨kd,L,sh,Y⟩,tb⟩,vx,vu)):=ZZ (by
   refine⟨?_,?_⟩
   ·rcases M.block with hb0 | ⟨-,k,b,J⟩
    ·exact .inl hb0
    ·refine .inr fun g t=>⟨g1 g t,?_⟩
     have am:vx.ownBlock=some g:=t;rw[am] at b;obtain rfl:=zaq b;exact J
   ·rcases H.block with hb0 | hb0
    ·exact .inl hb0
    ·exact .inr fun g t=>⟨O g t,hb0 g t⟩)
  have aw:=ZZ ak;have aV:=ZZ (aD.o.below ak);obtain⟨xa,xc,m,-⟩:=id M;obtain⟨ua,uc,hu⟩:=H.shape;subst m hu;clear aF aE M r2 r3 H r5 g1 O ak;generalize L.length=xl at *;generalize tb.length=ul at *;obtain⟨x,m⟩:∃ x:Q0 × Value × Value,x=(⟨ix,⟨kd,L,sh,Y⟩,tb⟩,.slice xa xl xc,.slice ua ul uc):=⟨_,rfl⟩;have HX:=ZZ m;rw[<-m] at aG aq;clear m;have Z:Hid (∀ X,Gy w I (.slice (some ⟨bb,aW,none⟩) j c3) l (.slice a n c) bs (y.alloc X)):=ZZ (fun X=>aV.o.below (Z3 _ _))
  have aj:Hid (¬ (ab=0∧kd=kind)->bs.map Prod.fst=Zdw d kind l (q+1)):=ZZ (fun G=>by rw[S.o,C.o,zaa G])
  by_cases z:ab=0
  case neg=>
   have hb0:(ab == 0)=false:=zah.2 z;have K:=ZZ (aj.o fun hh=>z hh.1)
   clear z;go_wp2;go_roundw
   case rel=>exact⟨q+1,a,n,c,I,bs,by go_num,by omega,rfl,K,ZZ (Z.o _)⟩
   case measure=>simp[intOf];omega
  have hb0:(ab == 0)=true:=by rw[zbi];exact z
  by_cases E:kd=kind
  case neg=>
   have B:(kd == kind)=false:=zah.2 E;have K:=ZZ (aj.o fun hh=>E hh.2)
   clear z E;go_wp2;go_roundw
   case rel=>exact⟨q+1,a,n,c,I,bs,by go_num,by omega,rfl,K,ZZ (Z.o _)⟩
   case measure=>simp[intOf];omega
  have B:(kd == kind)=true:=by rw[zbi];exact E
  have K:Hid ((bs++[x]).map Prod.fst=Zdw d kind l (q+1)):=ZZ (by
   rw[C.o,zab ⟨z,E⟩,zc1,S.o,HX.o]
   rfl)
  have a5:Hid (SlX x):=ZZ (by rw[HX.o];exact⟨_,_,_,_,_,_,rfl,rfl⟩)
  have ap:Hid (snC x=#[.int .i64 ix,.int .i64 kd,.slice xa xl xc,.bool sh,.int .i64 Y,.slice ua ul uc]):=ZZ (by rw[HX.o];rfl)
  clear z E
  go_wp2_with(at_builtin;refine(fun(h:True->_)=>h trivial) ?_)
  intro _;rw[<-ap.o];have aA:Hid (Value.slice (some ⟨y.heap.size+1,0,none⟩) 1 1=.slice (some ⟨(y.alloc (.cells (snC x) 41)).heap.size,0,none⟩) 1 1):=ZZ (by simp)
  refine Zhc (y.alloc (.cells (snC x) 41)) rfl _ _ rfl (.slice a n c) bs rfl (Z.o _).row x a5.o (by exact aA.o) aQ.o ?_
  intro v7 W7 al aL aI;have aS:=ZZ (aD.o.add (aw.o.trans ((Z3 _ _).mono aw.o.size)) x (aG.o.below (Z3 y (.cells (snC x) 41)) zL) (aq.o.mono fun k b=>⟨b.1,by simp;omega⟩) al aL aI)
  obtain⟨y1,y3,hy⟩:=Je al;generalize (bs++[x]).length=y2 at hy;subst hy;clear al aL aI aA ap Z aj;go_wp2;go_roundw
  case rel=>exact⟨q+1,y1,y2,y3,_,bs++[x],by go_num,by omega,rfl,K,aS⟩
  case measure=>simp[intOf];omega
theorem ZgH (first:Int):∀ (B:List (List UInt8)) (a:List Rec),(∀ r ∈ a,Q1 r)->∀ r ∈ Yu first B a,Q1 r
 | [],a,h=>by
  rw[Yu];exact h
 | d::t,a,h=>by
  rw[ZaD]
  cases hd:ZdU d with
  | none=>exact h
  | some l=>
   dsimp only
   split
   ·refine ZgH first t (a++l) fun r hr=>?_
    rcases za2.1 hr with hr | hr
    ·exact h r hr
    ·exact(ZfK hd).1.2.2.1 r hr
   ·exact h
theorem Zyj (a:Zbz H kind=some f):f<4611686018427387904:=by
 unfold Zbz at a;split at a
 ·rename_i v k c b
  split at a
  ·have:=(Zcj b).2.2.2.2
   rw[<-zaq a];exact this
  ·cases a
 ·cases a
theorem Zwl {b:List UInt8} {l:List Rec} (h:ZoZ b kind=some (f,l)):f<4611686018427387904∧∀ r ∈ l,Q1 r:=by
 rw[Zmz] at h;unfold Zqs at h
 cases hL:(Qq b).1 with
 | nil=>rw[hL] at h;cases h
 | cons H B=>
  rw[hL] at h
  dsimp only at h
  cases hh:Zbz H kind with
  | none=>rw[hh] at h;cases h
  | some d=>
   rw[hh] at h;have c:=zaq h
   injection c with e1 e2
   subst e1;exact⟨Zyj hh,by rw[<-e2];exact ZgH _ B [] fun r a=>by cases a⟩
end Go.Proofs.YtnahjngbneicaaaGreatDoor
