import Derived.Test.YtfiffndhehkapaaGreatDoorStoreRunL
namespace Go.Proofs.YtfiffndhehkapaaGreatDoor
set_option maxRecDepth 100000
open Go.RowKit
def Zot (kind room:Int):Run:=((ZsY kind,ZlH room),[])
def ZAx (kind room:Int) (l:List SOp):Run:=l.foldl Zel (Zot kind room)
theorem Zzi {kind room:Int} (h0:0<=kind) (h1:kind<6) (l:List SOp):Zcw (ZAx kind room l).1 (ZAx kind room l).2 l.length:=by
 have:=Zcw.run l (x:=Zot kind room) (Zop room kind h0 h1)
 rw[Nat.zero_add] at this
 exact this
theorem ZxC {x:Run} (h:∀ r ∈ x.2,Zaz r) (o:SOp):∀ r ∈ (Zel x o).2,Zaz r:=by
 unfold Zel
 split
 ·show ∀ r ∈ (if(Zby (Zcn x.1.1.next o) x.1).2=0 then x.2++Zcn x.1.1.next o else x.2),Zaz r
  split
  ·rename_i hc
   intro r hr
   rcases List.mem_append.1 hr with hr | hr
   ·exact h r hr
   ·unfold Zby at hc
    split at hc
    ·cases hc
    ·rename_i hf
     exact(Classical.not_not.1 hf).2.2.1 r hr
  ·exact h
 split
 ·exact h
 split
 ·exact h
 split
 ·exact h
 split
 ·exact h
 split
 ·exact h
 ·exact h
theorem Zoq:∀ (l:List SOp) {x:Run},(∀ r ∈ x.2,Zaz r)->∀ r ∈ (l.foldl Zel x).2,Zaz r
 | [],_,h=>h
 | o::l,_,h=>Zoq l (ZxC h o)
theorem ZxD (kind room:Int) (l:List SOp):∀ r ∈ (ZAx kind room l).2,Zaz r:=Zoq l (x:=Zot kind room) (fun r hr=>by cases hr)
theorem ZxE (kind room:Int) (l:List SOp) (i:Nat):∀ r ∈ (runQ (Zot kind room) l i).2,Zaz r:=Zoq (l.take i) (x:=Zot kind room) (fun r hr=>by cases hr)
set_option maxHeartbeats 8000000 in
theorem ZAy {B pd:Nat} {room:Int} (kind:Int) (v:Value) (l:List SOp) (w0 w:World) (hB:B=w0.heap.size) (hl:RdS w0 v l) (hb:Below B w0 w) (hd:ZzT B w pd (ZlH room) 0 0) (h0:0<=kind) (h1:kind<6) (hlen:l.length<=60):
 Calls Tryz.prog 11 #[ptr pd,.int .i64 kind,v] w fun e w'=>∃ p va,e=.returned (.tuple #[ptr p,va])∧ZlE B w0 pd p (ZAx kind room l) (300*l.length) (600000*l.length) va w':=by
 have hBw:B<=w0.heap.size:=by omega
 have HBE:=ZZ hB
 have HRL:=ZZ hl
 obtain⟨la,lc,hv,-⟩:=id hl
 have hB1:B<=w.heap.size:=Nat.le_trans hBw hb.size
 have HOP:=ZZ (Zta kind w hd hB1 (by decide) (by decide) (by decide) (by
  unfold Znp
  rw[if_neg (by omega),if_neg (show ¬ (ZlH room).power=0 by show ¬ (-1:Int)=0;decide)]))
 rw[ZfY] at HOP
 have HB0:=ZZ hb
 have hpe:=ZBG
 have HQ0:Hid (runQ (Zot kind room) l 0=Zot kind room):=ZZ rfl
 have HQS:Hid (∀ i o,l[i]?=some o->runQ (Zot kind room) l (i+1)=Zel (runQ (Zot kind room) l i) o):=ZZ (fun i o h=>Zqm _ l i o h)
 have HQA:Hid (runQ (Zot kind room) l l.length=ZAx kind room l):=ZZ (Zzg _ l)
 have HRO:Hid (∀ i,i<=l.length->Zcw (runQ (Zot kind room) l i).1 (runQ (Zot kind room) l i).2 i):=ZZ (fun i hi=>Zcw.runQ (x:=Zot kind room) (Zop room kind h0 h1) l i hi)
 have HFT:Hid (∀ i,∀ r ∈ (runQ (Zot kind room) l i).2,Zaz r):=ZZ (fun i=>ZxE kind room l i)
 have HR0:Hid (Zot kind room=((ZsY kind,ZlH room),[])):=ZZ rfl
 have HNQ:Hid (∀ i,i<=l.length->NmI (runQ (Zot kind room) l i).1.1):=ZZ (fun i hi=>Ztb (x:=Zot kind room) (fun q hq=>by cases hq) (Zop room kind h0 h1) l i hi)
 generalize ZAx kind room l=XE at *
 generalize runQ (Zot kind room) l=Q at *
 have HN0:Hid (ZbX (ZsY kind) 0 0=([],0)∧(ZsY kind).next=0∧OkS (ZsY kind)∧(ZsY kind).log.recs=[]):=ZZ (by
  have ho:=Zjz (d:=ZlH room) (kind:=kind) h0 h1
  rw[ZfY] at ho
  exact⟨rfl,rfl,ho,rfl⟩)
 subst hv
 have hlm:(l.length:Int)<=60:=by omega
 clear hl hb hd hB
 go_enter Tryz.func11,Tryz.ntmps11
 go_wp2_with fail
 refine HOP.out.mono ?_
 rintro e W1 ⟨p,rfl,hs1,hb1⟩
 have HS1:=ZZ hs1
 have HB1:=ZZ (HB0.out.trans (hb1.mono hB1))
 have hB2:B<=W1.heap.size:=Nat.le_trans hB1 hb1.size
 have HNX:=ZZ (HS1.out.next HN0.out.2.2.1.num)
 rw[HN0.out.2.1] at HNX
 clear hs1 hb1 HOP hB1
 go_wp2_with fail
 refine HNX.out.mono ?_
 rintro e W2 ⟨rfl,hb2⟩
 have HS2:=ZZ (HS1.out.below hb2)
 have HB2:=ZZ (HB1.out.trans (hb2.mono hB2))
 have hB3:B<=W2.heap.size:=Nat.le_trans hB2 hb2.size
 have HRC:Hid (Calls Tryz.prog 18 #[ptr p,.int .i64 0,.int .i64 0] W2 fun e w'=>∃ v,e=.returned (.tuple #[v,.int .i64 0])∧Zbm w' W2.heap.size v []∧Below W2.heap.size W2 w'):=ZZ (by
  obtain⟨F,M,I,L,h1,h2,-⟩:=HS2.out
  have:=ZiS 0 0 W2 h2 HN0.out.2.2.1.num (by rw[HN0.out.2.2.2];intro r hr;cases hr) (by rw[HN0.out.2.2.2];exact Nat.zero_le _)
  rw[HN0.out.1] at this
  exact this)
 clear hb2 HNX HS1 HB1
 go_wp2_with fail
 refine HRC.out.mono ?_
 rintro e W3 ⟨v3,rfl,ho3,hb3⟩
 have HW3:Hid (ZlE B w0 pd p (Q 0) (300*0) (600000*0) v3 W3):=ZZ (by
  rw[HQ0.out,HR0.out]
  refine⟨(HS2.out.fresh hb3).less fun k hk=>?_,ho3.mono hB3,HB2.out.trans (hb3.mono hB3)⟩
  rcases hk with hk | hk
  ·exact .inl hk
  ·exact .inr (World.ownsRow.lt ho3 k hk))
 obtain⟨a3,n3,c3,hv3⟩:∃ a n c,v3=Value.slice a n c:=by
  obtain⟨a,c,hh⟩:=ho3.shape
  exact⟨a,_,c,hh⟩
 subst hv3
 clear ho3 hb3 HRC HS2 HB2 HQ0 HR0 HN0 HB0
 go_wp2
 go_loopw[10,12] (fun va vi wr=>∃ (i:Nat) (a:Option Addr) (n c:Nat),vi=.int .i64 (i:Int)∧i<=l.length∧va=.slice a n c∧Hid (ZlE B w0 pd p (Q i) (300*i) (600000*i) (.slice a n c) wr)) (fun _ vi _=>l.length-(intOf vi).toNat)
 case atStart=>exact⟨0,_,_,_,rfl,Nat.zero_le _,rfl,HW3⟩
 case round=>
  clear HW3
  obtain⟨i,aa,an,ac,rfl,hil,rfl,HW⟩:=hrel
  by_cases hlt:i<l.length
  case neg=>
   obtain rfl:i=l.length:=by omega
   rw[HQA.out] at HW
   go_wp2
   go_ret2
   exact⟨_,_,rfl,HW.out⟩
  have hiB:B<=wr.heap.size:=Nat.le_trans hBw HW.out.old.size
  obtain⟨x,rb,off,ka,kc,ra,rc,ba,bc,hx,hao,ho⟩:=HRL.out.at hlt
  subst hao
  have HNXT:=ZZ (HQS.out i x hx)
  have HI:=ZZ (HRO.out i (by omega))
  have HFI:=ZZ (HFT.out i)
  have HNI2:=ZZ (HNQ.out i (by omega))
  have HKP:Hid (∀ W,Below B w0 W->ZrY W rb (off+i*9) x (.slice ka x.keep.length kc) (.slice ra x.recs.length rc) (.slice ba x.b.length bc)):=ZZ (fun W h=>ho.below h (Nat.le_of_eq HBE.out.symm))
  have hc0:=(HKP.out wr HW.out.old).c0
  have HXI:=ZZ (And.intro ho.i0 (And.intro ho.i2 ho.io))
  have HLT:=ZZ hlt
  have hi60:i<=60:=by omega
  obtain⟨X,hX⟩:∃ X,X=Q i:=⟨_,rfl⟩
  rw[<-hX] at HW HNXT HI HFI HNI2
  obtain⟨⟨s,d⟩,all⟩:=X
  clear hX hx ho hlt HQA HQS HRO HFT HNQ
  have HKZ:Hid (∀ k,(k<B∨(Value.slice aa an ac).ownBlock=some k)->k<wr.heap.size):=ZZ (HW.out.size hBw)
  have HSDW:Hid (SD (fun k=>k<B∨(Value.slice aa an ac).ownBlock=some k) wr pd p s d (300*i) (600000*i)):=ZZ HW.out.sd
  have HNI:Hid (s.log.pcs.length<=60∧s.log.recs.length<=1200∧all.length<=1200∧s.bases.length<=61):=ZZ (by
   have h1:s.log.pcs.length<=i:=HI.out.pcn
   have h2:s.log.recs=all.drop s.log.first.toNat:=HI.out.recs
   have h3:=HI.out.rcn
   have h4:s.bases.length<=i+1:=HI.out.bsn
   dsimp only at h3
   refine⟨by omega,?_,by omega,by omega⟩
   rw[h2,List.length_drop]
   omega)
  by_cases e0:x.kind=0
  case pos=>
   have HST:Hid (Q (i+1)=((Zby (Zcn s.next x) (s,d)).1,if(Zby (Zcn s.next x) (s,d)).2=0 then all++Zcn s.next x else all)):=ZZ (by
    rw[HNXT.out]
    unfold Zel
    rw[if_pos e0])
   rw[e0] at hc0
   have HNX:Hid (∀ W,Below wr.heap.size wr W->Calls Tryz.prog 15 #[ptr p] W fun e w'=>e=.returned (.int .i64 s.next)∧Below wr.heap.size wr w'):=ZZ (fun W hW=>((HSDW.out.below hW).next (OkS.num HI.out.ok)).mono (by
    rintro e w' ⟨rfl,hb⟩
    exact⟨rfl,hW.trans (hb.mono hW.size)⟩))
   have HNB:Hid (0<=s.next∧s.next<=4611686018427387904):=ZZ (by
    have hok:OkS s:=HI.out.ok
    have h1:=hok.log.f0
    have h2:s.next=s.log.first+s.log.recs.length:=rfl
    exact⟨by omega,hok.log.top⟩)
   have HRC:Hid (∀ W,Below wr.heap.size wr W->Calls Tryz.prog 24 #[.int .i64 s.next,.agg #[.int .i64 0,.int .i64 x.many,.int .i64 x.n,.int .i64 x.op.code,.int .i64 x.op.a,.int .i64 x.op.b,.slice ka x.keep.length kc,.slice ra x.recs.length rc,.slice ba x.b.length bc]] W fun e w'=>∃ v,e=.returned v∧Zbm w' wr.heap.size v (Zcn s.next x)∧Below wr.heap.size wr w'):=ZZ (fun W hW=>by
    have h9:=Zqc s.next x ka x.keep.length kc ra x.recs.length rc ba x.b.length bc W HNB.out.1 HNB.out.2
    rw[e0] at h9
    refine h9.mono ?_
    rintro e w' ⟨v,rfl,ho,hb⟩
    exact⟨v,rfl,ho.mono hW.size,hW.trans (hb.mono hW.size)⟩)
   have HKC:Hid (∀ W,Below wr.heap.size wr W->W.cell? ⟨rb,off+i*9,none⟩=some (.int .i64 0)∧W.cell? ⟨rb,off+i*9+1,none⟩=some (.int .i64 x.many)∧W.cell? ⟨rb,off+i*9+2,none⟩=some (.int .i64 x.n)∧W.cell? ⟨rb,off+i*9+3,none⟩=some (.int .i64 x.op.code)∧W.cell? ⟨rb,off+i*9+4,none⟩=some (.int .i64 x.op.a)∧W.cell? ⟨rb,off+i*9+5,none⟩=some (.int .i64 x.op.b)∧W.cell? ⟨rb,off+i*9+6,none⟩=some (.slice ka x.keep.length kc)∧W.cell? ⟨rb,off+i*9+7,none⟩=some (.slice ra x.recs.length rc)∧W.cell? ⟨rb,off+i*9+8,none⟩=some (.slice ba x.b.length bc)):=ZZ (fun W hW=>by
    have hh:=HKP.out W (HW.out.old.trans (hW.mono hiB))
    rw[<-e0]
    exact⟨hh.c0,hh.c1,hh.c2,hh.c3,hh.c4,hh.c5,hh.c6,hh.c7,hh.c8⟩)
   have HSD:Hid (Below wr.heap.size wr wr.drew):=ZZ (Below.refl _ _).drew
   have HAP:Hid (∀ (v:Value) W,Zbm W wr.heap.size v (Zcn s.next x)->Below wr.heap.size wr W->Calls Tryz.prog 23 #[ptr p,v] W fun e w'=>e=.returned (.int .i64 (Zby (Zcn s.next x) (s,d)).2)∧ZlE B w0 pd p ((Zby (Zcn s.next x) (s,d)).1,all) (300*(i+1)) (600000*(i+1)) (.slice aa an ac) w'∧RdR w' v (Zcn s.next x)):=ZZ (fun v W ho hW=>by
    have hrd:=ho.rd (ZxB HNB.out.1 HNB.out.2 HXI.out.2.2)
    have hvK:∀ k,v.ownBlock=some k->((k<B∨(Value.slice aa an ac).ownBlock=some k)∨(wr.heap.size<=k∧k<W.heap.size)):=fun k hk=>.inr (World.ownsRow.lt ho k hk)
    refine(Zla v (Zcn s.next x) W (HSDW.out.fresh hW) (fun k hk=>by
     rcases hk with hk | hk
     ·exact Nat.lt_of_lt_of_le (HKZ.out k hk) hW.size
     ·exact hk.2) HI.out.ok hrd (.inr hvK) (by have:=HNI.out.1;omega) (by have:=HNI.out.2.1;omega) (by omega) (by omega)).mono ?_
    rintro e w' ⟨rfl,hs,ho2⟩
    refine⟨rfl,?_,hrd.keepK (.inr hvK) ho2⟩
    have:=(HW.out.below hBw hW).did hBw (fun k hk=>.inl hk) hs ho2
    exact this.mono (by omega) (by omega))
   have HRSL:Hid ((Zcn s.next x).length<=20):=ZZ (ZmX _ _)
   generalize Zcn s.next x=RS at *
   generalize s.next=nx at *
   generalize Zby RS (s,d)=AR at *
   obtain⟨AX,cd⟩:=AR
   dsimp only at HAP HST
   generalize x.many=xm at *
   generalize x.n=xn at *
   generalize x.op.code=xc at *
   generalize x.op.a=xa at *
   generalize x.op.b=xb at *
   generalize x.keep.length=xk at *
   generalize x.recs.length=xr at *
   generalize x.b.length=xl at *
   clear e0 HNXT
   go_upto_region 12 with fail
   go_region_held(fun W=>W.cell? ⟨rb,off+i*9,none⟩=some (.int .i64 0)∧W.cell? ⟨rb,off+i*9+1,none⟩=some (.int .i64 xm)∧W.cell? ⟨rb,off+i*9+2,none⟩=some (.int .i64 xn)∧W.cell? ⟨rb,off+i*9+3,none⟩=some (.int .i64 xc)∧W.cell? ⟨rb,off+i*9+4,none⟩=some (.int .i64 xa)∧W.cell? ⟨rb,off+i*9+5,none⟩=some (.int .i64 xb)∧W.cell? ⟨rb,off+i*9+6,none⟩=some (.slice ka xk kc)∧W.cell? ⟨rb,off+i*9+7,none⟩=some (.slice ra xr rc)∧W.cell? ⟨rb,off+i*9+8,none⟩=some (.slice ba xl bc))
    (first | (with_reducible exact HKC.out _ HSD.out) | (with_reducible exact HKC.out _ HB1.out) | (with_reducible exact HKC.out _ HB2.out))
    (first
     | (go_at_call 15;refine(HNX.out _ HSD.out).mono ?_;rintro e W1 ⟨rfl,hb1⟩;have HB1:=ZZ hb1;clear hb1)
     | (go_at_call 24;refine(HRC.out _ HB1.out).mono ?_;rintro e W2 ⟨v2,rfl,ho2,hb2⟩;obtain⟨z1,z2,z3,hz⟩:∃ a n c,v2=Value.slice a n c:=(by obtain⟨a,c,hh⟩:=ho2.shape;exact⟨a,_,c,hh⟩);subst hz;have HO2:=ZZ ho2;have HB2:=ZZ hb2;clear ho2 hb2))
   all_goals
    have HA:=ZZ (HAP.out _ W2 HO2.out HB2.out)
    have HOL:Hid (Zbm wr 0 (.slice aa an ac) all):=ZZ (HW.out.own.mono (Nat.zero_le _))
    clear HNX HRC HKC HAP HB1 HO2 HB2
    go_wp2_with fail
    refine HA.out.mono ?_
    rintro e W3 ⟨rfl,hw3,hr3⟩
    have HW3:=ZZ hw3
    have HR3:=ZZ hr3
    clear hw3 hr3 HA
    by_cases hc:cd=0
    ·subst hc
     rw[if_pos rfl] at HST
     have HLIM:Hid (all.length+RS.length<=10000000):=ZZ (by have:=HNI.out.2.2.1;have:=HRSL.out;omega)
     have HO3:Hid (Zbm W3 0 (.slice aa an ac) all):=ZZ (HW3.out.own.mono (Nat.zero_le _))
     go_wp2_with(at_builtin;refine(fun(h:True->_)=>h trivial) ?_)
     intro _
     refine Zew W3 rfl _ _ rfl (.slice aa an ac) all rfl HO3.out (.slice z1 z2 z3) RS rfl HR3.out HLIM.out ?_
     intro v4 W4 h1 h2 h3
     have hfin:=HW3.out.more hBw h1 h2 h3
     rw[<-HST.out] at hfin
     have HFIN:=ZZ hfin
     obtain⟨a9,c9,hv9⟩:=h1.shape
     generalize (all++RS).length=n9 at hv9
     subst hv9
     clear h1 h2 h3 hfin
     go_wp2
     go_roundw
     case rel=>exact⟨i+1,a9,n9,c9,by go_num,by have:=HLT.out;omega,rfl,HFIN⟩
     case measure=>have:=HLT.out;simp[intOf];omega
    ·rw[if_neg hc] at HST
     have hfin:=HW3.out
     rw[<-HST.out] at hfin
     have HFIN:=ZZ hfin
     have hcb:(cd == 0)=false:=beq_eq_false_iff_ne.2 hc
     clear hc hfin
     go_wp2
     go_roundw
     case rel=>exact⟨i+1,aa,an,ac,by go_num,by have:=HLT.out;omega,rfl,HFIN⟩
     case measure=>have:=HLT.out;simp[intOf];omega
  by_cases e1:x.kind=1
  case pos=>
   have HST:Hid (Q (i+1)=((Zcz (s,d)).1,all)):=ZZ (by
    rw[HNXT.out]
    unfold Zel
    rw[if_neg e0,if_pos e1])
   rw[e1] at hc0
   have HC:Hid (Calls Tryz.prog 28 #[ptr p] wr fun e w'=>e=.returned (.int .i64 (Zcz (s,d)).2)∧ZlE B w0 pd p (Q (i+1)) (300*(i+1)) (600000*(i+1)) (.slice aa an ac) w'):=ZZ ((ZhE wr HSDW.out HKZ.out (OkS.num HI.out.ok)).mono (by
    rintro e w' ⟨rfl,hs,ho⟩
    refine⟨rfl,?_⟩
    rw[HST.out]
    have hm:=HNI.out.1
    exact(HW.out.did hBw (fun k hk=>hk) hs ho).mono (by omega) (by omega)))
   generalize (Zcz (s,d)).2=cd at *
   clear e1 HST HNXT
   go_wp2_with fail
   refine HC.out.mono ?_
   rintro e W3 ⟨rfl,hw3⟩
   have HFIN:=ZZ hw3
   clear hw3 HC
   go_wp2
   go_roundw
   case rel=>exact⟨i+1,aa,an,ac,by go_num,by have:=HLT.out;omega,rfl,HFIN⟩
   case measure=>have:=HLT.out;simp[intOf];omega
  by_cases e2:x.kind=2
  case pos=>
   have HST:Hid (Q (i+1)=((ZeC (s,d)).1,all)):=ZZ (by
    rw[HNXT.out]
    unfold Zel
    rw[if_neg e0,if_neg e1,if_pos e2])
   rw[e2] at hc0
   have HC:Hid (Calls Tryz.prog 27 #[ptr p] wr fun e w'=>e=.returned (.int .i64 (ZeC (s,d)).2)∧ZlE B w0 pd p (Q (i+1)) (300*(i+1)) (600000*(i+1)) (.slice aa an ac) w'):=ZZ ((Zrv wr HSDW.out HKZ.out (OkS.num HI.out.ok)).mono (by
    rintro e w' ⟨rfl,hs,ho⟩
    refine⟨rfl,?_⟩
    rw[HST.out]
    have hm:=HNI.out.1
    exact(HW.out.did hBw (fun k hk=>hk) hs ho).mono (by omega) (by omega)))
   generalize (ZeC (s,d)).2=cd at *
   clear e2 HST HNXT
   go_wp2_with fail
   refine HC.out.mono ?_
   rintro e W3 ⟨rfl,hw3⟩
   have HFIN:=ZZ hw3
   clear hw3 HC
   go_wp2
   go_roundw
   case rel=>exact⟨i+1,aa,an,ac,by go_num,by have:=HLT.out;omega,rfl,HFIN⟩
   case measure=>have:=HLT.out;simp[intOf];omega
  by_cases e3:x.kind=3
  case pos=>
   have HST:Hid (Q (i+1)=((Zbk (s,d)).1,all)):=ZZ (by
    rw[HNXT.out]
    unfold Zel
    rw[if_neg e0,if_neg e1,if_neg e2,if_pos e3])
   rw[e3] at hc0
   have HC:Hid (Calls Tryz.prog 25 #[ptr p] wr fun e w'=>e=.returned (.int .i64 (Zbk (s,d)).2)∧ZlE B w0 pd p (Q (i+1)) (300*(i+1)) (600000*(i+1)) (.slice aa an ac) w'):=ZZ ((ZlC wr HSDW.out HKZ.out (OkS.num HI.out.ok) (by have:=HNI.out.2.2.2;omega) (by omega) (by omega)).mono (by
    rintro e w' ⟨rfl,hs,ho⟩
    refine⟨rfl,?_⟩
    rw[HST.out]
    have hm:=HNI.out.1
    exact(HW.out.did hBw (fun k hk=>hk) hs ho).mono (by omega) (by omega)))
   generalize (Zbk (s,d)).2=cd at *
   clear e3 HST HNXT
   go_wp2_with fail
   refine HC.out.mono ?_
   rintro e W3 ⟨rfl,hw3⟩
   have HFIN:=ZZ hw3
   clear hw3 HC
   go_wp2
   go_roundw
   case rel=>exact⟨i+1,aa,an,ac,by go_num,by have:=HLT.out;omega,rfl,HFIN⟩
   case measure=>have:=HLT.out;simp[intOf];omega
  by_cases e4:x.kind=4
  case pos=>
   have HST:Hid (Q (i+1)=((Zdv (s,d)).1,all)):=ZZ (by
    rw[HNXT.out]
    unfold Zel
    rw[if_neg e0,if_neg e1,if_neg e2,if_neg e3,if_pos e4])
   have HCU:Hid (∀ q ∈ s.log.pcs.dropLast,q.name≠s.cur):=ZZ (fun q hq=>by
    have hnam:s.log.pcs.Pairwise (fun p q=>p.name<q.name):=HI.out.nam
    have htwo:∀ p ∈ s.log.pcs,2<=p.name∧p.name % 2=0:=HI.out.two
    by_cases h0:s.cur=0
    ·have:=(htwo q ((List.dropLast_sublist _).subset hq)).1
     omega
    ·obtain⟨a,c,hc1,hc2⟩:=HI.out.curL h0
     have hc1':s.log.pcs=a++[c]:=hc1
     have hc2':c.name=s.cur:=hc2
     rw[hc1',List.dropLast_concat] at hq
     rw[hc1',List.pairwise_append] at hnam
     have:=hnam.2.2 q hq c (by simp)
     omega)
   have HNM:Hid (∀ q ∈ s.log.pcs,I64 q.name):=ZZ (fun q hq=>by
    exact HNI2.out q.name (List.mem_map.2 ⟨q,hq,rfl⟩))
   rw[e4] at hc0
   have HC:Hid (Calls Tryz.prog 30 #[ptr p] wr fun e w'=>e=.returned (.int .i64 (Zdv (s,d)).2)∧ZlE B w0 pd p (Q (i+1)) (300*(i+1)) (600000*(i+1)) (.slice aa an ac) w'):=ZZ ((ZrT wr HSDW.out HKZ.out HI.out.ok HI.out.bs0 (by have:=HNI.out.2.2.2;omega) (by have:=HNI.out.1;omega) (by have:=HNI.out.2.1;omega) HI.out.bas HCU.out HNM.out (by omega) (by omega)).mono (by
    rintro e w' ⟨rfl,hs,ho⟩
    refine⟨rfl,?_⟩
    rw[HST.out]
    have hm:=HNI.out.1
    exact(HW.out.did hBw (fun k hk=>hk) hs ho).mono (by omega) (by omega)))
   generalize (Zdv (s,d)).2=cd at *
   clear e4 HST HNXT
   go_wp2_with fail
   refine HC.out.mono ?_
   rintro e W3 ⟨rfl,hw3⟩
   have HFIN:=ZZ hw3
   clear hw3 HC
   go_wp2
   go_roundw
   case rel=>exact⟨i+1,aa,an,ac,by go_num,by have:=HLT.out;omega,rfl,HFIN⟩
   case measure=>have:=HLT.out;simp[intOf];omega
  by_cases e5:x.kind=5
  case pos=>
   have HST:Hid (Q (i+1)=((s,ZxH d x.n),all)):=ZZ (by
    rw[HNXT.out]
    unfold Zel
    rw[if_neg e0,if_neg e1,if_neg e2,if_neg e3,if_neg e4,if_pos e5])
   rw[e5] at hc0
   have c2:=(HKP.out wr HW.out.old).c2
   have HC:Hid (Calls Tryz.prog 31 #[ptr pd,.int .i64 x.n] wr fun e w'=>e=.returned (.tuple #[])∧ZlE B w0 pd p (Q (i+1)) (300*(i+1)) (600000*(i+1)) (.slice aa an ac) w'):=ZZ ((HSDW.out.cut x.n HXI.out.2.1).mono (by
    rintro e w' ⟨rfl,hs,ho⟩
    refine⟨rfl,?_⟩
    rw[HST.out]
    exact(HW.out.did (r:=(s,ZxH d x.n)) hBw (fun k hk=>hk) hs ho).mono (by omega) (by omega)))
   generalize x.n=xn at *
   clear e5 HST HNXT
   go_wp2_with fail
   refine HC.out.mono ?_
   rintro e W3 ⟨rfl,hw3⟩
   have HFIN:=ZZ hw3
   clear hw3 HC
   go_wp2
   go_roundw
   case rel=>exact⟨i+1,aa,an,ac,by go_num,by have:=HLT.out;omega,rfl,HFIN⟩
   case measure=>have:=HLT.out;simp[intOf];omega
  have HST:Hid (Q (i+1)=((s,d),all)):=ZZ (by
   rw[HNXT.out]
   unfold Zel
   rw[if_neg e0,if_neg e1,if_neg e2,if_neg e3,if_neg e4,if_neg e5])
  have hfin:=HW.out.mono (show 300*i<=300*(i+1) by omega) (show 600000*i<=600000*(i+1) by omega)
  rw[<-HST.out] at hfin
  have HFIN:=ZZ hfin
  have b0:(x.kind == 0)=false:=beq_eq_false_iff_ne.2 e0
  have b1:(x.kind == 1)=false:=beq_eq_false_iff_ne.2 e1
  have b2:(x.kind == 2)=false:=beq_eq_false_iff_ne.2 e2
  have b3:(x.kind == 3)=false:=beq_eq_false_iff_ne.2 e3
  have b4:(x.kind == 4)=false:=beq_eq_false_iff_ne.2 e4
  have b5:(x.kind == 5)=false:=beq_eq_false_iff_ne.2 e5
  generalize x.kind=kx at *
  clear e0 e1 e2 e3 e4 e5 hfin HST HNXT
  go_wp2
  go_roundw
  case rel=>exact⟨i+1,aa,an,ac,by go_num,by have:=HLT.out;omega,rfl,HFIN⟩
  case measure=>have:=HLT.out;simp[intOf];omega
end Go.Proofs.YtfiffndhehkapaaGreatDoor
