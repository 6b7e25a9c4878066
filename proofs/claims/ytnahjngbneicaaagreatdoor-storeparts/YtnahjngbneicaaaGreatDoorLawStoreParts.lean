/- Proved: for every kind and all calls the law StoreParts answers true (and the call leaves all older memory as it was), where the listed variable has its listed value. -/
import Derived.Test.YtnahjngbneicaaaGreatDoorStoreTwo
import Derived.Test.YtnahjngbneicaaaGreatDoorStorePartsN
import Derived.Test.YtnahjngbneicaaaGreatDoorRef07S
import Derived.Test.YtnahjngbneicaaaGreatDoorStoreSee
import Derived.Test.YtnahjngbneicaaaGreatDoorSchemaTab
import Derived.OpenShut
import Derived.ChangeOld
namespace Go.Proofs.YtnahjngbneicaaaGreatDoor.storeParts
set_option maxRecDepth 100000
open Go.ChangeShapes Go.WideShapes Go.ChangeAt Go.RowKit
/-- Open of a new disk,apart from what is kept. -/
theorem openNew_any {K F:Nat->Prop} {pd:Nat} (room kind:Int) (h0:0<=kind) (h1:kind<6) (w:World) (h:Dsk F w pd (ZfL room) 0 0) (hFK:∀ k,F k->¬ K k) (hK:∀ k,K k->k<w.heap.size):
 Calls Tryz.prog 13 #[ptr pd,.int .i64 kind] w fun e w'=>∃ p,e=.returned (.tuple #[ptr p,.int .i64 0])∧SD K w' pd p (ZmK kind) (ZfL room) 0 0∧Below w.heap.size w w':=by
 have hE:Zku (ZfL room) kind=0:=by
  unfold Zku
  rw[if_neg (by omega),if_neg (show ¬ (ZfL room).power=0 by show ¬ (-1:Int)=0;decide)]
 refine(ZqZ (K:=K) kind w h hFK hK (by decide) (by decide) (Fn:=0) (Bn:=0) ⟨Nat.le_refl _,(fun x hx=>by cases hx)⟩ (by decide) (by decide) (by decide)).mono ?_
 intro e w' hh
 rcases hh with ⟨h1,-⟩ | ⟨-,p,h2,h3,h4⟩
 ·exact absurd hE h1
 ·rw[ZgV] at h3
  exact⟨p,h2,h3,h4⟩
theorem dskB_lt {B pd:Nat} {w:World} {d:Dk} {N T:Nat} (h:ZxF B w pd d N T):∃ F,Dsk F w pd d N T∧∀ k,F k->B<=k∧k<w.heap.size:=by
 obtain⟨F,h1,h2⟩:=h
 exact⟨F,h1,fun k hk=>⟨h2 k hk,h1.ltF k hk⟩⟩
/-- What is true ahead of each round. -/
structure LoopP (B:Nat) (w:World) (kind:Int) (pd ps px pt i:Nat) (x1 x2:SDk) (all:List Rec) (wr:World):Prop where
 p1:∃ n,n<=i∧ZeM kind x1 all n all.length
 p2:∃ n,n<=all.length∧ZeM kind x2 all n all.length
 al:all.length<=20*i
 two:Zig (fun k=>k<B) wr pd ps x1 (4*i) (30000*i) px pt x2 (6*all.length) (30000*all.length)
 old:Below B w wr
set_option maxHeartbeats 8000000 in
theorem walk (kind:Int) (v:Value) (l:List SOp) (w:World) (_hkd:(Lit.int .i64 kind).wf=true) (hl:RdS w v l) (_ht:TabF w):
 Calls Tryz.prog 6 #[.int .i64 kind,v] w fun e w'=>e=.returned (.bool true)∧Below w.heap.size w w':=by
 have HAW:=ZZ (ZsW w)
 have HRL:=ZZ hl
 obtain⟨la,lc,rfl,-⟩:=hl
 clear _hkd _ht
 obtain⟨B,hB⟩:∃ B,B=w.heap.size:=⟨_,rfl⟩
 rw[<-hB] at HAW ⊢
 have HBW:Hid (B<=w.heap.size):=ZZ (by omega)
 have HBE:=ZZ hB
 clear hB
 have hS:∀ {W:World},Below B w W->B<=W.heap.size:=fun h=>Nat.le_trans HBW.out h.size
 have hpe:=hpeD
 have hpn:=hpnD
 have hps:=hpeS
 go_enter Tryz.func6,Tryz.ntmps6
 go_wp2_with fail
 refine HAW.out.mono ?_
 rintro e W1 ⟨rfl,hb1⟩
 have HB1:=ZZ hb1
 have HFW:=ZZ (ZwJ _ l W1 (HRL.out.below hb1 (by rw[HBE.out];exact Nat.le_refl _)))
 clear hb1 HAW
 go_wp2_with fail
 refine HFW.out.mono ?_
 rintro e W1' ⟨FB,rfl,hfw,rfl⟩
 have HFP:=ZZ hfw
 have HN:=ZZ (ZlX B 1000000 ⟨by decide,by decide⟩ W1' (hS HB1.out))
 clear hfw HFW
 go_wp2_with fail
 refine HN.out.mono ?_
 rintro e W2 ⟨pd,rfl,hd2,hb2⟩
 have HD2:=ZZ (dskB_lt hd2)
 have HB2:=ZZ (HB1.out.trans hb2)
 have HN2:=ZZ (ZlX W2.heap.size 1000000 ⟨by decide,by decide⟩ W2 zL)
 clear hd2 hb2 HN
 go_wp2_with fail
 refine HN2.out.mono ?_
 rintro e W3 ⟨px,rfl,hd3,hb3⟩
 have HD3:=ZZ (dskB_lt hd3)
 have HB3:=ZZ (HB2.out.trans (hb3.mono (hS HB2.out)))
 have HB23:=ZZ hb3
 clear hd3 hb3 HN2
 cases FB with
 | false=>
  go_wp2
  go_ret
  exact⟨by first | rfl | simp,HB3.out⟩
 | true=>
 have HFEW:=ZZ (HFP.out rfl)
 have hlen:=HFEW.out.1
 clear HFP HB1 HFEW
 by_cases hk0:kind<0
 case pos=>
  have hk0':decide (kind<0)=true:=decide_eq_true hk0
  go_wp2
  go_ret
  exact⟨by first | rfl | simp,HB3.out⟩
 by_cases hk1:6<=kind
 case pos=>
  have hk0':decide (kind<0)=false:=decide_eq_false hk0
  have hk1':decide (kind ≥ 6)=true:=decide_eq_true hk1
  go_wp2
  go_ret
  exact⟨by first | rfl | simp,HB3.out⟩
 have hk0':decide (kind<0)=false:=decide_eq_false hk0
 have hk1':decide (kind ≥ 6)=false:=decide_eq_false (by omega)
 have HKD:Hid (0<=kind∧kind<6):=ZZ (by omega)
 have HO1:Hid (Calls Tryz.prog 13 #[ptr pd,.int .i64 kind] W3 fun e w'=>∃ p,e=.returned (.tuple #[ptr p,.int .i64 0])∧SD (fun k=>k<B∨(W2.heap.size<=k∧k<W3.heap.size)) w' pd p (ZmK kind) (ZfL 1000000) 0 0∧Below W3.heap.size W3 w'):=ZZ (by
  obtain⟨F,g1,g2⟩:=HD2.out
  exact openNew_any 1000000 kind HKD.out.1 HKD.out.2 W3 (g1.below HB23.out) (fun k hk hh=>by have:=g2 k hk;omega) (fun k hk=>by have:=HB23.out.size;have:=hS HB2.out;omega))
 clear hk0 hk1
 go_wp2_with fail
 refine HO1.out.mono ?_
 rintro e W4 ⟨ps,rfl,hs4,hb4⟩
 have HS4:=ZZ hs4
 have HB34:=ZZ hb4
 have HB4:=ZZ (HB3.out.trans (hb4.mono (hS HB3.out)))
 have HO2:Hid (Calls Tryz.prog 13 #[ptr px,.int .i64 kind] W4 fun e w'=>∃ p,e=.returned (.tuple #[ptr p,.int .i64 0])∧SD (fun k=>k<W2.heap.size∨(W3.heap.size<=k∧k<W4.heap.size)) w' px p (ZmK kind) (ZfL 1000000) 0 0∧Below W4.heap.size W4 w'):=ZZ (by
  obtain⟨F,g1,g2⟩:=HD3.out
  exact openNew_any 1000000 kind HKD.out.1 HKD.out.2 W4 (g1.below HB34.out) (fun k hk hh=>by have:=g2 k hk;omega) (fun k hk=>by have:=HB23.out.size;have:=HB34.out.size;omega))
 clear hs4 hb4 HO1
 go_wp2_with fail
 refine HO2.out.mono ?_
 rintro e W5 ⟨pt,rfl,hs5,hb5⟩
 have HTW:Hid (Zig (fun k=>k<B) W5 pd ps (ZmK kind,ZfL 1000000) 0 0 px pt (ZmK kind,ZfL 1000000) 0 0):=ZZ (ZwR (x1:=(ZmK kind,ZfL 1000000)) (x2:=(ZmK kind,ZfL 1000000)) HS4.out hs5 (hS HB2.out) hb5)
 have HB5:=ZZ (HB4.out.trans (hb5.mono (hS HB4.out)))
 clear hs5 hb5 HO2 HS4 HB4 HB34 HB3 HB23 HD2 HD3 HB2
 go_wp2
 go_loopw[13] (fun vi wr=>∃ (i:Nat) (x1 x2:SDk) (all:List Rec),vi=.int .i64 (i:Int)∧i<=l.length∧Hid (LoopP B w kind pd ps px pt i x1 x2 all wr)) (fun vi _=>l.length-(intOf vi).toNat)
 case atStart=>
  have hp:=ZsZ HKD.out.1 HKD.out.2
  exact⟨0,(ZmK kind,ZfL 1000000),(ZmK kind,ZfL 1000000),[],rfl,Nat.zero_le _,ZZ ⟨⟨0,Nat.le_refl _,hp⟩,⟨0,Nat.le_refl _,hp⟩,Nat.le_refl _,HTW.out,HB5.out⟩⟩
 case round=>
  clear HTW HB5
  obtain⟨i,x1,x2,all,rfl,hil,HL⟩:=hrel
  obtain⟨n1,hn1,hp1⟩:=HL.out.p1
  obtain⟨n2,hn2,hp2⟩:=HL.out.p2
  have HP1:=ZZ hp1
  have HP2:=ZZ hp2
  have HAL:=ZZ HL.out.al
  have hBr:B<=wr.heap.size:=hS HL.out.old
  obtain⟨nx,hnx⟩:∃ nx,nx=x1.1.next:=⟨_,rfl⟩
  have HNE:Hid (x1.1.next=nx∧x2.1.next=nx∧nx=(all.length:Int)):=ZZ (by
   have h1:=hp1.room.run.len
   have h2:=hp2.room.run.len
   exact⟨hnx.symm,by rw[hnx];omega,by rw[hnx];exact h1⟩)
  have HNX1:Hid (∀ W,Below wr.heap.size wr W->Calls Tryz.prog 14 #[ptr ps] W fun e w'=>e=.returned (.int .i64 nx)∧Below W.heap.size W w'):=ZZ (fun W hW=>by
   obtain⟨Z,h1,-⟩:=HL.out.two.below hW
   have h9:=h1.next (OkS.num HP1.out.room.run.ok)
   rw[HNE.out.1] at h9
   exact h9)
  by_cases hlt:i<l.length
  case neg=>
   have HNX2:Hid (∀ W,Below wr.heap.size wr W->Calls Tryz.prog 14 #[ptr pt] W fun e w'=>e=.returned (.int .i64 nx)∧Below W.heap.size W w'):=ZZ (fun W hW=>by
    obtain⟨Z,-,h1⟩:=HL.out.two.below hW
    have h9:=h1.next (OkS.num HP2.out.room.run.ok)
    rw[HNE.out.2.1] at h9
    exact h9)
   have HRC1:Hid (∀ W,Below wr.heap.size wr W->Calls Tryz.prog 17 #[ptr ps,.int .i64 0,.int .i64 nx] W fun e w'=>∃ v,e=.returned (.tuple #[v,.int .i64 0])∧RdR w' v all∧Below W.heap.size W w'):=ZZ (fun W hW=>by
    obtain⟨Z,h1,-⟩:=HL.out.two.below hW
    have h8:=HP1.out.reads
    rw[HNE.out.1] at h8
    have h9:=h1.recsC 0 nx HP1.out.room.run.ok (by
     have e1:x1.1.log.recs=all.drop x1.1.log.first.toNat:=HP1.out.room.run.recs
     rw[e1,List.length_drop]
     have:=HAL.out
     omega)
    rw[h8] at h9
    refine h9.mono ?_
    rintro e w' ⟨v,rfl,ho,hb⟩
    exact⟨v,rfl,ho.rdF HP1.out.fits,hb⟩)
   have HRC2:Hid (∀ W,Below wr.heap.size wr W->Calls Tryz.prog 17 #[ptr pt,.int .i64 0,.int .i64 nx] W fun e w'=>∃ v,e=.returned (.tuple #[v,.int .i64 0])∧RdR w' v all∧Below W.heap.size W w'):=ZZ (fun W hW=>by
    obtain⟨Z,-,h1⟩:=HL.out.two.below hW
    have h8:=HP2.out.reads
    rw[HNE.out.2.1] at h8
    have h9:=h1.recsC 0 nx HP2.out.room.run.ok (by
     have e1:x2.1.log.recs=all.drop x2.1.log.first.toNat:=HP2.out.room.run.recs
     rw[e1,List.length_drop]
     have:=HAL.out
     omega)
    rw[h8] at h9
    refine h9.mono ?_
    rintro e w' ⟨v,rfl,ho,hb⟩
    exact⟨v,rfl,ho.rdF HP1.out.fits,hb⟩)
   have HNW1:Hid (∀ W,Below wr.heap.size wr W->Calls Tryz.prog 21 #[ptr ps] W fun e w'=>∃ v,e=.returned v∧SnV w' v x1.1.now∧Below W.heap.size W w'):=ZZ (fun W hW=>by
    obtain⟨Z,h1,-⟩:=HL.out.two.below hW
    refine(h1.nowC HP1.out.room.run.ok.now).mono ?_
    rintro e w' ⟨vl,vt,rfl,hr,-,-,hb⟩
    exact⟨_,rfl,hr.snV,hb⟩)
   have HNW2:Hid (∀ W,Below wr.heap.size wr W->Calls Tryz.prog 21 #[ptr pt] W fun e w'=>∃ v,e=.returned v∧SnV w' v x2.1.now∧Below W.heap.size W w'):=ZZ (fun W hW=>by
    obtain⟨Z,-,h1⟩:=HL.out.two.below hW
    refine(h1.nowC HP2.out.room.run.ok.now).mono ?_
    rintro e w' ⟨vl,vt,rfl,hr,-,-,hb⟩
    exact⟨_,rfl,hr.snV,hb⟩)
   have HEQ:Hid (decide (Zpr x1.1.now x2.1.now)=true):=ZZ (by
    rw[HP1.out.now,HP2.out.now]
    exact decide_eq_true ⟨by unfold ZmQ;simp,rfl,rfl⟩)
   have HBR:Hid (Below B w wr):=ZZ HL.out.old
   generalize x1.1.now=sn1 at *
   generalize x2.1.now=sn2 at *
   clear hnx hp1 hp2 HP1 HP2 HL HAL HNE
   go_wp2_with fail
   refine(HNX1.out wr (Below.refl _ _)).mono ?_
   rintro e W1 ⟨rfl,hb1⟩
   have HB1:=ZZ hb1
   clear hb1
   go_wp2_with fail
   refine(HRC1.out W1 HB1.out).mono ?_
   rintro e W2 ⟨v2,rfl,hr2,hb2⟩
   have HR2:=ZZ hr2
   have HB2:=ZZ (HB1.out.trans (hb2.mono HB1.out.size))
   clear hr2 hb2 HRC1
   go_wp2_with fail
   refine(HNX2.out W2 HB2.out).mono ?_
   rintro e W3 ⟨rfl,hb3⟩
   have HR3:=ZZ (HR2.out.below hb3 zL)
   have HB3:=ZZ (HB2.out.trans (hb3.mono HB2.out.size))
   clear hb3
   go_wp2_with fail
   refine(HRC2.out W3 HB3.out).mono ?_
   rintro e W4 ⟨v4,rfl,hr4,hb4⟩
   have HB4:=ZZ (HB3.out.trans (hb4.mono HB3.out.size))
   have HSM:Hid (Calls Tryz.prog 19 #[v2,v4] W4 fun e w'=>e=.returned (.bool true)∧Below W4.heap.size W4 w'):=ZZ (by
    have h9:=ZoI v2 all v4 all W4 (HR3.out.below hb4 zL) hr4
    rw[show decide (all=all)=true from decide_eq_true rfl] at h9
    exact h9)
   clear hr4 hb4 HRC2
   go_wp2_with fail
   refine HSM.out.mono ?_
   rintro e W5 ⟨rfl,hb5⟩
   have HB5:=ZZ (HB4.out.trans (hb5.mono HB4.out.size))
   clear hb5 HSM
   go_wp2_with fail
   refine(HNW1.out W5 HB5.out).mono ?_
   rintro e W6 ⟨v6,rfl,hr6,hb6⟩
   have HR6:=ZZ hr6
   have HB6:=ZZ (HB5.out.trans (hb6.mono HB5.out.size))
   clear hr6 hb6 HNW1
   go_wp2_with fail
   refine(HNW2.out W6 HB6.out).mono ?_
   rintro e W7 ⟨v7,rfl,hr7,hb7⟩
   have HB7:=ZZ (HB6.out.trans (hb7.mono HB6.out.size))
   have HSN:Hid (Calls Tryz.prog 20 #[v6,v7] W7 fun e w'=>e=.returned (.bool true)∧Below W7.heap.size W7 w'):=ZZ (by
    have h9:=ZuJ v6 sn1 v7 sn2 W7 (HR6.out.below hb7 zL) hr7
    rw[HEQ.out] at h9
    exact h9)
   clear hr7 hb7 HNW2
   go_wp2_with fail
   refine HSN.out.mono ?_
   rintro e W8 ⟨rfl,hb8⟩
   have HB8:=ZZ (HBR.out.trans ((HB7.out.trans (hb8.mono HB7.out.size)).mono hBr))
   clear hb8 HSN
   go_wp2
   go_ret
   exact⟨by first | rfl | simp,HB8.out⟩
  obtain⟨x,rb,off,ka,kc,ra,rc,ba,bc,hx,hao,ho⟩:=HRL.out.at hlt
  subst hao
  have HKP:Hid (∀ W,Below B w W->Zqk W rb (off+i*9) x (.slice ka x.keep.length kc) (.slice ra x.recs.length rc) (.slice ba x.b.length bc)):=ZZ (fun W h=>ho.below h (Nat.le_of_eq HBE.out.symm))
  have HXI:=ZZ (And.intro ho.i2 ho.io)
  have HLT:=ZZ hlt
  have hi60:i<=60:=by omega
  have HRC:Hid (∀ W,Below wr.heap.size wr W->Calls Tryz.prog 23 #[.int .i64 nx,.agg #[.int .i64 x.kind,.int .i64 x.many,.int .i64 x.n,.int .i64 x.op.code,.int .i64 x.op.a,.int .i64 x.op.b,.slice ka x.keep.length kc,.slice ra x.recs.length rc,.slice ba x.b.length bc]] W fun e w'=>∃ v,e=.returned v∧Zbp w' wr.heap.size v (ZcX nx x)∧Below wr.heap.size wr w'):=ZZ (fun W hW=>by
   refine(Zoy nx x ka x.keep.length kc ra x.recs.length rc ba x.b.length bc W (by have:=HNE.out.2.2;omega) (by have:=HNE.out.2.2;have:=HAL.out;omega)).mono ?_
   rintro e w' ⟨v,rfl,ho,hb⟩
   exact⟨v,rfl,ho.mono hW.size,hW.trans (hb.mono hW.size)⟩)
  have HNXr:Hid (∀ W,Below wr.heap.size wr W->Calls Tryz.prog 14 #[ptr ps] W fun e w'=>e=.returned (.int .i64 nx)∧Below wr.heap.size wr w'):=ZZ (fun W hW=>(HNX1.out W hW).mono (by
   rintro e w' ⟨rfl,hb⟩
   exact⟨rfl,hW.trans (hb.mono hW.size)⟩))
  have HKC:Hid (∀ W,Below wr.heap.size wr W->W.cell? ⟨rb,off+i*9,none⟩=some (.int .i64 x.kind)∧W.cell? ⟨rb,off+i*9+1,none⟩=some (.int .i64 x.many)∧W.cell? ⟨rb,off+i*9+2,none⟩=some (.int .i64 x.n)∧W.cell? ⟨rb,off+i*9+3,none⟩=some (.int .i64 x.op.code)∧W.cell? ⟨rb,off+i*9+4,none⟩=some (.int .i64 x.op.a)∧W.cell? ⟨rb,off+i*9+5,none⟩=some (.int .i64 x.op.b)∧W.cell? ⟨rb,off+i*9+6,none⟩=some (.slice ka x.keep.length kc)∧W.cell? ⟨rb,off+i*9+7,none⟩=some (.slice ra x.recs.length rc)∧W.cell? ⟨rb,off+i*9+8,none⟩=some (.slice ba x.b.length bc)):=ZZ (fun W hW=>by
   have hh:=HKP.out W (HL.out.old.trans (hW.mono hBr))
   exact⟨hh.c0,hh.c1,hh.c2,hh.c3,hh.c4,hh.c5,hh.c6,hh.c7,hh.c8⟩)
  have HCN:Hid (∀ W,Below B w W->W.cell? ⟨rb,off+i*9+2,none⟩=some (.int .i64 x.n)):=ZZ (fun W hW=>(HKP.out W hW).c2)
  have HN1:Hid (n1<=i):=ZZ hn1
  have HSD:Hid (Below wr.heap.size wr wr.drew):=ZZ (Below.refl _ _).drew
  have HRSL:Hid ((ZcX nx x).length<=20):=ZZ (ZsP _ _)
  have HRSO:Hid (∀ r ∈ ZcX nx x,Zfw r):=ZZ (Zvp (by have:=HNE.out.2.2;omega) (by have:=HNE.out.2.2;have:=HAL.out;omega) HXI.out.2)
  have HRSH:Hid (ZaY (ZcX nx x)->((ZcX nx x).headD Zai).idx=nx):=ZZ Zqy
  generalize ZcX nx x=RS at *
  generalize x.kind=xkd at *
  generalize x.many=xm at *
  generalize x.n=xn at *
  generalize x.op.code=xc at *
  generalize x.op.a=xa at *
  generalize x.op.b=xb at *
  generalize x.keep.length=xk at *
  generalize x.recs.length=xr at *
  generalize x.b.length=xl at *
  clear hnx hp1 hp2 hx ho hlt HKP HNX1
  go_upto_region 14 with fail
  go_region_held(fun W=>W.cell? ⟨rb,off+i*9,none⟩=some (.int .i64 xkd)∧W.cell? ⟨rb,off+i*9+1,none⟩=some (.int .i64 xm)∧W.cell? ⟨rb,off+i*9+2,none⟩=some (.int .i64 xn)∧W.cell? ⟨rb,off+i*9+3,none⟩=some (.int .i64 xc)∧W.cell? ⟨rb,off+i*9+4,none⟩=some (.int .i64 xa)∧W.cell? ⟨rb,off+i*9+5,none⟩=some (.int .i64 xb)∧W.cell? ⟨rb,off+i*9+6,none⟩=some (.slice ka xk kc)∧W.cell? ⟨rb,off+i*9+7,none⟩=some (.slice ra xr rc)∧W.cell? ⟨rb,off+i*9+8,none⟩=some (.slice ba xl bc))
   (first | (with_reducible exact HKC.out _ HSD.out) | (with_reducible exact HKC.out _ HB1.out) | (with_reducible exact HKC.out _ HB2.out))
   (first
    | (go_at_call 14;refine(HNXr.out _ HSD.out).mono ?_;rintro e W1 ⟨rfl,hb1⟩;have HB1:=ZZ hb1;clear hb1)
    | (go_at_call 23;refine(HRC.out _ HB1.out).mono ?_;rintro e W2 ⟨v2,rfl,ho2,hb2⟩;obtain⟨z1,z3,hz⟩:∃ a c,v2=Value.slice a RS.length c:=ho2.shape;subst hz;have HO2:=ZZ ho2;have HB2:=ZZ hb2;clear ho2 hb2))
  all_goals
   have HR2:Hid (RdR W2 (.slice z1 RS.length z3) RS):=ZZ (HO2.out.rd HRSO.out)
   have HTW:Hid (Zig (fun k=>k<B∨(wr.heap.size<=k∧k<W2.heap.size)) W2 pd ps x1 (4*i) (30000*i) px pt x2 (6*all.length) (30000*all.length)):=ZZ (HL.out.two.fresh HB2.out)
   have HVP:Hid (∀ k,(Value.slice z1 RS.length z3).ownBlock=some k->(k<B∨(wr.heap.size<=k∧k<W2.heap.size))):=ZZ (fun k hk=>.inr (World.ownsRow.lt HO2.out k hk))
   have HPB:Hid (∀ k,(k<B∨(wr.heap.size<=k∧k<W2.heap.size))->k<W2.heap.size):=ZZ (fun k hk=>by have:=HB2.out.size;omega)
   have HBO2:Hid (Below B w W2):=ZZ (HL.out.old.trans (HB2.out.mono hBr))
   have HBW2:Hid (wr.heap.size<=W2.heap.size):=ZZ HB2.out.size
   have HPK1:Hid ((∀ k,k<B->(k<B∨(wr.heap.size<=k∧k<W2.heap.size)))∧∀ k,(k<B∨(wr.heap.size<=k∧k<W2.heap.size))->k<W2.heap.size):=ZZ ⟨fun k hk=>.inl hk,HPB.out⟩
   have HC2:Hid (∀ W,Below B w W->W.cell? ⟨rb,off+i*9+2,none⟩=some (.int .i64 xn)):=ZZ HCN.out
   generalize hPK:(fun k=>k<B∨(wr.heap.size<=k∧k<W2.heap.size))=PK at HTW
   have HPK:Hid ((∀ k,(Value.slice z1 RS.length z3).ownBlock=some k->PK k)∧(∀ k,k<B->PK k)∧∀ k,PK k->k<W2.heap.size):=ZZ (by
    rw[<-hPK]
    exact⟨HVP.out,HPK1.out.1,HPK1.out.2⟩)
   clear hPK HVP HPB HPK1 HO2 HB2 HKC HNXr HRC HSD
   have hB2:B<=W2.heap.size:=hS HBO2.out
   have HOB:Hid (∀ (W W':World) (K:Nat->Prop),(∀ k,PK k->K k)->Below B w W->ZaE (fun k=>¬ K k) W W'->Below B w W'):=ZZ (fun W W' K hk hb ho=>hb.trans (ho.below (hS hb) (fun k hn=>by
    apply Classical.byContradiction
    intro hlt
    exact hn (hk k (HPK.out.2.1 k (by omega))))))
   by_cases hfb:ZaY RS
   case neg=>
    have HAP:Hid (Calls Tryz.prog 22 #[ptr ps,.slice z1 RS.length z3] W2 fun e w'=>e=.returned (.int .i64 1)∧LoopP B w kind pd ps px pt (i+1) x1 x2 all w'):=ZZ (by
     obtain⟨K,q1,q2,q3,q4⟩:=HTW.out.call HPK.out.2.2
     have h9:=ZeD _ RS W2 q3 q1 HP1.out.room.run.ok HR2.out (.inr fun k hk=>q2 k (HPK.out.1 k hk)) (by have:=HP1.out.room.run.pcn;omega) (by
      have e1:x1.1.log.recs=all.drop x1.1.log.first.toNat:=HP1.out.room.run.recs
      rw[e1,List.length_drop]
      have:=HAL.out
      omega) (by omega) (by omega)
     have e:ZaT RS (x1.1,x1.2)=(x1,1):=by
      unfold ZaT
      rw[if_pos hfb]
     rw[e] at h9
     refine h9.mono ?_
     rintro e w' ⟨rfl,hs,ho⟩
     refine⟨rfl,?_,?_,by have:=HAL.out;omega,?_,HOB.out _ _ _ q2 HBO2.out ho⟩
     ·obtain⟨n,hn,hp⟩:=HL.out.p1
      exact⟨n,by omega,hp⟩
     ·exact HL.out.p2
     ·exact((q4 w' x1 _ _ hs ho).less HPK.out.2.1).mono (by omega) (by omega) zL zL)
    clear hfb HTW HOB
    go_wp2_with fail
    refine HAP.out.mono ?_
    rintro e W3 ⟨rfl,hl3⟩
    have HL3:=ZZ hl3
    clear hl3 HAP
    go_wp2
    go_roundw
    case rel=>exact⟨i+1,x1,x2,all,by go_num,by have:=HLT.out;omega,HL3⟩
    case measure=>have:=HLT.out;simp[intOf];omega
   have HFB:=ZZ hfb
   have hap:=HP1.out.append hfb (by rw[HNE.out.1];exact HRSH.out hfb) HRSL.out (by have:=HAL.out;have:=HRSL.out;omega)
   have HX1:=ZZ hap.2
   have HAP:Hid (Calls Tryz.prog 22 #[ptr ps,.slice z1 RS.length z3] W2 fun e w'=>e=.returned (.int .i64 0)∧Zig PK w' pd ps (ZaT RS x1).1 (4*i+2) (30000*i+30000) px pt x2 (6*all.length) (30000*all.length)∧RdR w' (.slice z1 RS.length z3) RS∧Below B w w'∧W2.heap.size<=w'.heap.size):=ZZ (by
    obtain⟨K,q1,q2,q3,q4⟩:=HTW.out.call HPK.out.2.2
    have hv:∀ k,(Value.slice z1 RS.length z3).ownBlock=some k->K k:=fun k hk=>q2 k (HPK.out.1 k hk)
    have h9:=ZeD _ RS W2 q3 q1 HP1.out.room.run.ok HR2.out (.inr hv) (by have:=HP1.out.room.run.pcn;omega) (by
     have e1:x1.1.log.recs=all.drop x1.1.log.first.toNat:=HP1.out.room.run.recs
     rw[e1,List.length_drop]
     have:=HAL.out
     omega) (by omega) (by omega)
    refine h9.mono ?_
    rintro e w' ⟨rfl,hs,ho⟩
    refine⟨by rw[show(ZaT RS (x1.1,x1.2)).2=0 from hap.1],q4 w' _ _ _ hs ho,HR2.out.keepK (.inr hv) ho,HOB.out _ _ _ q2 HBO2.out ho,ho.size⟩)
   generalize (ZaT RS x1).1=y1 at *
   clear hfb hap HTW
   go_wp2_with fail
   refine HAP.out.mono ?_
   rintro e W3 ⟨rfl,ht3,hr3,hb3,hs3⟩
   have HT3:=ZZ ht3
   have HR3:=ZZ hr3
   have HB3:=ZZ hb3
   have HS3:=ZZ hs3
   clear ht3 hr3 hb3 hs3 HAP HR2
   go_wp2
   go_loopw[15] (fun vk wk=>∃ (k:Nat) (y2:SDk),vk=.int .i64 (k:Int)∧k<=RS.length∧Hid (∃ n,n<=all.length+k∧ZeM kind y2 (all++RS.take k) n (all.length+k))∧Hid (Zig PK wk pd ps y1 (4*i+2) (30000*i+30000) px pt y2 (6*(all.length+k)) (30000*(all.length+k)))∧Hid (RdR wk (.slice z1 RS.length z3) RS)∧Hid (Below B w wk)∧Hid (W2.heap.size<=wk.heap.size)) (fun vk _=>RS.length-(intOf vk).toNat)
   case atStart=>exact⟨0,x2,rfl,Nat.zero_le _,ZZ ⟨n2,by omega,by rw[List.take_zero,List.append_nil];exact HP2.out⟩,HT3,HR3,HB3,HS3⟩
   case round=>
    clear HT3 HR3 HB3 HS3
    obtain⟨k,y2,rfl,hk,HPY,HTY,HRY,HBY,HSY⟩:=hrel
    by_cases hkl:k<RS.length
    case neg=>
     obtain rfl:k=RS.length:=by omega
     have HL3:Hid (LoopP B w kind pd ps px pt (i+1) y1 y2 (all++RS) wr):=ZZ (by
      have hle:(all++RS).length=all.length+RS.length:=List.length_append
      obtain⟨n,hn,hp⟩:=HPY.out
      rw[List.take_length] at hp
      refine⟨⟨n1+1,by have:=HN1.out;omega,by rw[hle];exact HX1.out⟩,⟨n,by rw[hle];exact hn,by rw[hle];exact hp⟩,by rw[hle];have:=HAL.out;have:=HRSL.out;omega,?_,HBY.out⟩
      rw[hle]
      exact(HTY.out.less HPK.out.2.1).mono (by omega) (by omega) zL zL)
     go_wp2
     go_roundw
     case rel=>exact⟨i+1,y1,y2,all++RS,by go_num,by have:=HLT.out;omega,HL3⟩
     case measure=>have:=HLT.out;simp[intOf];omega
    have HKL:=ZZ hkl
    have hk20:(k:Int)<=20:=by have:=HRSL.out;omega
    obtain⟨n5,hn5,hp5⟩:=HPY.out
    have HP5:=ZZ hp5
    have HN5:=ZZ hn5
    obtain⟨hf1,hid1⟩:=ZwT HFB.out hkl
    obtain⟨a',c',hcut,hcown,hrun⟩:=ZwS wr z1 RS z3 HRY.out k (k+1) (by omega) (by omega)
    have hrun1:=hrun (k:Int) ((k:Int)+1) rfl (by omega)
    rw[Zyj hkl] at hcut
    have HTK:=ZZ (Zvr hkl)
    generalize RS.getD k Zai=r1 at *
    have e1:k+1-k=1:=by omega
    rw[e1] at hcut hrun1 hcown
    have hnx2:y2.1.next=(all.length:Int)+k:=by
     have h1:y2.1.next=((all++RS.take k).length:Nat):=hp5.room.run.len
     rw[h1,List.length_append,List.length_take,Nat.min_eq_left (by omega)]
     omega
    have hap:=hp5.append hf1 (by
     show r1.idx=y2.1.next
     rw[hid1,HRSH.out HFB.out,hnx2,HNE.out.2.2]) (show(1:Nat)<=20 by decide) (by have:=HAL.out;have:=HRSL.out;show all.length+k+1<=4000;omega)
    have HX2:=ZZ hap.2
    have HAP:Hid (Calls Tryz.prog 22 #[ptr pt,.slice a' 1 c'] wr fun e w'=>e=.returned (.int .i64 0)∧Zig PK w' pd ps y1 (4*i+2) (30000*i+30000) px pt (ZaT [r1] y2).1 (6*(all.length+k)+2) (30000*(all.length+k)+30000)∧RdR w' (.slice z1 RS.length z3) RS∧Below B w w'∧W2.heap.size<=w'.heap.size):=ZZ (by
     obtain⟨K,q1,q2,q3,q4⟩:=HTY.out.swap.call (fun k hk=>Nat.lt_of_lt_of_le (HPK.out.2.2 k hk) HSY.out)
     have hv:∀ k,(Value.slice z1 RS.length z3).ownBlock=some k->K k:=fun k hk=>q2 k (HPK.out.1 k hk)
     have h9:=ZeD _ [r1] wr q3 q1 HP5.out.room.run.ok hcut (.inr fun k hk=>hv k (hcown k hk)) (by have:=HP5.out.room.run.pcn;have:=HAL.out;have:=HRSL.out;have:=HN5.out;omega) (by
      have e1:y2.1.log.recs=(all++RS.take k).drop y2.1.log.first.toNat:=HP5.out.room.run.recs
      rw[e1,List.length_drop,List.length_append,List.length_take]
      have:=HAL.out
      have:=HRSL.out
      omega) (by have:=HAL.out;have:=HRSL.out;omega) (by have:=HAL.out;have:=HRSL.out;omega)
     refine h9.mono ?_
     rintro e w' ⟨rfl,hs,ho⟩
     exact⟨by rw[show(ZaT [r1] (y2.1,y2.2)).2=0 from hap.1],(q4 w' _ _ _ hs ho).swap,HRY.out.keepK (.inr hv) ho,HOB.out _ _ _ q2 HBY.out ho,Nat.le_trans HSY.out ho.size⟩)
    generalize (ZaT [r1] y2).1=y3 at *
    clear hap hcut hcown hrun hf1 hid1 hnx2 e1 hp5 hn5
    go_wp2_with fail
    refine HAP.out.mono ?_
    rintro e W5 ⟨rfl,ht5,hr5,hb5,hs5⟩
    have HT5:=ZZ ht5
    have HR5:=ZZ hr5
    have HB5:=ZZ hb5
    have HS5:=ZZ hs5
    have cN:=HC2.out W5 hb5
    clear ht5 hr5 hb5 hs5 HAP hrun1
    by_cases hpar:xn.tmod 2=0
    ·have hpb:(xn.tmod 2 == 0)=true:=by rw[beq_iff_eq];exact hpar
     have hro:=HX2.out.rotate
     have HX3:=ZZ hro.2
     have HRT:Hid (Calls Tryz.prog 26 #[ptr pt] W5 fun e w'=>e=.returned (.int .i64 0)∧Zig PK w' pd ps y1 (4*i+2) (30000*i+30000) px pt (Zcc y3).1 (6*(all.length+(k+1))) (30000*(all.length+(k+1)))∧RdR w' (.slice z1 RS.length z3) RS∧Below B w w'∧W2.heap.size<=w'.heap.size):=ZZ (by
      obtain⟨K,q1,q2,q3,q4⟩:=HT5.out.swap.call (fun k hk=>Nat.lt_of_lt_of_le (HPK.out.2.2 k hk) HS5.out)
      have hv:∀ k,(Value.slice z1 RS.length z3).ownBlock=some k->K k:=fun k hk=>q2 k (HPK.out.1 k hk)
      refine(ZpN W5 q3 q1 (OkS.num HX2.out.room.run.ok)).mono ?_
      rintro e w' ⟨rfl,hs,ho⟩
      exact⟨by rw[show(Zcc (y3.1,y3.2)).2=0 from hro.1],(q4 w' _ _ _ hs ho).swap.mono zL zL (by omega) (by omega),HR5.out.keepK (.inr hv) ho,HOB.out _ _ _ q2 HB5.out ho,Nat.le_trans HS5.out ho.size⟩)
     generalize (Zcc y3).1=y4 at *
     clear hpar hro
     go_wp2_with fail
     refine HRT.out.mono ?_
     rintro e W6 ⟨rfl,ht6,hr6,hb6,hs6⟩
     have HT6:=ZZ ht6
     have HR6:=ZZ hr6
     have HB6:=ZZ hb6
     have HS6:=ZZ hs6
     clear ht6 hr6 hb6 hs6 HRT
     go_wp2
     go_roundw
     case rel=>
      refine⟨k+1,y4,by go_num,by have:=HKL.out;omega,ZZ ⟨n5+1,by have:=HN5.out;omega,?_⟩,HT6,HR6,HB6,HS6⟩
      rw[HTK.out,<-List.append_assoc]
      exact HX3.out
     case measure=>have:=HKL.out;simp[intOf];omega
    ·have hpb:(xn.tmod 2 == 0)=false:=beq_eq_false_iff_ne.2 hpar
     clear hpar
     go_wp2
     go_roundw
     case rel=>
      refine⟨k+1,y3,by go_num,by have:=HKL.out;omega,ZZ ⟨n5+1,by have:=HN5.out;omega,?_⟩,ZZ (HT5.out.mono zL zL (by omega) (by omega)),HR5,HB5,HS5⟩
      rw[HTK.out,<-List.append_assoc]
      exact HX2.out
     case measure=>have:=HKL.out;simp[intOf];omega
theorem own:ownKnob Tryz.prog.godebug=none:=by kernel_rfl
theorem laidOut:laidOutB Tryz.prog=true:=by kernel_rfl
set_option linter.unusedVariables false in
theorem lifted (os:Os) (started:os.Started) (H:Type) (enc:TypeId × Value->H):
 ReturnsInHanded {} Tryz.checked os 6 .any (fun w args=>(Rows.storePartsSpec.pre enc Tryz.prog Tryz.f6 Rows.storePartsRow.domain false w args∧laidMetH Tryz.prog Rows.storePartsRow.laid w)∧sizedMet enc Tryz.prog Tryz.f6 (OpenSpec.ofChange Rows.storePartsSpec) false w args) (Rows.storePartsSpec.post enc Tryz.prog Tryz.f6 false true false false):=by
 refine returnsInHanded_of_change_and (C:=Tryz.checked) (X:=fun w _=>laidMetH Tryz.prog Rows.storePartsRow.laid w) (fun _ _ _ hh h=>h.of_heap hh) own started (by kernel_rfl) Tryz.func6
  (ChangeSpec.witness_shaped (enc:=enc) (C:=Tryz.checked) (os:=os) (X:=fun w _=>laidMetH Tryz.prog Rows.storePartsRow.laid w) false (World.doorLaid Tryz.prog 400 os) #[.int .i64 0,.slice none 0 0] 8 rfl (World.shaped_of_RefB (by kernel_rfl) (by kernel_rfl)) (by kernel_rfl) (by kernel_rfl) (by kernel_rfl) (ZwV os _)) ?_
 intro W base args ds gs before hval0 hW hcnd _ hL _
 have hval:∀ (j:Nat) t v,Tryz.f6.params[j]?=some t->args[j]?=some v->Value.okWide Tryz.prog W .any base t v:=hval0
 have hW':=hW
 obtain⟨p,q,hA0,hV,rfl,hfz,hnd⟩:=hW
 have hA:DataW.TrodAll enc Tryz.prog W 0 (fun _=>true) true Tryz.f6.params.toList args.toList ds p:=hA0
 rw[Tryz.params6] at hA hval
 obtain⟨v0,vs0,d0,ds0,p0,q0,hargs,rfl,rfl,h0,r0⟩:=trodAll_cons hA
 obtain⟨v1,vs1,d1,ds1,p1,q1,rfl,rfl,rfl,h1,r1⟩:=trodAll_cons r0
 obtain⟨rfl,rfl,rfl⟩:=trodAll_nil r1
 obtain rfl:args=#[v0,v1]:=by cases args;simp_all
 obtain⟨rfl,rfl⟩:=trodVars_none hV
 obtain⟨a0,rfl,rfl,rfl,w0⟩:=open_int Tryz.underlying3 (hval 0 3 v0 rfl rfl) h0
 obtain⟨a1,len1,cap1,rfl⟩:=okWide_slice Tryz.underlying22 (hval 1 22 v1 rfl rfl)
 have k1:=h1
 have lt1:∀ x ∈ p1,x.block<W.heap.size:=by obtain⟨m,hm⟩:=k1;exact DataW.trod_lt m _ _ _ hm
 obtain⟨l1,w1⟩:∃ l,RdS W (.slice a1 len1 cap1) l:=by
  obtain⟨fuel,hf⟩:=h1
  obtain⟨v,l,hcs,hr⟩:=Zvf hf
  simp[Value.cells] at hcs
  subst hcs
  exact⟨l,hr⟩
 clear hA0 hval0
 refine(walk a0 _ l1 W w0 w1 (tabs hL)).mono fun e W' ⟨he,bel⟩=>?_
 subst he
 exact⟨_,rfl,_,_,_,[],_,[],hW',trodAll_mk1 (shut_bool Tryz.underlying4 _),(trodAll_cons_mk (shut_int Tryz.underlying3 w0) (trodAll_cons_mk (Below.trod laidOut (by kernel_rfl) (of_decide_eq_true (by kernel_rfl)) k1 bel lt1) trodAll_mk0)),rfl,bel.frame _,fun h=>by cases h⟩
theorem over:Rows.storePartsRow.holds Tryz.pinned (OpenSpec.ofChange Rows.storePartsSpec):=
 OpenClaim.holds_of_wide 6 Tryz.f6 rfl rfl rfl rfl rfl rfl rfl ⟨rfl,rfl,rfl,rfl,rfl⟩ rfl rfl rfl rfl rfl (by kernel_rfl) Tryz.func6 (by kernel_rfl)
  (of_decide_eq_true (by kernel_rfl)) (by unfold Func.isWrapper;first | (rw[if_pos (by decide +kernel)];kernel_rfl) | (rw[if_neg (by decide +kernel)];exact⟨rfl,rfl⟩))
  (fun os started H enc _=>lifted os started H enc)
end Go.Proofs.YtnahjngbneicaaaGreatDoor.storeParts
namespace Go.Proofs.YtnahjngbneicaaaGreatDoor
theorem storeParts_holds:Rows.StorePartsCardSaid:=
 Claim7.holds_tied_plain_at .later [] _ _ _ _ storeParts.over (fun _ h=>by cases h) (by kernel_rfl) (fun _ h=>by cases h) storeParts_row_tie rfl ⟨rfl,rfl⟩ (by kernel_rfl) rfl
  (fun f fn hf hfn=>by
   obtain rfl : f = 6 := Option.some.inj ((show Tryz.prog.funcNamed "ferryman/ferrymanlaw12.StoreParts" = some 6 by kernel_rfl).symm.trans hf) |>.symm
   obtain rfl:fn=Tryz.f6:=(Option.some.inj (Tryz.func6.symm.trans hfn)).symm
   exact⟨by kernel_rfl,fun j t ht=>by
    rw[Tryz.params6] at ht
    have hm:t ∈ [3,22]:=by simpa using Array.mem_of_getElem? ht
    have hall:([3,22].all fun u=>!Tryz.prog.wantsStandIn u)=true:=by kernel_rfl
    exact(show Tryz.prog.wantsStandIn t=false by simpa using List.all_eq_true.1 hall t hm)⟩)
  (by kernel_rfl)
end Go.Proofs.YtnahjngbneicaaaGreatDoor
