/- Proved: for every kind, all calls and all places the law StoreReads answers true (and the call leaves all older memory as it was), where the listed variable has its listed value. -/
import Derived.Test.YtfiffndhehkapaaGreatDoorStoreRunR
import Derived.Test.YtfiffndhehkapaaGreatDoorStoreRunQ
import Derived.Test.YtfiffndhehkapaaGreatDoorRef07S
import Derived.Test.YtfiffndhehkapaaGreatDoorSchemaTab
import Derived.OpenShut
import Derived.ChangeOld
namespace Go.Proofs.YtfiffndhehkapaaGreatDoor.storeReads
set_option maxRecDepth 100000
open Go.ChangeShapes Go.WideShapes Go.ChangeAt Go.RowKit
set_option maxHeartbeats 8000000 in
theorem walk (kind:Int) (v:Value) (l:List SOp) (fr tz:Int) (w:World) (_hkd:(Lit.int .i64 kind).wf=true) (hl:RdS w v l) (_hfr:(Lit.int .i64 fr).wf=true) (_htz:(Lit.int .i64 tz).wf=true) (_ht:TabF w):
 Calls Tryz.prog 7 #[.int .i64 kind,v,.int .i64 fr,.int .i64 tz] w fun e w'=>e=.returned (.bool true)∧Below w.heap.size w w':=by
 have HAW:=ZZ (Zva w)
 have HRL:=ZZ hl
 obtain⟨la,lc,hv,-⟩:=id hl
 have HV:=ZZ hv
 subst hv
 clear _hkd _ht _hfr _htz hl
 obtain⟨B,hB⟩:∃ B,B=w.heap.size:=⟨_,rfl⟩
 have HBE:=ZZ hB
 rw[<-hB] at HAW ⊢
 clear hB
 have hS:∀ {W:World},Below B w W->B<=W.heap.size:=fun h=>Nat.le_trans (by rw[HBE.out];exact Nat.le_refl _) h.size
 have hpe:=hpeD
 have hpn:=hpnD
 have hps:=ZBG
 go_enter Tryz.func7,Tryz.ntmps7
 go_wp2_with fail
 refine HAW.out.mono ?_
 rintro e W1 ⟨rfl,hb1⟩
 have HB1:=ZZ hb1
 have HFW:=ZZ (ZyZ _ l W1 (HRL.out.below hb1 (by rw[HBE.out];exact Nat.le_refl _)))
 clear hb1 HAW
 go_wp2_with fail
 refine HFW.out.mono ?_
 rintro e W1' ⟨FB,rfl,hfw,rfl⟩
 have HFP:=ZZ hfw
 have HN:=ZZ (ZsC B 1000000 ⟨by decide,by decide⟩ W1' (hS HB1.out))
 clear hfw HFW
 go_wp2_with fail
 refine HN.out.mono ?_
 rintro e W2 ⟨pd,rfl,hd2,hb2⟩
 have HD2:=ZZ hd2
 have HB2:=ZZ (HB1.out.trans hb2)
 clear hd2 hb2 HN
 cases FB with
 | false=>
  go_wp2
  go_ret
  exact⟨by first | rfl | simp,HB2.out⟩
 | true=>
 have HFEW:=ZZ (HFP.out rfl)
 clear HFP HB1
 by_cases hk0:kind<0
 case pos=>
  have hk0':decide (kind<0)=true:=decide_eq_true hk0
  go_wp2
  go_ret
  exact⟨by first | rfl | simp,HB2.out⟩
 by_cases hk1:6<=kind
 case pos=>
  have hk0':decide (kind<0)=false:=decide_eq_false hk0
  have hk1':decide (kind ≥ 6)=true:=decide_eq_true hk1
  go_wp2
  go_ret
  exact⟨by first | rfl | simp,HB2.out⟩
 have hk0':decide (kind<0)=false:=decide_eq_false hk0
 have hk1':decide (kind ≥ 6)=false:=decide_eq_false (by omega)
 have HRUN:=ZZ (ZAy (room:=1000000) kind _ l w W2 HBE.out HRL.out HB2.out HD2.out (by omega) (by omega) HFEW.out.1)
 have HRO:=ZZ (Zzi (room:=1000000) (kind:=kind) (by omega) (by omega) l)
 have HFTS:=ZZ (ZxD kind 1000000 l)
 have hlen:=HFEW.out.1
 generalize ZAx kind 1000000 l=X at *
 clear hk0 hk1 HFEW
 go_wp2_with fail
 refine HRUN.out.mono ?_
 rintro e W3 ⟨p,va,rfl,hw3⟩
 have HW3:=ZZ hw3
 obtain⟨aa,ac,hva⟩:=hw3.own.shape
 have hBw:B<=w.heap.size:=by rw[HBE.out];exact Nat.le_refl _
 have hB3:B<=W3.heap.size:=hS hw3.old
 have HOK:=ZZ HRO.out.ok
 have HRL2:Hid (X.1.1.log.recs.length<=1000000):=ZZ (by
  have h1:=HRO.out.rcn
  have h2:X.1.1.log.recs=X.2.drop X.1.1.log.first.toNat:=HRO.out.recs
  rw[h2,List.length_drop]
  omega)
 have HRC:Hid (Calls Tryz.prog 18 #[ptr p,.int .i64 fr,.int .i64 tz] W3 fun e w'=>∃ v,e=.returned (.tuple #[v,.int .i64 (ZbX X.1.1 fr tz).2])∧Zbm w' W3.heap.size v (ZbX X.1.1 fr tz).1∧Below W3.heap.size W3 w'):=ZZ (by
  obtain⟨F,M,I,L,h1,h2,-⟩:=hw3.sd
  exact ZiS fr tz W3 h2 HOK.out.num HOK.out.log.recOk HRL2.out)
 have HNX:Hid (∀ W,Below W3.heap.size W3 W->Calls Tryz.prog 15 #[ptr p] W fun e w'=>e=.returned (.int .i64 X.1.1.next)∧Below W.heap.size W w'):=ZZ (fun W hW=>(HW3.out.sd.below hW).next HOK.out.num)
 have HFI:Hid (∀ W,Below W3.heap.size W3 W->Calls Tryz.prog 19 #[ptr p] W fun e w'=>e=.returned (.int .i64 X.1.1.log.first)∧w'=W):=ZZ (fun W hW=>by
  obtain⟨F,M,I,L,h1,h2,-⟩:=HW3.out.sd.below hW
  exact ZmE W h2)
 subst hva
 have HLN:Hid (X.1.1.next=X.2.length):=ZZ HRO.out.len
 obtain⟨nx,hnx⟩:∃ nx,nx=X.1.1.next:=⟨_,rfl⟩
 obtain⟨f1,hf1⟩:∃ f,f=X.1.1.log.first:=⟨_,rfl⟩
 have HRX:Hid ((fr<0∨tz<fr∨nx<tz->ZbX X.1.1 fr tz=([],12))∧(¬ (fr<0∨tz<fr∨nx<tz)->fr<f1->ZbX X.1.1 fr tz=([],13))∧(¬ (fr<0∨tz<fr∨nx<tz)->¬ fr<f1->ZbX X.1.1 fr tz=((X.2.take tz.toNat).drop fr.toNat,0))):=ZZ (by
  refine⟨fun h=>?_,fun h h2=>?_,fun h h2=>?_⟩
  ·unfold ZbX
   rw[<-hnx,if_pos h]
  ·unfold ZbX
   rw[<-hnx,if_neg h,<-hf1,if_pos h2]
  ·exact HRO.out.reads (by rw[<-hf1];omega) (by omega) (by rw[<-hnx];omega))
 have HROK:Hid (∀ r ∈ X.2,ZfA r):=ZZ (fun r hr=>ZdL (HFTS.out r hr))
 have HRD:Hid (∀ W,Below W3.heap.size W3 W->RdR W (.slice aa X.2.length ac) X.2):=ZZ (fun W hW=>(HW3.out.own.rdF HFTS.out).below hW zL)
 have HNL:Hid (nx=(X.2.length:Int)):=ZZ (by rw[hnx];exact HLN.out)
 have HML:Hid ((X.2.length:Int)<=1300):=ZZ (by have:=HRO.out.rcn;omega)
 rw[<-hnx] at HNX
 rw[<-hf1] at HFI
 have HB3:=ZZ hw3.old
 obtain⟨RS,hRS⟩:∃ RS,RS=ZbX X.1.1 fr tz:=⟨_,rfl⟩
 rw[<-hRS] at HRC HRX
 obtain⟨rl,rc⟩:=RS
 dsimp only at HRC
 clear hnx hf1 hRS hw3 HRUN HW3 HRO HOK HRL2 HLN HFTS
 generalize X.2=all at *
 generalize hal:all.length=an at *
 have HAN:=ZZ hal
 clear hal
 clear hB3 hBw
 generalize X.1.1=xs at *
 have hpt:(p:Nat)=p:=rfl
 clear hpt
 go_wp2_with fail
 refine HRC.out.mono ?_
 rintro e W4 ⟨v4,rfl,ho4,hb4⟩
 obtain⟨z1,z2,z3,hz⟩:∃ a n c,v4=Value.slice a n c:=by
  obtain⟨a,c,hh⟩:=ho4.shape
  exact⟨a,_,c,hh⟩
 have HN4:Hid (z2=rl.length):=ZZ (by
  obtain⟨a,c,hh⟩:=ho4.shape
  rw[hz] at hh
  injection hh)
 subst hz
 have HO4:=ZZ ho4
 have HB4:=ZZ hb4
 have HBB4:=ZZ (HB3.out.trans (hb4.mono (hS HB3.out)))
 clear ho4 hb4 HRC
 by_cases c1:fr<0
 case pos=>
  have hrx:=HRX.out.1 (.inl c1)
  injection hrx with hr1 hr2
  have hz2:z2=0:=by rw[HN4.out,hr1];rfl
  subst hr2 hz2
  have hd1:decide (fr<0)=true:=decide_eq_true c1
  clear hr1 HRX c1
  go_wp2
  go_ret
  exact⟨by first | rfl | simp,HBB4.out⟩
 have hd1:decide (fr<0)=false:=decide_eq_false c1
 by_cases c2:fr>tz
 case pos=>
  have hrx:=HRX.out.1 (.inr (.inl c2))
  injection hrx with hr1 hr2
  have hz2:z2=0:=by rw[HN4.out,hr1];rfl
  subst hr2 hz2
  have hd2:decide (fr>tz)=true:=decide_eq_true c2
  clear hr1 HRX c1 c2
  go_wp2
  go_ret
  exact⟨by first | rfl | simp,HBB4.out⟩
 have hd2:decide (fr>tz)=false:=decide_eq_false c2
 have HNX4:=ZZ (HNX.out W4 HB4.out)
 by_cases c3:tz>nx
 case pos=>
  have hrx:=HRX.out.1 (.inr (.inr c3))
  injection hrx with hr1 hr2
  have hz2:z2=0:=by rw[HN4.out,hr1];rfl
  subst hr2 hz2
  have hd3:decide (tz>nx)=true:=decide_eq_true c3
  clear hr1 HRX c1 c2 c3 HNX
  go_wp2_with fail
  refine HNX4.out.mono ?_
  rintro e W5 ⟨rfl,hb5⟩
  have HB5:=ZZ (HBB4.out.trans (hb5.mono (hS HBB4.out)))
  clear hb5 HNX4
  go_wp2
  go_ret
  exact⟨by first | rfl | simp,HB5.out⟩
 have hd3:decide (tz>nx)=false:=decide_eq_false c3
 have hno:¬ (fr<0∨tz<fr∨nx<tz):=by omega
 clear HNX4
 have HNX4:=ZZ (HNX.out W4 HB4.out)
 by_cases c4:fr<f1
 case pos=>
  have hrx:=HRX.out.2.1 hno c4
  injection hrx with hr1 hr2
  have hz2:z2=0:=by rw[HN4.out,hr1];rfl
  subst hr2 hz2
  have hd4:decide (fr<f1)=true:=decide_eq_true c4
  clear hr1 HRX c1 c2 c3 c4 hno HNX
  go_wp2_with fail
  refine HNX4.out.mono ?_
  rintro e W5 ⟨rfl,hb5⟩
  have HB5:=ZZ (HBB4.out.trans (hb5.mono (hS HBB4.out)))
  have HF5:=ZZ (HFI.out W5 (HB4.out.trans (hb5.mono HB4.out.size)))
  clear hb5 HNX4
  go_wp2_with fail
  refine HF5.out.mono ?_
  rintro e W6 ⟨rfl,rfl⟩
  go_wp2
  go_ret
  exact⟨by first | rfl | simp,HB5.out⟩
 have hd4:decide (fr<f1)=false:=decide_eq_false c4
 have hrx:=HRX.out.2.2 hno (by omega)
 injection hrx with hr1 hr2
 subst hr2
 have HR1:=ZZ hr1
 have HFT2:Hid (0<=fr∧fr<=tz∧tz<=nx):=ZZ (by omega)
 have hfi:-9223372036854775808<=fr∧fr<=9223372036854775807:=by have:=HNL.out;have:=HML.out;omega
 have hti:-9223372036854775808<=tz∧tz<=9223372036854775807:=by have:=HNL.out;have:=HML.out;omega
 obtain⟨hfi0,hfi1⟩:=hfi
 obtain⟨hti0,hti1⟩:=hti
 clear hr1 HRX c1 c2 c3 c4 hno
 go_wp2_with fail
 refine HNX4.out.mono ?_
 rintro e W5 ⟨rfl,hb5⟩
 have HB5:=ZZ (HBB4.out.trans (hb5.mono (hS HBB4.out)))
 have HB35:=ZZ (HB4.out.trans (hb5.mono HB4.out.size))
 have HF5:=ZZ (HFI.out W5 HB35.out)
 have HRL5:Hid (RdR W5 (.slice z1 z2 z3) rl):=ZZ ((HO4.out.rd (fun r hr=>HROK.out r (by
  rw[HR1.out] at hr
  exact List.mem_of_mem_take (List.mem_of_mem_drop hr)))).below hb5 zL)
 have HRD5:=ZZ (HRD.out W5 HB35.out)
 clear hb5 HNX4 HO4
 go_wp2_with fail
 refine HF5.out.mono ?_
 rintro e W6 ⟨rfl,rfl⟩
 have hcr:=HRD5.out
 rw[<-HAN.out] at hcr
 obtain⟨a',c',hcut,hrun⟩:=ZsI W6 aa all ac hcr fr.toNat tz.toNat (by have:=HFT2.out;omega) (by have:=HFT2.out;have:=HNL.out;have:=HAN.out;omega)
 have hrun1:=hrun fr tz (by have:=HFT2.out;omega) (by have:=HFT2.out;omega)
 rw[HAN.out] at hrun1
 have HSM:Hid (Calls Tryz.prog 20 #[.slice z1 z2 z3,.slice a' (tz.toNat-fr.toNat) c'] W6 fun e w'=>e=.returned (.bool true)∧Below W6.heap.size W6 w'):=ZZ (by
  have h9:=Zqo _ rl _ _ W6 HRL5.out hcut
  have e9:rl=(all.drop fr.toNat).take (tz.toNat-fr.toNat):=by
   rw[HR1.out,List.drop_take]
  rw[<-e9] at h9
  rw[show decide (rl=rl)=true from decide_eq_true rfl] at h9
  exact h9)
 generalize tz.toNat-fr.toNat=cn at *
 clear hcut hrun hcr HF5
 go_wp2_with fail
 refine HSM.out.mono ?_
 rintro e W7 ⟨rfl,hb7⟩
 have HB7:=ZZ (HB5.out.trans (hb7.mono (hS HB5.out)))
 have HNX7:=ZZ (HNX.out W7 (HB35.out.trans (hb7.mono HB35.out.size)))
 have hneq:(nx == (an:Int))=true:=by rw[beq_iff_eq];exact HNL.out
 clear hb7 HSM hrun1
 go_wp2_with fail
 refine HNX7.out.mono ?_
 rintro e W8 ⟨rfl,hb8⟩
 have HB8:=ZZ (HB7.out.trans (hb8.mono (hS HB7.out)))
 clear hb8
 go_wp2
 go_ret
 exact⟨by first | rfl | simp,HB8.out⟩
theorem own:ownKnob Tryz.prog.godebug=none:=by kernel_rfl
theorem laidOut:laidOutB Tryz.prog=true:=by kernel_rfl
set_option linter.unusedVariables false in
theorem lifted (os:Os) (started:os.Started) (H:Type) (enc:TypeId × Value->H):
 ReturnsInHanded {} Tryz.checked os 7 .any (fun w args=>(Rows.storeReadsSpec.pre enc Tryz.prog Tryz.f7 Rows.storeReadsRow.domain false w args∧laidMetH Tryz.prog Rows.storeReadsRow.laid w)∧sizedMet enc Tryz.prog Tryz.f7 (OpenSpec.ofChange Rows.storeReadsSpec) false w args) (Rows.storeReadsSpec.post enc Tryz.prog Tryz.f7 false true false false):=by
 refine returnsInHanded_of_change_and (C:=Tryz.checked) (X:=fun w _=>laidMetH Tryz.prog Rows.storeReadsRow.laid w) (fun _ _ _ hh h=>h.of_heap hh) own started (by kernel_rfl) Tryz.func7
  (ChangeSpec.witness_shaped (enc:=enc) (C:=Tryz.checked) (os:=os) (X:=fun w _=>laidMetH Tryz.prog Rows.storeReadsRow.laid w) false (World.doorLaid Tryz.prog 400 os) #[.int .i64 0,.slice none 0 0,.int .i64 0,.int .i64 0] 8 rfl (World.shaped_of_RefB (by kernel_rfl) (by kernel_rfl)) (by kernel_rfl) (by kernel_rfl) (by kernel_rfl) (Zzk os _)) ?_
 intro W base args ds gs before hval0 hW hcnd _ hL _
 have hval:∀ (j:Nat) t v,Tryz.f7.params[j]?=some t->args[j]?=some v->Value.okWide Tryz.prog W .any base t v:=hval0
 have hW':=hW
 obtain⟨p,q,hA0,hV,rfl,hfz,hnd⟩:=hW
 have hA:DataW.TrodAll enc Tryz.prog W 0 (fun _=>true) true Tryz.f7.params.toList args.toList ds p:=hA0
 rw[Tryz.params7] at hA hval
 obtain⟨v0,vs0,d0,ds0,p0,q0,hargs,rfl,rfl,h0,r0⟩:=trodAll_cons hA
 obtain⟨v1,vs1,d1,ds1,p1,q1,rfl,rfl,rfl,h1,r1⟩:=trodAll_cons r0
 obtain⟨v2,vs2,d2,ds2,p2,q2,rfl,rfl,rfl,h2,r2⟩:=trodAll_cons r1
 obtain⟨v3,vs3,d3,ds3,p3,q3,rfl,rfl,rfl,h3,r3⟩:=trodAll_cons r2
 obtain⟨rfl,rfl,rfl⟩:=trodAll_nil r3
 obtain rfl:args=#[v0,v1,v2,v3]:=by cases args;simp_all
 obtain⟨rfl,rfl⟩:=trodVars_none hV
 obtain⟨a0,rfl,rfl,rfl,w0⟩:=open_int Tryz.underlying3 (hval 0 3 v0 rfl rfl) h0
 obtain⟨a1,len1,cap1,rfl⟩:=okWide_slice Tryz.underlying22 (hval 1 22 v1 rfl rfl)
 have k1:=h1
 have lt1:∀ x ∈ p1,x.block<W.heap.size:=by obtain⟨m,hm⟩:=k1;exact DataW.trod_lt m _ _ _ hm
 obtain⟨l1,w1⟩:∃ l,RdS W (.slice a1 len1 cap1) l:=by
  obtain⟨fuel,hf⟩:=h1
  obtain⟨v,l,hcs,hr⟩:=Zxm hf
  simp[Value.cells] at hcs
  subst hcs
  exact⟨l,hr⟩
 obtain⟨a2,rfl,rfl,rfl,w2⟩:=open_int Tryz.underlying3 (hval 2 3 v2 rfl rfl) h2
 obtain⟨a3,rfl,rfl,rfl,w3⟩:=open_int Tryz.underlying3 (hval 3 3 v3 rfl rfl) h3
 clear hA0 hval0
 refine(walk a0 _ l1 a2 a3 W w0 w1 w2 w3 (tabs hL)).mono fun e W' ⟨he,bel⟩=>?_
 subst he
 exact⟨_,rfl,_,_,_,[],_,[],hW',trodAll_mk1 (shut_bool Tryz.underlying4 _),(trodAll_cons_mk (shut_int Tryz.underlying3 w0) (trodAll_cons_mk (Below.trod laidOut (by kernel_rfl) (of_decide_eq_true (by kernel_rfl)) k1 bel lt1) (trodAll_cons_mk (shut_int Tryz.underlying3 w2) (trodAll_cons_mk (shut_int Tryz.underlying3 w3) trodAll_mk0)))),rfl,bel.frame _,fun h=>by cases h⟩
theorem over:Rows.storeReadsRow.holds Tryz.pinned (OpenSpec.ofChange Rows.storeReadsSpec):=
 OpenClaim.holds_of_wide 7 Tryz.f7 rfl rfl rfl rfl rfl rfl rfl ⟨rfl,rfl,rfl,rfl,rfl⟩ rfl rfl rfl rfl rfl (by kernel_rfl) Tryz.func7 (by kernel_rfl)
  (of_decide_eq_true (by kernel_rfl)) (by unfold Func.isWrapper;first | (rw[if_pos (by decide +kernel)];kernel_rfl) | (rw[if_neg (by decide +kernel)];exact⟨rfl,rfl⟩))
  (fun os started H enc _=>lifted os started H enc)
end Go.Proofs.YtfiffndhehkapaaGreatDoor.storeReads
namespace Go.Proofs.YtfiffndhehkapaaGreatDoor
theorem storeReads_holds:Rows.StoreReadsCardSaid:=
 Claim7.holds_tied_plain_at .later [] _ _ _ _ storeReads.over (fun _ h=>by cases h) (by kernel_rfl) (fun _ h=>by cases h) storeReads_row_tie rfl ⟨rfl,rfl⟩ (by kernel_rfl) rfl
  (fun f fn hf hfn=>by
   obtain rfl : f = 7 := Option.some.inj ((show Tryz.prog.funcNamed "ferryman/ferrymanlaw12.StoreReads" = some 7 by kernel_rfl).symm.trans hf) |>.symm
   obtain rfl:fn=Tryz.f7:=(Option.some.inj (Tryz.func7.symm.trans hfn)).symm
   exact⟨by kernel_rfl,fun j t ht=>by
    rw[Tryz.params7] at ht
    have hm:t ∈ [3,22,3,3]:=by simpa using Array.mem_of_getElem? ht
    have hall:([3,22,3,3].all fun u=>!Tryz.prog.wantsStandIn u)=true:=by kernel_rfl
    exact(show Tryz.prog.wantsStandIn t=false by simpa using List.all_eq_true.1 hall t hm)⟩)
  (by kernel_rfl)
end Go.Proofs.YtfiffndhehkapaaGreatDoor
