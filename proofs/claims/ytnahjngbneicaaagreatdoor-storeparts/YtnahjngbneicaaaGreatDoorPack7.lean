import Derived.Test.YtnahjngbneicaaaGreatDoorPack6
import Derived.Lib.SliceRun
import Derived.Test.YtnahjngbneicaaaGreatDoorPack4
import Derived.Shelf.Abstract
import Derived.Deep.QuietTactic
import Derived.BigQuiet
import Derived.Deep.RegionHeld2
import Derived.BigRegion
import Derived.Deep.DeepCutAuto
import Derived.Lib.AppendZerosOnto
import Derived.Lib.LazyBuf
namespace Go.Proofs.YtnahjngbneicaaaGreatDoor
set_option maxHeartbeats 4000000
set_option maxRecDepth 100000
open Go.RowKit
theorem ZnF {l:List Int} {j:Nat} (h:j<l.length):l.getD j 0 ∈ l:=by
 rw[show l.getD j 0=l[j] by simp[List.getD,h]]
 exact List.getElem_mem h
def ZyH (p:Int->Bool) (l:List Int) (k:Int):Prop:=(k=-1∧∀ j,j<l.length->p (l.getD j 0)=false)∨∃ i:Nat,k=(i:Int)∧i<l.length∧(∀ j,j<i->p (l.getD j 0)=false)∧p (l.getD i 0)=true
theorem ZkC (g R:Nat) (p:Int->Bool) (v:Value) (l:List Int) (w:World) (hr:RdI w v l)
 (eg:∀ args W,(callFunc g args).run Tryz.prog W=.ok (.enter g args) W)
 (hp:∀ W e,e ∈ l->Below w.heap.size w W->Calls Tryz.prog g #[.int .i64 e,.pointer (some ⟨R,0,none⟩)] W fun x w'=>x=.returned (.bool (p e))∧Below W.heap.size W w'):
 Calls Tryz.prog 158 #[v,.func (.func g) #[] #[.pointer (some ⟨R,0,none⟩)]] w fun x w'=>∃ k:Int,x=.returned (.int .i64 k)∧ZyH p l k∧Below w.heap.size w w':=by
 have HR:=ZZ hr
 have HP:=ZZ hp
 obtain⟨va,vc,rfl,hlc,hcm,-,-,hao⟩:=hr
 have HAO:=ZZ hao
 have hml:(l.length:Int)<=9223372036854775807:=by unfold maxLen at hcm;omega
 clear hp hlc hcm hao
 go_enter Tryz.func158,Tryz.ntmps158
 go_wp2
 go_loopw[8] (fun vi wr=>∃ q:Nat,vi=.int .i64 (q:Int)∧q<=l.length∧Hid (∀ j,j<q->p (l.getD j 0)=false)∧Hid (Below w.heap.size w wr)) (fun vi _=>l.length-(intOf vi).toNat)
 case atStart=>exact⟨0,rfl,Nat.zero_le _,ZZ (fun j hj=>absurd hj (Nat.not_lt_zero _)),Below.refl _ _⟩
 case round=>
  obtain⟨q,rfl,hq,hN,hB⟩:=hrel
  by_cases hlt:q<l.length
  case neg=>
   obtain rfl:q=l.length:=by omega
   go_wp2
   go_ret
   exact⟨-1,rfl,.inl ⟨rfl,hN.out⟩,hB.out⟩
  have hqi:(q:Int)<(l.length:Int):=by omega
  rcases HAO.out with h0 | ⟨b,off,rfl,hc⟩
  ·rw[h0] at hlt;simp at hlt
  have c0:wr.cell? ⟨b,off+q,none⟩=some (.int .i64 (l.getD q 0)):=(World.cell?_of_block (a:=⟨b,off+q,none⟩) (hB.out.block b (World.block_lt_of_cell? w ⟨b,off+q,none⟩ (hc q hlt)))).trans (hc q hlt)
  have HC:=ZZ (HP.out wr (l.getD q 0) (ZnF hlt) hB.out)
  have HX:Hid (∀ j,j<q+1->j=q∨j<q):=ZZ (fun j hj=>by omega)
  obtain⟨e,he⟩:∃ e,e=l.getD q 0:=⟨_,rfl⟩
  rw[<-he] at HC c0
  have HE:=ZZ he
  obtain⟨pe,hpe⟩:∃ pe,pe=p e:=⟨_,rfl⟩
  rw[<-hpe] at HC
  have HPE:=ZZ hpe
  clear he hc HP HAO HR hpe
  go_wp2_with fail
  refine HC.out.mono ?_
  rintro x W1 ⟨rfl,hb1⟩
  have HB1:=ZZ (hB.out.trans (hb1.mono hB.out.size))
  clear hb1 HC
  cases pe with
  | true=>
   go_wp2
   go_ret
   exact⟨(q:Int),rfl,.inr ⟨q,rfl,hlt,hN.out,by rw[<-HE.out];exact HPE.out.symm⟩,HB1.out⟩
  | false=>
   go_wp2
   go_roundw
   case rel=>exact⟨q+1,by go_num,by omega,ZZ (fun j hj=>by
    rcases HX.out j hj with h | h
    ·rw[h,<-HE.out];exact HPE.out.symm
    ·exact hN.out j h),HB1⟩
   case measure=>simp[intOf];omega
theorem Zfb (p:Int->Bool) (l:List Int) (j:Nat) (hj:j<l.length):(l.take (j+1)).filter (fun e=>!p e)=(l.take j).filter (fun e=>!p e)++if p (l.getD j 0)=true then[] else[l.getD j 0]:=by
 have e1:l.take (j+1)=l.take j++[l.getD j 0]:=by
  rw[List.take_add_one,List.getElem?_eq_getElem hj]
  simp[List.getD,hj]
 rw[e1,List.filter_append]
 congr 1
 generalize l.getD j 0=x
 cases h:p x <;> simp[h]
theorem ZhV (p:Int->Bool) (l:List Int) (i:Nat) (hi:i<=l.length) (h:∀ j,j<i->p (l.getD j 0)=false):(l.take i).filter (fun e=>!p e)=l.take i:=by
 rw[List.filter_eq_self]
 intro e he
 obtain⟨j,hj,rfl⟩:=List.getElem_of_mem he
 rw[List.length_take] at hj
 have:=h j (by omega)
 rw[List.getElem_take]
 simp only [List.getD,List.getElem?_eq_getElem (show j<l.length by omega),Option.getD_some] at this
 simp[this]
def Ztc (p:Int->Bool) (l L:List Int) (i j:Nat):Prop:=L.length=l.length∧L.take i=(l.take j).filter (fun e=>!p e)∧L.drop j=l.drop j∧i<j
theorem Ztc.start {p:Int->Bool} {l:List Int} {i:Nat} (hi:i<l.length) (h:∀ j,j<i->p (l.getD j 0)=false) (hp:p (l.getD i 0)=true):Ztc p l l i (i+1):=by
 refine⟨rfl,?_,rfl,Nat.lt_succ_self _⟩
 rw[Zfb p l i hi,if_pos hp,List.append_nil,ZhV p l i (by omega) h]
theorem Ztc.at {p:Int->Bool} {l L:List Int} {i j:Nat} (h:Ztc p l L i j):L.getD j 0=l.getD j 0:=by
 obtain⟨h1,h2,h3,h4⟩:=h
 have e1:(L.drop j).getD 0 0=L.getD j 0:=by simp[List.getD]
 have e2:(l.drop j).getD 0 0=l.getD j 0:=by simp[List.getD]
 rw[<-e1,<-e2,h3]
theorem Zli {L l:List Int} {j:Nat} (h:L.drop j=l.drop j):L.drop (j+1)=l.drop (j+1):=by
 rw[<-List.drop_drop,<-List.drop_drop,h]
theorem Ztc.skip {p:Int->Bool} {l L:List Int} {i j:Nat} (h:Ztc p l L i j) (hj:j<l.length) (hp:p (l.getD j 0)=true):Ztc p l L i (j+1):=by
 obtain⟨h1,h2,h3,h4⟩:=h
 refine⟨h1,?_,Zli h3,by omega⟩
 rw[Zfb p l j hj,if_pos hp,List.append_nil,h2]
theorem Ztc.keep {p:Int->Bool} {l L:List Int} {i j:Nat} (h:Ztc p l L i j) (hj:j<l.length) (hp:p (l.getD j 0)=false):Ztc p l (L.set i (l.getD j 0)) (i+1) (j+1):=by
 obtain⟨h1,h2,h3,h4⟩:=h
 refine⟨by rw[List.length_set,h1],?_,?_,by omega⟩
 ·rw[Zfb p l j hj,if_neg (by rw[hp];simp),<-h2,List.take_add_one,List.take_set_of_le zL]
  congr 1
  rw[List.getElem?_set_self (by omega)]
  rfl
 ·rw[List.drop_set_of_lt (by omega)]
  exact Zli h3
theorem Zax.cutClear {w:World} {B g n cap:Nat} {l:List Int} (h:Zax w B (.slice (some ⟨g,0,none⟩) n cap) l) (i:Nat) (hi:i<=l.length) (vs:List Value):Zax (w.setCells g i vs) B (.slice (some ⟨g,0,none⟩) i cap) (l.take i):=by
 rcases h.row with ⟨h1,-⟩ | ⟨g',cap',cur,h1,hB,hlt,hg,hn,hm,hs,hc⟩
 ·cases h1
 ·injection h1 with h1 _ h3
  injection h1 with h1
  injection h1 with h1
  subst h1 h3
  have hgs:=ZaD g _ vs i w cur hg
  refine Zax.ofRowN (by rw[List.length_take];omega) hB hgs (by rw[List.length_take];omega) hm (by rw[ZaC];exact hs) fun j hj=>?_
  rw[List.length_take] at hj
  rw[ZaV _ _ _ _ (by omega),if_neg (by omega),hc j (by omega)]
  simp[List.getD,show j<i by omega]
theorem ZjG (g R:Nat) (p:Int->Bool) (v:Value) (l:List Int) (B:Nat) (w:World) (ho:Zax w B v l) (hI:∀ e ∈ l,I64 e) (hBw:B<=w.heap.size) (hlim:l.length<=1000000)
 (eg:∀ args W,(callFunc g args).run Tryz.prog W=.ok (.enter g args) W)
 (hp:∀ W e,e ∈ l->Below B w W->Calls Tryz.prog g #[.int .i64 e,.pointer (some ⟨R,0,none⟩)] W fun x w'=>x=.returned (.bool (p e))∧Below W.heap.size W w'):
 Calls Tryz.prog 112 #[v,.func (.func g) #[] #[.pointer (some ⟨R,0,none⟩)]] w fun x w'=>∃ v',x=.returned v'∧Zax w' B v' (l.filter (fun e=>!p e))∧Below B w w':=by
 have HO:=ZZ ho
 have HP:=ZZ hp
 have HIX:=ZZ (ZkC g R p v l w (ho.rd hI) eg (fun W e he h=>hp W e he (h.mono hBw)))
 obtain⟨va,vc,hv⟩:=ho.shape
 subst hv
 clear ho hp
 go_enter Tryz.func112,Tryz.ntmps112
 go_wp2_with fail
 refine HIX.out.mono ?_
 rintro x W0 ⟨k,rfl,hf,hb0⟩
 have HB0:=ZZ (hb0.mono hBw)
 have HO0:=ZZ (HO.out.below hb0 zL)
 clear HIX hb0 HO
 rcases hf with ⟨rfl,hf⟩ | ⟨i0,rfl,hi0,hf,hpi⟩
 ·have HE:Hid (l.filter (fun e=>!p e)=l):=ZZ (by
   have:=ZhV p l l.length zL hf
   rwa [List.take_length] at this)
  clear hf
  go_wp2
  go_ret
  exact⟨_,rfl,by rw[HE.out];exact HO0.out,HB0.out⟩
 have HD0:=ZZ (Ztc.start hi0 hf hpi)
 clear hf hpi
 rcases HO0.out.row with ⟨-,h2⟩ | ⟨gr,cap,cur,h1,hBg,-,-,hlc,hcm,-,-⟩
 ·rw[h2] at hi0;simp at hi0
 injection h1 with h1 _ h3
 subst h1 h3
 have hml:(l.length:Int)<=1000000:=by omega
 clear cur hcm
 have ei:((i0:Int) == -1)=false:=beq_eq_false_iff_ne.2 (by omega)
 go_wp2
 go_loopw[5,6] (fun v5 v6 wr=>∃ (i j:Nat) (L:List Int),v5=.int .i64 (i:Int)∧v6=.int .i64 (j:Int)∧i<j∧j<=l.length∧Hid (Zax wr B (.slice (some ⟨gr,0,none⟩) l.length vc) L)∧Hid (Ztc p l L i j)∧Hid (Below B w wr)) (fun _ v6 _=>l.length-(intOf v6).toNat)
 case atStart=>exact⟨i0,i0+1,l,rfl,by go_num,by omega,by omega,HO0,HD0,HB0⟩
 case round=>
  clear HO0 HD0 HB0 ei
  obtain⟨i,j,L,rfl,rfl,hij,hjl,hO,hD,hB⟩:=hrel
  by_cases hlt:j<l.length
  case neg=>
   obtain rfl:j=l.length:=by omega
   have hL:L.length=l.length:=hD.out.1
   have HT:Hid (L.take i=l.filter (fun e=>!p e)):=ZZ (by rw[hD.out.2.1,List.take_length])
   obtain⟨g',cap',hv',-,hfz',-,-,-,-⟩:=hO.out.put i (by omega) 0
   injection hv' with e1 e2 e3
   clear e2
   injection e1 with e1
   injection e1 with e1
   subst e1 e3
   have HFZ:Hid (∀ k,k<l.length->wr.frozen? ⟨gr,k,none⟩=false∧(wr.cell? ⟨gr,k,none⟩).isSome=true):=ZZ (fun k hk=>by
    obtain⟨g2,cap2,hv2,hc2,hf2,-⟩:=hO.out.put k (by omega) 0
    injection hv2 with f1 _ _
    injection f1 with f1
    injection f1 with f1
    subst f1
    exact⟨hf2,by rw[hc2];rfl⟩)
   have HK:Hid (∀ ty,(Builtin.clear_ #[23] ty #[.slice (some ⟨gr,i,none⟩) (l.length-i) (vc-i)]).run Tryz.prog wr=.ok (.tuple #[]) (wr.setCells gr i (List.replicate (l.length-i) (.int .i64 0)))):=ZZ (fun ty=>
    Go.Lib.run_clear_slice wr _ _ ty (.int .i64 0) Tryz.underlying23 Tryz.zeroValue3 rfl rfl gr i (l.length-i) (vc-i) (by omega) (fun k hk=>(HFZ.out (i+k) (by omega)).2) (fun k hk=>(HFZ.out (i+k) (by omega)).1))
   have HOC:=ZZ (hO.out.cutClear i (by omega) (List.replicate (l.length-i) (.int .i64 0)))
   rw[HT.out] at HOC
   have HBC:=ZZ (Zcf hBg (List.replicate (l.length-i) (.int .i64 0)) i wr hB.out)
   have hvi:¬ (vc=i):=by omega
   have hb1:(i:Int)<=(l.length:Int):=by omega
   have hb2:(i:Int)<=(vc:Int):=by omega
   have hb3:i<=l.length:=by omega
   have hb4:i<=vc:=by omega
   clear hfz'
   have hK:=HK.out
   go_wp2
   go_ret
   exact⟨_,rfl,HOC.out,HBC.out⟩
  have hji:(j:Int)<(l.length:Int):=by omega
  have hLl:L.length=l.length:=hD.out.1
  obtain⟨g',cap',hv',c0,-⟩:=hO.out.put j (by omega) 0
  injection hv' with e1 e2 e3
  clear e2
  injection e1 with e1
  injection e1 with e1
  subst e1 e3
  rw[hD.out.at] at c0
  have HSK:=ZZ (hD.out.skip hlt)
  have HKP:=ZZ (hD.out.keep hlt)
  obtain⟨e,he⟩:∃ e,e=l.getD j 0:=⟨_,rfl⟩
  rw[<-he] at c0 HSK HKP
  obtain⟨pe,hpe⟩:∃ pe,pe=p e:=⟨_,rfl⟩
  have HC:=ZZ (fun W h=>HP.out W e (by rw[he];exact ZnF hlt) h)
  rw[<-hpe] at HC HSK HKP
  clear he hpe hD
  go_wp2_with fail
  refine(HC.out _ hB.out).mono ?_
  rintro x W1 ⟨rfl,hb1⟩
  have HB3:=ZZ (hB.out.trans (hb1.mono (Nat.le_trans hBw hB.out.size)))
  have HO3:=ZZ (hO.out.below hb1 zL)
  clear hb1 HC c0 hO hB
  cases pe with
  | true=>
   go_wp2
   go_roundw
   case rel=>exact⟨i,j+1,L,rfl,by go_num,by omega,by omega,HO3,ZZ (HSK.out (by simp)),HB3⟩
   case measure=>simp[intOf];omega
  | false=>
   obtain⟨g2,cap2,hv2,d0,z0,-,-,hOP,-⟩:=HO3.out.put i (by omega) e
   injection hv2 with f1 f2 f3
   clear f2
   injection f1 with f1
   injection f1 with f1
   subst f1 f3
   have HOP:=ZZ hOP
   clear hOP
   have hii:(i:Int)<(l.length:Int):=by omega
   have hil:i<l.length:=by omega
   go_wp2
   go_roundw
   case rel=>exact⟨i+1,j+1,L.set i e,by go_num,by go_num,by omega,by omega,HOP,ZZ (HKP.out (by simp)),ZZ (HB3.out.setCell hBg _)⟩
   case measure=>simp[intOf];omega
theorem ZnG {ops:Array Oper} {o:Oper} {a:Act} {w:World} {K:Act->World->Prop} {Q:Exit->Act->World->Prop} {E:Prop} {R:Value->World->Prop}
 (f:FuncId) (xs:Array Operand) (ts:Array TypeId) (hg:o.guard=none) (hop:o.op=Op.call { callee:=Callee.value (Operand.func f),args:=xs,argTypes:=ts }) (vals:Array Value) (hv:xs.map a.eval=vals)
 (hE:∀ args w,(callFunc f args).run Tryz.prog w=.ok (.enter f args) w) (hC:Calls Tryz.prog f vals w fun e w'=>∃ v',e=.returned v'∧R v' w') (hK:∀ v' w',R v' w'->K (a.put o.dst v') w'):
 if Region.wanted o (yielded ops a.tmps)=true then Oper.wp Tryz.prog o a w K Q else E:=by
 have hw:Region.wanted o (yielded ops a.tmps)=true:=by simp[Region.wanted,hg]
 rw[if_pos hw]
 unfold Oper.wp
 have h:(execOp a.eval o).run Tryz.prog w=.ok (.enter f vals) w:=by
  have he:a.eval (Operand.func f)=.func (.func f) #[] #[]:=rfl
  simp[execOp,hop,resolve,invoke,hv,he,Deferred.ofValue,hE]
 rw[h,Oper.upon_enter]
 refine hC.mono ?_
 rintro e w' ⟨v',rfl,hr⟩
 exact hK v' w' hr
theorem Zmj (b o:Nat) (f:Int) (ra:Option Addr) (n rc:Nat) (w:World) (c0:w.cell? ⟨b,o,none⟩=some (.int .i64 f)) (c1:w.cell? ⟨b,o+1,none⟩=some (.slice ra n rc)) (h0:0<=f) (h1:f+n<=9000000000000000000):
 Calls Tryz.prog 38 #[.pointer (some ⟨b,o,none⟩)] w fun e w'=>e=.returned (.int .i64 (f+n))∧Below w.heap.size w w':=by
 have hw:IntKind.i64.wrap (f+(n:Int))=f+n:=by rw[IntKind.wrap_i64];omega
 have hnn:(n:Int)<=9000000000000000000:=by omega
 go_enter Tryz.func38,Tryz.ntmps38
 go_upto_region 1 with fail
 go_quiet(fail)
 go_wp2
 go_ret
 refine⟨?_,Zaz (Below.refl _ _) _⟩
 first | rfl | (rw[hw])
structure Ztd (s:Sto):Prop where
 f0:0<=s.log.first
 f1:s.next<=4611686018427387904
 sy:I64 s.synced
 cu:I64 s.cur
theorem ZjH {M I:Nat->Prop} {p pd:Nat} {L:Zhz} {s:Sto} (w:World) (h:ZeO M I w p pd L s) (hn:Ztd s):
 Calls Tryz.prog 14 #[ptr p] w fun e w'=>e=.returned (.int .i64 s.next)∧Below w.heap.size w w':=by
 obtain⟨ra,rc,hrv⟩:=h.recs.shape
 obtain⟨-,c1,c2,-⟩:=h.cs
 rw[hrv] at c2
 have h1:=hn.f1
 have h0:=hn.f0
 unfold Sto.next Lgb.next at h1
 have HN:=ZZ (Zmj p 1 s.log.first ra s.log.recs.length rc w c1 c2 h0 (by omega))
 have HE:Hid (s.next=s.log.first+s.log.recs.length):=ZZ rfl
 rw[HE.out]
 generalize s.log.first+(s.log.recs.length:Int)=nx at *
 clear c1 c2 hrv h1 h0
 go_enter Tryz.func14,Tryz.ntmps14
 go_wp2_with fail
 refine HN.out.mono ?_
 rintro e w' ⟨rfl,hb⟩
 have HB:=ZZ hb
 clear hb
 go_wp2
 go_ret
 exact⟨rfl,HB.out⟩
theorem ZrX {M I:Nat->Prop} {p pd:Nat} {L:Zhz} {s:Sto} (w:World) (h:ZeO M I w p pd L s):
 Calls Tryz.prog 18 #[ptr p] w fun e w'=>e=.returned (.int .i64 s.log.first)∧w'=w:=by
 obtain⟨-,c1,-⟩:=h.cs
 clear h
 go_enter Tryz.func18,Tryz.ntmps18
 go_wp2
 go_ret
 exact⟨rfl,rfl⟩
theorem ZpL {M I:Nat->Prop} {p pd:Nat} {L:Zhz} {s:Sto} (w:World) (h:ZeO M I w p pd L s):
 Calls Tryz.prog 11 #[ptr p] w fun e w'=>e=.returned (.int .i64 s.synced)∧w'=w:=by
 obtain⟨-,-,-,-,-,-,c1,-⟩:=h.cs
 clear h
 go_enter Tryz.func11,Tryz.ntmps11
 go_wp2
 go_ret
 exact⟨rfl,rfl⟩
theorem Zuu (v:Value) (l:List Int) (x:Int) (w:World) (hr:RdI w v l) (hlim:l.length<=1000000000):
 Calls Tryz.prog 92 #[v,.int .i64 x] w fun e w'=>e=.returned (.int .i64 (l.getD (l.length-1) x))∧w'=w:=by
 obtain⟨ao,cap,rfl,hlc,hcm,-,-,hao⟩:=hr
 have hml:(l.length:Int)<=9223372036854775807:=by unfold maxLen at hcm;omega
 by_cases h0:l.length=0
 ·have e:l=[]:=List.eq_nil_of_length_eq_zero h0
  subst e
  have h0':((0:Int) == 0)=true:=rfl
  clear hao hcm hlc h0
  have hz:([]:List Int).length=0:=rfl
  rw[hz]
  go_enter Tryz.func92,Tryz.ntmps92
  go_wp2
  go_ret
  exact⟨rfl,rfl⟩
 ·rcases hao with hao | ⟨b,off,rfl,hc⟩
  ·rw[hao] at h0;simp at h0
  have h0':((l.length:Int) == 0)=false:=beq_eq_false_iff_ne.2 (by omega)
  have hlast:=hc (l.length-1) (by omega)
  have e:l.getD (l.length-1) x=l.getD (l.length-1) 0:=by
   simp[List.getD,show l.length-1<l.length by omega]
  rw[e]
  obtain⟨y,hy⟩:∃ y,y=l.getD (l.length-1) 0:=⟨_,rfl⟩
  rw[<-hy] at hlast ⊢
  obtain⟨m,hm⟩:∃ m,l.length=m+1:=⟨l.length-1,by omega⟩
  rw[hm] at hlast h0' hml ⊢
  have hm1:m+1-1=m:=by omega
  rw[hm1] at hlast
  have hml2:(m:Int)<=1000000000:=by omega
  clear hy hc e hcm hlc h0 hm hml hlim
  go_enter Tryz.func92,Tryz.ntmps92
  go_wp2
  go_ret
  exact⟨rfl,rfl⟩
def ZgG (first n:Int):Bool:=decide (n<first) || decide ((n-first) % 2≠0)
theorem ZnH (l:List Int) (first:Int):ZaR l first=l.filter fun n=>!ZgG first n:=rfl
theorem Zuv (R:Nat) (first n:Int) (w:World) (c:w.cell? ⟨R,0,none⟩=some (.int .i64 first)) (h1:0<=first) (h2:first<=1000) (h3:-1000000000000000000<=n) (h4:n<=1000000000000000000):
 Calls Tryz.prog 111 #[.int .i64 n,.pointer (some ⟨R,0,none⟩)] w fun e w'=>e=.returned (.bool (ZgG first n))∧Below w.heap.size w w':=by
 by_cases hlt:n<first
 ·have e:ZgG first n=true:=by unfold ZgG;rw[decide_eq_true hlt];rfl
  rw[e]
  clear e
  go_enter Tryz.func111,Tryz.ntmps111
  go_wp2
  go_ret
  exact⟨rfl,Below.refl _ _⟩
 ·have hw:IntKind.i64.wrap (n-first)=n-first:=by rw[IntKind.wrap_i64];omega
  have htm:(n-first).tmod 2=(n-first) % 2:=Int.tmod_eq_emod_of_nonneg (by omega)
  by_cases hz:(n-first) % 2=0
  ·have e:ZgG first n=false:=by unfold ZgG;rw[decide_eq_false hlt,decide_eq_false (fun h=>h hz)];rfl
   have hz2:((n-first) % 2 != 0)=false:=by rw[hz];rfl
   have hz3:((n-first).tmod 2 != 0)=false:=by rw[htm,hz];rfl
   rw[e]
   clear e hz
   go_enter Tryz.func111,Tryz.ntmps111
   go_wp2
   go_ret
   exact⟨rfl,Below.refl _ _⟩
  ·have e:ZgG first n=true:=by unfold ZgG;rw[decide_eq_false hlt,decide_eq_true hz];rfl
   have hz2:((n-first) % 2 != 0)=true:=by rw[bne_iff_ne];exact hz
   have hz3:((n-first).tmod 2 != 0)=true:=by rw[htm,bne_iff_ne];exact hz
   rw[e]
   clear e hz
   go_enter Tryz.func111,Tryz.ntmps111
   go_wp2
   go_ret
   exact⟨rfl,Below.refl _ _⟩
theorem Zfc {d:Dk} (h:OkD d):∀ n ∈ Zan d,0<=n∧n<1048576:=fun n hn=>by
 obtain⟨e,he,rfl⟩:=List.mem_map.1 hn
 have hm:=(h.dir.may e he).1
 unfold Zgj at hm
 simp only [Bool.and_eq_true,decide_eq_true_eq] at hm
 exact hm
theorem Zez {F:Nat->Prop} {p:Nat} {d:Dk} {N T:Nat} (first:Int) (w:World) (h:Dsk F w p d N T) (hN:N<=1000000) (h1:0<=first) (h2:first<=1000):
 Calls Tryz.prog 74 #[ptr p,.int .i64 first] w fun e w'=>∃ v,e=.returned v∧Zax w' w.heap.size v (ZaR (Zan d) first)∧Below w.heap.size w w':=by
 obtain⟨W0,hW0⟩:∃ W0,W0=w.alloc (.cells #[.int .i64 first] 3):=⟨_,rfl⟩
 have HB0:Hid (Below w.heap.size w W0):=ZZ (by rw[hW0];exact ZcW _ _)
 have HX:Hid (Bk 3 W0 w.heap.size #[.int .i64 first]):=ZZ (by rw[hW0];exact heap_alloc_new w _)
 have HD:=ZZ (h.below HB0.out)
 have HNM:Hid (Calls Tryz.prog 28 #[ptr p] W0 fun e w'=>∃ v,e=.returned v∧Zax w' W0.heap.size v (Zan d)∧Below W0.heap.size W0 w'):=ZZ (by
  obtain⟨L,g1,g2,-⟩:=HD.out
  exact Znl W0 g1 g2 hN)
 have HI:Hid (∀ n ∈ Zan d,0<=n∧n<1048576):=ZZ (by
  obtain⟨L,g1,g2,-⟩:=HD.out
  exact Zfc g2)
 have HL:Hid ((Zan d).length<=1000000):=ZZ (by
  obtain⟨L,g1,g2,g3,-⟩:=HD.out
  have h3:=Zgx d d.waits.length
  rw[Zfk] at h3
  have:=g3.names
  unfold Zan
  rw[List.length_map]
  omega)
 clear h
 go_enter Tryz.func74,Tryz.ntmps74
 go_upto_region 1 with fail
 rw[<-hW0]
 clear hW0
 go_wp2_with fail
 refine HNM.out.mono ?_
 rintro e W1 ⟨v1,rfl,ho1,hb1⟩
 have HB1:=ZZ (HB0.out.trans (hb1.mono HB0.out.size))
 have HR:Hid (∀ W,Below W0.heap.size W1 W->W.cell? ⟨w.heap.size,0,none⟩=some (.int .i64 first)):=ZZ (fun W hb=>((HX.out.keep ((hb.block _ HX.out.lt).trans (hb1.block _ HX.out.lt))).cell 0 rfl).1)
 have HDF:=ZZ (ZjG 111 w.heap.size (ZgG first) v1 (Zan d) W0.heap.size W1 ho1 (fun n hn=>by
  have:=HI.out n hn
  exact⟨by omega,by omega⟩) hb1.size HL.out (enters_of Tryz.func111 (by kernel_rfl) rfl) (fun W n hn hb=>Zuv w.heap.size first n W (HR.out W hb) h1 h2 (by have:=HI.out n hn;omega) (by have:=HI.out n hn;omega)))
 rw[<-ZnH] at HDF
 obtain⟨a1,n1,c1,hv1⟩:∃ a n c,v1=.slice a n c:=by
  obtain⟨a,c,hh⟩:=ho1.shape
  exact⟨a,_,c,hh⟩
 subst hv1
 clear ho1 hb1 HNM
 go_wp2_with fail
 refine HDF.out.mono ?_
 rintro e W2 ⟨v2,rfl,ho2,hb2⟩
 have HO2:=ZZ (ho2.mono HB0.out.size)
 have HB2:=ZZ (HB1.out.trans (hb2.mono HB0.out.size))
 clear ho2 hb2
 go_wp2
 go_ret
 exact⟨_,rfl,HO2.out,HB2.out⟩
theorem ZnI {F M I:Nat->Prop} {p pd:Nat} {L:Zhz} {s:Sto} {d:Dk} {N T:Nat} (first:Int) (w:World) (h:ZeO M I w p pd L s) (hd:Dsk F w pd d N T) (hN:N<=1000000) (h1:2<=first) (h2:first<=1000):
 Calls Tryz.prog 50 #[ptr p,.int .i64 first] w fun e w'=>e=.returned (.int .i64 (Zbz d first))∧Below w.heap.size w w':=by
 have HNF:=ZZ (Zez first w hd hN (by omega) h2)
 have HI:Hid (∀ n ∈ ZaR (Zan d) first,0<=n∧n<1048576):=ZZ (by
  obtain⟨L,g1,g2,-⟩:=hd
  exact fun n hn=>Zfc g2 n (List.mem_filter.1 hn).1)
 have HLN:Hid ((Zan d).length<=1000000000):=ZZ (by
  obtain⟨L,g1,g2,g3,-⟩:=hd
  have h3:=Zgx d d.waits.length
  rw[Zfk] at h3
  have:=g3.names
  unfold Zan
  rw[List.length_map]
  omega)
 obtain⟨c0,-⟩:=h.cs
 have HN0:Hid (Zbz d first=(ZaR (Zan d) first).getD ((ZaR (Zan d) first).length-1) (first-2)+2):=ZZ rfl
 have HBD:Hid (0<=(ZaR (Zan d) first).getD ((ZaR (Zan d) first).length-1) (first-2)∧(ZaR (Zan d) first).getD ((ZaR (Zan d) first).length-1) (first-2)<=1048576):=ZZ (by
  by_cases h0:(ZaR (Zan d) first).length=0
  ·rw[List.eq_nil_of_length_eq_zero h0]
   show 0<=first-2∧first-2<=1048576
   omega
  ·have hm:(ZaR (Zan d) first).getD ((ZaR (Zan d) first).length-1) (first-2) ∈ ZaR (Zan d) first:=by
    rw[show(ZaR (Zan d) first).getD ((ZaR (Zan d) first).length-1) (first-2)=(ZaR (Zan d) first)[(ZaR (Zan d) first).length-1]'(by omega) by simp[List.getD,show(ZaR (Zan d) first).length-1<(ZaR (Zan d) first).length by omega]]
    exact List.getElem_mem _
   have:=HI.out _ hm
   omega)
 clear h hd
 rw[HN0.out]
 have HLL:Hid ((ZaR (Zan d) first).length<=1000000000):=ZZ (Nat.le_trans (List.length_filter_le _ _) HLN.out)
 generalize ZaR (Zan d) first=l at *
 obtain⟨y,hy⟩:∃ y,y=l.getD (l.length-1) (first-2):=⟨_,rfl⟩
 rw[<-hy] at HBD ⊢
 have HY:=ZZ hy
 clear hy
 go_enter Tryz.func50,Tryz.ntmps50
 go_wp2_with fail
 refine HNF.out.mono ?_
 rintro e W1 ⟨v1,rfl,ho1,hb1⟩
 have HB1:=ZZ hb1
 have HRD:=ZZ (ho1.rd (fun n hn=>by
  have:=HI.out n hn
  exact⟨by omega,by omega⟩))
 obtain⟨a1,n1,c1,hv1⟩:∃ a n c,v1=.slice a n c:=by
  obtain⟨a,c,hh⟩:=ho1.shape
  exact⟨a,_,c,hh⟩
 subst hv1
 have HLA:=ZZ (Zuu _ l (first-2) W1 HRD.out HLL.out)
 rw[<-HY.out] at HLA
 have hb0:=HBD.out.1
 have hb2:=HBD.out.2
 clear ho1 hb1 HRD c0
 go_wp2_with fail
 refine HLA.out.mono ?_
 rintro e W2 ⟨rfl,rfl⟩
 go_wp2
 go_ret
 exact⟨rfl,HB1.out⟩
def ZyI:ZaX × Value × Value:=(Zbb,.slice none 0 0,.slice none 0 0)
def ZgH (l:List (ZaX × Value × Value)):ZaX × Value × Value:=l.getD (l.length-1) ZyI
theorem ZrY {L:Zhz} {s:Sto} (h:L.bs.map Prod.fst=s.bases):(ZgH L.bs).1=s.base:=by
 unfold ZgH Sto.base
 rw[<-h,List.length_map]
 simp only [List.getD,List.getElem?_map]
 cases L.bs[L.bs.length-1]? <;> rfl
theorem ZnJ {l:List (ZaX × Value × Value)} (h:l.length≠0):ZgH l ∈ l:=by
 unfold ZgH
 rw[show l.getD (l.length-1) ZyI=l[l.length-1]'(by omega) by simp[List.getD,show l.length-1<l.length by omega]]
 exact List.getElem_mem _
theorem Zuw {w:World} {v:Value} {l:List (ZaX × Value × Value)} (h:w.ownsRow 0 41 6 v l.length (ZaQ l)) (h0:l.length≠0):
 ∃ g cap,v=.slice (some ⟨g,0,none⟩) l.length cap∧∀ k u,k<6->(snC (ZgH l))[k]?=some u->w.cell? ⟨g,(l.length-1)*6+k,none⟩=some u:=by
 rcases h.2 with ⟨_,hn⟩ | ⟨g,cap,cur,hv,_,hg,hnc,hcm,hcs,htake⟩
 ·exact absurd hn h0
 ·refine⟨g,cap,hv,fun k u hk hu=>?_⟩
  have hlt:l.length-1<l.length:=by omega
  have e:ZgH l=l[l.length-1]:=by unfold ZgH;simp[List.getD,hlt]
  rw[e] at hu
  rw[cell_of_row w g _ _ _ _ hg]
  have h1:=ZjE l (l.length-1) k hlt hk
  rw[hu,<-htake,List.getElem?_take] at h1
  rw[if_pos (by omega)] at h1
  rw[<-Array.getElem?_toList]
  exact h1
theorem Zux (v:Value) (l:List (ZaX × Value × Value)) (w:World) (h:w.ownsRow 0 41 6 v l.length (ZaQ l)) (h0:l.length≠0) (hlim:l.length<=1000000000) (hsn:∃ a n c a' n' c',(ZgH l).2.1=.slice a n c∧(ZgH l).2.2=.slice a' n' c'):
 Calls Tryz.prog 78 #[v,.agg #[.int .i64 0,.int .i64 0,.slice none 0 0,.bool false,.int .i64 0,.slice none 0 0]] w fun e w'=>e=.returned (snV (ZgH l))∧Below w.heap.size w w':=by
 obtain⟨g,cap,rfl,hc⟩:=Zuw h h0
 obtain⟨x,hx⟩:∃ x,x=ZgH l:=⟨_,rfl⟩
 rw[<-hx] at hc hsn ⊢
 obtain⟨m,hm⟩:∃ m,l.length=m+1:=⟨l.length-1,by omega⟩
 have hm1:l.length-1=m:=by omega
 rw[hm1] at hc
 obtain⟨⟨ix,⟨kd,LL,sh,eg⟩,tb⟩,vl,vt⟩:=x
 obtain⟨la,ln,lc,ta,tn,tc,h1,h2⟩:=hsn
 dsimp only at h1 h2
 subst h1 h2
 have c0:=hc 0 _ (by decide) rfl
 have c1:=hc 1 _ (by decide) rfl
 have c2:=hc 2 _ (by decide) rfl
 have c3:=hc 3 _ (by decide) rfl
 have c4:=hc 4 _ (by decide) rfl
 have c5:=hc 5 _ (by decide) rfl
 have hgl:g<w.heap.size:=World.block_lt_of_cell? w ⟨g,m*6+0,none⟩ c0
 rw[hm]
 have h0':((m+1:Nat):Int)≠0:=by omega
 have h0'':((((m+1:Nat):Int)) == 0)=false:=beq_eq_false_iff_ne.2 h0'
 have hml2:(m:Int)<=1000000000:=by omega
 obtain⟨W0,hW0⟩:∃ W0,W0=(w.alloc (.cells #[.int .i64 0,.int .i64 0,.slice none 0 0,.bool false,.int .i64 0,.slice none 0 0] 41)).alloc (.cells #[.int .i64 0,.int .i64 0,.slice none 0 0,.bool false,.int .i64 0,.slice none 0 0] 41):=⟨_,rfl⟩
 have HB0:Hid (Below w.heap.size w W0):=ZZ (by rw[hW0];exact((Below.refl _ _).alloc zL _).alloc (by simp) _)
 have HY:Hid (Bn W0 (w.heap.size+1) #[.int .i64 0,.int .i64 0,.slice none 0 0,.bool false,.int .i64 0,.slice none 0 0]):=ZZ (by rw[hW0];exact Zhs w _ _)
 have e0:W0.cell? ⟨g,m*6,none⟩=some (.int .i64 ix):=(HB0.out.cell (p:=⟨g,m*6,none⟩) hgl).trans c0
 have e1:W0.cell? ⟨g,m*6+1,none⟩=some (.int .i64 kd):=(HB0.out.cell (p:=⟨g,m*6+1,none⟩) hgl).trans c1
 have e2:W0.cell? ⟨g,m*6+2,none⟩=some (.slice la ln lc):=(HB0.out.cell (p:=⟨g,m*6+2,none⟩) hgl).trans c2
 have e3:W0.cell? ⟨g,m*6+3,none⟩=some (.bool sh):=(HB0.out.cell (p:=⟨g,m*6+3,none⟩) hgl).trans c3
 have e4:W0.cell? ⟨g,m*6+4,none⟩=some (.int .i64 eg):=(HB0.out.cell (p:=⟨g,m*6+4,none⟩) hgl).trans c4
 have e5:W0.cell? ⟨g,m*6+5,none⟩=some (.slice ta tn tc):=(HB0.out.cell (p:=⟨g,m*6+5,none⟩) hgl).trans c5
 obtain⟨z0,y0⟩:=HY.out.cell 0
 obtain⟨z1,y1⟩:=HY.out.cell 1
 obtain⟨z2,y2⟩:=HY.out.cell 2
 obtain⟨z3,y3⟩:=HY.out.cell 3
 obtain⟨z4,y4⟩:=HY.out.cell 4
 obtain⟨z5,y5⟩:=HY.out.cell 5
 clear c0 c1 c2 c3 c4 c5 hc h hx hm hm1 h0 hlim
 go_enter Tryz.func78,Tryz.ntmps78
 go_upto_region 1 with fail
 rw[<-hW0]
 clear hW0
 go_wp2
 refine bodyPost_ret (v:=.agg #[.int .i64 ix,.int .i64 kd,.slice la ln lc,.bool sh,.int .i64 eg,.slice ta tn tc]) (by simp[results,Tryz.results78,go_sem,z0,z1,z2,z3,z4,z5]) rfl ?_
 exact⟨rfl,ZdB HB0.out _ (by omega) _ _ _ _ _ _⟩
theorem SnR.shape {w:World} {x:ZaX × Value × Value} (h:SnR w x):∃ a n c a' n' c',x.2.1=.slice a n c∧x.2.2=.slice a' n' c':=by
 obtain⟨a,c,h1,-⟩:=h.l
 obtain⟨a',c',h2⟩:=h.t.shape
 exact⟨a,_,c,a',_,c',h1,h2⟩
theorem Zwj {M I:Nat->Prop} {p pd:Nat} {L:Zhz} {s:Sto} (w:World) (h:ZeO M I w p pd L s) (h0:s.bases.length≠0) (hlim:s.bases.length<=1000000000):
 Calls Tryz.prog 37 #[ptr p] w fun e w'=>e=.returned (snV (ZgH L.bs))∧Below w.heap.size w w':=by
 have hl:L.bs.length=s.bases.length:=by rw[<-h.bsEq,List.length_map]
 have hm:=ZnJ (l:=L.bs) (by omega)
 have HS:=ZZ (h.base _ hm)
 obtain⟨W0,hW0⟩:∃ W0,W0=w.alloc (.cells #[.int .i64 0,.int .i64 0,.slice none 0 0,.bool false,.int .i64 0,.slice none 0 0] 41):=⟨_,rfl⟩
 have HB0:Hid (Below w.heap.size w W0):=ZZ (by rw[hW0];exact ZcW _ _)
 have HY:Hid (Bn W0 w.heap.size #[.int .i64 0,.int .i64 0,.slice none 0 0,.bool false,.int .i64 0,.slice none 0 0]):=ZZ (by rw[hW0];exact heap_alloc_new w _)
 have HH:=ZZ (h.below HB0.out)
 obtain⟨-,-,-,-,c4,-⟩:=HH.out.cs
 have HL:=ZZ (Zux L.bv L.bs W0 HH.out.bases (by omega) (by omega) HS.out.shape)
 obtain⟨ba,bn,bc,hbv⟩:∃ a n c,L.bv=.slice a n c:=by
  rcases h.bases.2 with ⟨hv,_⟩ | ⟨g,cap,cur,hv,_⟩
  ·exact⟨_,_,_,hv⟩
  ·exact⟨_,_,_,hv⟩
 rw[hbv] at c4 HL
 obtain⟨x,hx⟩:∃ x,x=ZgH L.bs:=⟨_,rfl⟩
 rw[<-hx] at HL HS ⊢
 obtain⟨la,ln,lc,ta,tn,tc,h1,h2⟩:=HS.out.shape
 obtain⟨⟨ix,⟨kd,LL,sh,eg⟩,tb⟩,vl,vt⟩:=x
 dsimp only at h1 h2
 subst h1 h2
 unfold snV snC at HL ⊢
 dsimp only at HL ⊢
 clear h hbv hx hm hl h0 hlim HH HS
 go_enter Tryz.func37,Tryz.ntmps37
 go_upto_region 1 with fail
 rw[<-hW0]
 clear hW0
 go_wp2_with fail
 refine HL.out.mono ?_
 rintro e W1 ⟨rfl,hb1⟩
 have HB1:=ZZ (HB0.out.trans (hb1.mono HB0.out.size))
 have hy:=HY.out.below hb1 zL
 obtain⟨z0,y0⟩:=hy.cell 0
 obtain⟨z1,y1⟩:=hy.cell 1
 obtain⟨z2,y2⟩:=hy.cell 2
 obtain⟨z3,y3⟩:=hy.cell 3
 obtain⟨z4,y4⟩:=hy.cell 4
 obtain⟨z5,y5⟩:=hy.cell 5
 clear hb1 hy c4
 go_wp2
 refine bodyPost_ret (v:=.agg #[.int .i64 ix,.int .i64 kd,.slice la ln lc,.bool sh,.int .i64 eg,.slice ta tn tc]) (by simp[results,Tryz.results37,go_sem,z0,z1,z2,z3,z4,z5]) rfl ?_
 exact⟨rfl,ZdB HB1.out _ (by omega) _ _ _ _ _ _⟩
def ZxK (w:World) (s:ZaX) (e:Ending) (w':World):Prop:=
 ∃ vl vt,e=.returned (snV (s,vl,vt))∧SnR w' (s,vl,vt)∧(∀ b,vl.ownBlock=some b->w.heap.size<=b)∧(∀ b,vt.ownBlock=some b->w.heap.size<=b)∧Below w.heap.size w w'
theorem ZrZ (x:ZaX × Value × Value) (w:World) (hx:SnR w x) (hl1:x.1.st.L.length<=1000000) (hl2:x.1.tab.length<=1000000):
 Calls Tryz.prog 47 #[snV x] w fun e w'=>ZxK w x.1 e w':=by
 obtain⟨⟨idx,⟨kind,L,shut,eng⟩,tab⟩,vl,vt⟩:=x
 obtain⟨hl,ht,hk,he,hi⟩:=hx
 dsimp only at hl ht hk he hi hl1 hl2 ⊢
 obtain⟨la,lc,rfl,-⟩:=id hl
 obtain⟨ta,tc,rfl⟩:=ht.shape
 have HCI:=ZZ (fun W (h:Below w.heap.size w W)=>Zhq _ L W (hl.below h zL) hl1)
 have HCE:=ZZ (fun W (h:Below w.heap.size w W)=>Zhr _ tab W (ht.below h zL) hl2)
 have HLI:=ZZ hl.i64
 have hTI:∀ e ∈ tab,ZlY e:=ht.choose_spec.choose_spec.2.2.2.2.1
 have HTI:=ZZ hTI
 obtain⟨W0,hW0⟩:∃ W0,W0=(w.alloc (.cells #[.int .i64 idx,.int .i64 kind,.slice la L.length lc,.bool shut,.int .i64 eng,.slice ta tab.length tc] 41)).alloc (.cells #[.int .i64 0,.int .i64 0,.slice none 0 0,.bool false,.int .i64 0,.slice none 0 0] 41):=⟨_,rfl⟩
 have HBW:Hid (Below w.heap.size w W0):=ZZ (by rw[hW0];exact((Below.refl _ _).alloc zL _).alloc (by simp) _)
 have HXW:Hid (Bn W0 w.heap.size #[.int .i64 idx,.int .i64 kind,.slice la L.length lc,.bool shut,.int .i64 eng,.slice ta tab.length tc]):=ZZ (by rw[hW0];exact(Below.heap_alloc _ _ _ (by simp)).trans (heap_alloc_new w _))
 have HYW:Hid (Bn W0 (w.heap.size+1) #[.int .i64 0,.int .i64 0,.slice none 0 0,.bool false,.int .i64 0,.slice none 0 0]):=ZZ (by rw[hW0];exact Zhs w _ _)
 have hs0:W0.heap.size=w.heap.size+2:=by rw[hW0];simp
 unfold snV snC
 dsimp only
 clear hl ht hTI hl1 hl2
 go_enter Tryz.func47,Tryz.ntmps47
 go_upto_region 1 with fail
 rw[<-hW0]
 clear hW0
 obtain⟨p2,g2⟩:=HXW.out.cell 2
 obtain⟨p5,g5⟩:=HXW.out.cell 5
 go_cut[] (fun wc=>Hid (ZnC w ⟨idx,⟨kind,L,shut,eng⟩,tab⟩ wc))
 case first=>
  go_region_with
   (first
    | (go_at_call 39;refine(HCI.out _ (by first | exact HBW.out.drew | exact HBW.out)).mono ?_;rintro e W1 ⟨v1,rfl,ho1,hb1⟩;have hbk1:Below W0.heap.size W0 W1:=(by first | exact((Below.refl _ _).drew).trans hb1 | exact hb1);have HO1:=ZZ ho1;have HB1:=ZZ hbk1;obtain⟨a1,c1,hv1⟩:∃ a c,v1=.slice a L.length c:=(by obtain⟨a,c,h,-⟩:=ho1.rd HLI.out;exact⟨a,c,h⟩);subst hv1;obtain⟨q2,k2⟩:=(HXW.out.below hbk1 zL).cell 2;obtain⟨q5,k5⟩:=(HXW.out.below hbk1 zL).cell 5;clear ho1 hb1 hbk1)
    | (go_at_call 40;refine(HCE.out _ (HBW.out.trans (HB1.out.mono HBW.out.size))).mono ?_;rintro e W2 ⟨v2,rfl,ho2,hb2⟩;have HO2:=ZZ ho2;have HB2:=ZZ (HB1.out.trans (hb2.mono HB1.out.size));have HO12:=ZZ (HO1.out.below hb2 zL);obtain⟨a2,c2,hv2⟩:=ho2.shape;subst hv2;obtain⟨r2,j2⟩:=(HXW.out.below HB2.out zL).cell 2;obtain⟨r5,j5⟩:=(HXW.out.below HB2.out zL).cell 5;clear ho2 hb2))
  all_goals
   go_wp2_with fail
   go_meet
   exact ZZ (Zjw (HXW.out.below HB2.out zL) (HYW.out.below HB2.out zL) (HO12.out.mono (by first | omega | (show w.heap.size+2<=W0.heap.size;omega))) HLI.out (HO2.out.mono (by have:=HB1.out.size;omega)) HTI.out hi hk he (HBW.out.trans (HB2.out.mono HBW.out.size)))
 case rest=>
  have HT0:=hcut
  clear hcut HBW HXW HYW hs0 p2 g2 p5 g5 HCI HCE HLI HTI W0 hk he hi
  obtain⟨W,rfl⟩:∃ W,W=wc:=⟨_,rfl⟩
  obtain⟨sa,sc,ea,ec,hX,hY,hL,hLf,hE,hEI,hi,hk,he,hB⟩:=HT0.out
  have HY:=ZZ hY
  have HL:=ZZ hL
  have HLF:=ZZ hLf
  have HE:=ZZ hE
  have HEI:=ZZ hEI
  have HIK:=ZZ (And.intro hi (And.intro hk he))
  have HB:=ZZ hB
  dsimp only at hX HL HLF HE HEI HIK
  obtain⟨p0,g0⟩:=hX.cell 0
  obtain⟨p1,g1⟩:=hX.cell 1
  obtain⟨p2,g2⟩:=hX.cell 2
  obtain⟨p3,g3⟩:=hX.cell 3
  obtain⟨p4,g4⟩:=hX.cell 4
  obtain⟨p5,g5⟩:=hX.cell 5
  obtain⟨z0,y0⟩:=hY.cell 0
  obtain⟨z1,y1⟩:=hY.cell 1
  obtain⟨z2,y2⟩:=hY.cell 2
  obtain⟨z3,y3⟩:=hY.cell 3
  obtain⟨z4,y4⟩:=hY.cell 4
  obtain⟨z5,y5⟩:=hY.cell 5
  have hne1:¬ (w.heap.size=w.heap.size+1):=by omega
  clear hX hY hL hLf hE hEI hi hk he hB HT0
  go_wp2
  refine bodyPost_ret (v:=.agg #[.int .i64 idx,.int .i64 kind,.slice sa L.length sc,.bool shut,.int .i64 eng,.slice ea tab.length ec]) (by simp[results,Tryz.results47,go_sem,z0,z1,z2,z3,z4,z5]) rfl ?_
  have hbt:=ZqL W (w.heap.size+1) (.int .i64 idx) (.int .i64 kind) (.slice sa L.length sc) (.bool shut) (.int .i64 eng) (.slice ea tab.length ec)
  exact⟨_,_,rfl,⟨HL.out.but hbt (.inr fun b h=>by have:=HLF.out b h;omega),(HE.out.rd HEI.out).but hbt (.inr fun b h=>by have:=HE.out.fresh b h;omega),HIK.out.2.1,HIK.out.2.2,HIK.out.1⟩,fun b h=>by have:=HLF.out b h;omega,fun b h=>by have:=HE.out.fresh b h;omega,ZgA HB.out _ (by omega) _ _ _ _ _ _⟩
theorem ZxL:(Tryz.prog.info? 108).map (fun i=>(i.zero,i.size,i.bytes))=some (some (.agg #[.int .i64 0,.int .i64 0,.int .i64 0]),3,24):=by kernel_rfl
theorem Zmk (w:World) (ty:TypeId) (v:Value) (l:List Pce) (h:w.ownsRow 0 108 3 v l.length (ZaB l)) (c:Pce) (hlim:l.length<=10000000):
 ∃ v' w',(Builtin.append_ #[71,71] ty #[v,.slice (some ⟨w.heap.size,0,none⟩) 1 1]).run Tryz.prog (w.alloc (.cells (pcC c) 108))=.ok v' w'∧
  w'.ownsRow 0 108 3 v' (l++[c]).length (ZaB (l++[c]))∧(w.alloc (.cells (pcC c) 108)).grownBy w' v.ownBlock∧(v'.ownBlock=v.ownBlock∨v'.ownBlock=some (w.heap.size+1)):=by
 obtain⟨i0,hi,hz0,hz1,hz2⟩:=info_parts ZxL
 obtain⟨v',w',hrun,ho,hg,_,hl⟩:=run_append_own_at (P:=Tryz.prog) (w.alloc (.cells (pcC c) 108)) 0 71 ty 108 i0 _ 3 24 Tryz.underlying71 hi hz0 hz1 hz2 rfl (by decide) v l.length (ZaB l) (World.ownsRow.alloc h _)
  ⟨w.heap.size,0,none⟩ 1 1 (ZaB [c]) (Zea [c]) (fun j u hj=>by
   rw[Addr.add_lit,Nat.zero_add,cell_of_row _ w.heap.size j _ 108 (0,0) (heap_alloc_new w _)]
   simpa[ZaB] using hj) (ZpK [c]) (by unfold maxLen;omega) (by omega) (Nat.zero_le _)
 refine⟨v',w',hrun,?_,hg,?_⟩
 ·rw[List.length_append,ZjB]
  exact ho
 ·rcases hl with hl | hl
  ·exact .inl hl
  ·exact .inr (by rw[hl];simp)
theorem ZeK (w:World) {ops:Array Oper} {rest:List Oper} {o:Oper} {a:Act} {Q:Exit->Act->World->Prop} (hgd:o.guard=none) (s x:Operand)
 (ho:o.op=.call { callee:=.builtin .append,args:=#[s,x],argTypes:=#[71,71] })
 (v:Value) (l:List Pce) (hs:a.eval s=v) (h:w.ownsRow 0 108 3 v l.length (ZaB l)) (c:Pce) (hx:a.eval x=.slice (some ⟨w.heap.size,0,none⟩) 1 1) (hlim:l.length<=10000000)
 (hK:∀ v' w',w'.ownsRow 0 108 3 v' (l++[c]).length (ZaB (l++[c]))->(w.alloc (.cells (pcC c) 108)).grownBy w' v.ownBlock->(v'.ownBlock=v.ownBlock∨v'.ownBlock=some (w.heap.size+1))->
  wpList Tryz.prog ops Q rest (a.put o.dst v') w'):wpList Tryz.prog ops Q (o::rest) a (w.alloc (.cells (pcC c) 108)):=
 wpList_plain hgd fun _ hK'=>by
  obtain⟨v',w',hrun,h2,h3,h4⟩:=Zmk w o.type v l h c hlim
  unfold Oper.wp execOp
  simp only [ho,resolve,invoke,builtin,Sem.run_bind,Sem.run_pure,Result.andThen_ok,List.map_toArray,List.map_cons,List.map_nil,hs,hx,hrun]
  exact hK' _ _ (hK v' w' h2 h3 h4)
theorem ZjI (w:World) (ty:TypeId) (v:Value) (l0:List Rec) (hown:Zbp w 0 v l0) (vx:Value) (l:List Rec) (hr:RdR w vx l) (hlim:l0.length+l.length<=10000000):
 ∃ v' w',(Builtin.append_ #[29,29] ty #[v,vx]).run Tryz.prog w=.ok v' w'∧Zbp w' 0 v' (l0++l)∧w.grownBy w' v.ownBlock∧(v'.ownBlock=v.ownBlock∨v'.ownBlock=some w.heap.size):=by
 obtain⟨i0,hi,hz0,hz1,hz2⟩:=info_parts Zfp
 obtain⟨ao,cap,rfl,hlc,hcm,hn0,_,hao⟩:=hr
 cases ao with
 | none=>
  have hc:=hn0 rfl
  subst hc
  have hl:l=[]:=List.eq_nil_of_length_eq_zero (by omega)
  subst hl
  have hrun:=run_append_owned_none (P:=Tryz.prog) w 0 29 ty 62 i0 7 Tryz.underlying29 hi v l0.length (Zam l0) hown
  exact⟨v,w,hrun,by rw[List.append_nil];exact hown,⟨rfl,rfl,rfl,Nat.le_refl _,fun _ _ _=>rfl⟩,.inl rfl⟩
 | some a=>
  obtain⟨v',w',hrun,ho,hg,_,hl⟩:=run_append_own_at (P:=Tryz.prog) w 0 29 ty 62 i0 _ 7 56 Tryz.underlying29 hi hz0 hz1 hz2 rfl (by decide) v l0.length (Zam l0) hown a l.length cap (Zam l)
   (Zbc l) (RdR.cells hao a rfl) (ZdS l) (by unfold maxLen;omega) (by omega) (Nat.zero_le _)
  refine⟨v',w',hrun,?_,hg,hl⟩
  unfold Zbp
  rw[List.length_append,ZcQ]
  exact ho
theorem ZgI (w:World) {ops:Array Oper} {rest:List Oper} {o:Oper} {a:Act} {Q:Exit->Act->World->Prop} (hgd:o.guard=none) (s x:Operand)
 (ho:o.op=.call { callee:=.builtin .append,args:=#[s,x],argTypes:=#[29,29] })
 (v:Value) (l0:List Rec) (hs:a.eval s=v) (hown:Zbp w 0 v l0) (vx:Value) (l:List Rec) (hx:a.eval x=vx) (hr:RdR w vx l) (hlim:l0.length+l.length<=10000000)
 (h:∀ v' w',Zbp w' 0 v' (l0++l)->w.grownBy w' v.ownBlock->(v'.ownBlock=v.ownBlock∨v'.ownBlock=some w.heap.size)->wpList Tryz.prog ops Q rest (a.put o.dst v') w'):wpList Tryz.prog ops Q (o::rest) a w:=
 wpList_plain hgd fun _ hK=>by
  obtain⟨v',w',hrun,h2,h3,h4⟩:=ZjI w o.type v l0 hown vx l hr hlim
  unfold Oper.wp execOp
  simp only [ho,resolve,invoke,builtin,Sem.run_bind,Sem.run_pure,Result.andThen_ok,List.map_toArray,List.map_cons,List.map_nil,hs,hx,hrun]
  exact hK _ _ (h v' w' h2 h3 h4)
theorem Zbv {w:World} {base n s:Nat} {t:TypeId} {v:Value} {xs:List Value} (h:w.ownsRow base t s v n xs) {g:Nat} (hg:v.ownBlock=some g):∃ cs,Bk t w g cs:=by
 rcases h.2 with ⟨hv,_⟩ | ⟨g',cap,cur,hv,_,hb,_⟩
 ·rw[hv] at hg;cases hg
 ·rw[hv] at hg
  obtain rfl:g'=g:=by simpa[Value.ownBlock] using hg
  exact⟨_,hb⟩
theorem Zeb {w:World} {base n s:Nat} {t:TypeId} {v:Value} {xs:List Value} (h:w.ownsRow base t s v n xs):∃ a c,v=.slice a n c:=by
 rcases h.2 with ⟨hv,hn⟩ | ⟨g',cap,cur,hv,_⟩
 ·exact⟨_,_,by rw[hv,hn]⟩
 ·exact⟨_,_,hv⟩
structure Zml (t:TypeId) (w:World) (b o:Nat) (cs:Array Value) (rv pv:Value) (g:Lgb):Prop where
 blk:Bk t w b cs
 c0:cs[o]?=some (.int .i64 g.first)
 c1:cs[o+1]?=some rv
 c2:cs[o+2]?=some pv
 recs:Zbp w 0 rv g.recs
 pcs:w.ownsRow 0 108 3 pv g.pcs.length (ZaB g.pcs)
def ZnK (b:Nat) (rv pv:Value) (k:Nat):Prop:=k=b∨rv.ownBlock=some k∨pv.ownBlock=some k
theorem Zml.neR {t:TypeId} {w:World} {b o:Nat} {cs:Array Value} {rv pv:Value} {g:Lgb} (h:Zml t w b o cs rv pv g) (ht:t≠62):rv.ownBlock≠some b:=fun e=>by
 obtain⟨cs',hb⟩:=Zbv h.recs e
 exact(h.blk.ne hb ht) rfl
theorem Zml.neP {t:TypeId} {w:World} {b o:Nat} {cs:Array Value} {rv pv:Value} {g:Lgb} (h:Zml t w b o cs rv pv g) (ht:t≠108):pv.ownBlock≠some b:=fun e=>by
 obtain⟨cs',hb⟩:=Zbv h.pcs e
 exact(h.blk.ne hb ht) rfl
theorem Zml.neRP {t:TypeId} {w:World} {b o:Nat} {cs:Array Value} {rv pv:Value} {g:Lgb} (h:Zml t w b o cs rv pv g):∀ k,rv.ownBlock=some k->pv.ownBlock≠some k:=fun k e1 e2=>by
 obtain⟨cs1,hb1⟩:=Zbv h.recs e1
 obtain⟨cs2,hb2⟩:=Zbv h.pcs e2
 exact(hb1.ne hb2 (by decide)) rfl
theorem Zml.below {t:TypeId} {w w':World} {b o:Nat} {cs:Array Value} {rv pv:Value} {g:Lgb} (h:Zml t w b o cs rv pv g) (hb:Below w.heap.size w w'):Zml t w' b o cs rv pv g:=
 ⟨h.blk.keep (hb.block b h.blk.lt),h.c0,h.c1,h.c2,h.recs.below hb zL,Zah h.pcs fun g hg=>hb.block g (by
  obtain⟨cs',hb'⟩:=Zbv h.pcs hg
  exact hb'.lt)⟩
def ZgJ (t:TypeId) (w:World) (b o:Nat) (cs:Array Value) (rv pv:Value) (g:Lgb) (w':World):Prop:=
 ∃ rv' pv',Zml t w' b o (((cs.setIfInBounds o (.int .i64 g.first)).setIfInBounds (o+1) rv').setIfInBounds (o+2) pv') rv' pv' g∧ZaE (ZnK b rv pv) w w'∧
  (∀ k,ZnK b rv' pv' k->ZnK b rv pv k∨w.heap.size<=k)
theorem ZgJ.more {t:TypeId} {w w1 w2:World} {b o:Nat} {cs:Array Value} {rv pv:Value} {g:Lgb} (h:ZgJ t w b o cs rv pv g w1) (hb:Below w1.heap.size w1 w2):ZgJ t w b o cs rv pv g w2:=by
 obtain⟨rv',pv',h1,h2,h3⟩:=h
 exact⟨rv',pv',h1.below hb,h2.trans (G:=fun _=>False) (ZaE.ofBelow hb) (fun _ _ hf=>hf.elim),h3⟩
theorem ZgK {cs:Array Value} {j:Nat} {x:Value} (h:cs[j]?=some x):cs.setIfInBounds j x=cs:=by
 apply Array.ext_getElem?
 intro i
 rw[Array.getElem?_setIfInBounds]
 by_cases e:j=i
 ·subst e
  have hlt:j<cs.size:=(Array.getElem?_eq_some_iff.1 h).1
  rw[if_pos rfl,if_pos hlt,h]
 ·simp[e]
theorem Zlj (t:TypeId) (ht1:t≠62) (ht2:t≠108) (b o:Nat) (cs:Array Value) (rv pv:Value) (g:Lgb) (name first:Int) (w:World) (h:Zml t w b o cs rv pv g) (hlim:g.pcs.length<=1000000):
 Calls Tryz.prog 53 #[.pointer (some ⟨b,o,none⟩),.int .i64 name,.int .i64 first] w fun e w'=>e=.returned (.tuple #[])∧ZgJ t w b o cs rv pv (g.start name first) w':=by
 obtain⟨pa,pc,hpv⟩:=Zeb h.pcs
 -- the world ahead of the append
 obtain⟨W1,hW1⟩:∃ W1,W1=if g.pcs.length=0 then w.setCell ⟨b,o,none⟩ (.int .i64 first) else w:=⟨_,rfl⟩
 obtain⟨cs1,hcs1⟩:∃ cs1,cs1=if g.pcs.length=0 then cs.setIfInBounds o (.int .i64 first) else cs:=⟨_,rfl⟩
 have hsz:W1.heap.size=w.heap.size:=by
  rw[hW1]
  split
  ·simp
  ·rfl
 have hK1:∀ k,k≠b->W1.heap[k]?=w.heap[k]?:=fun k hk=>by
  rw[hW1]
  split
  ·exact Below.heap_setCell _ _ _ _ hk
  ·rfl
 have hO1:ZaE (ZnK b rv pv) w W1:=by
  rw[hW1]
  split
  ·exact(ZaE.refl _ _).setCell o (fun _=>.inl rfl) _
  ·exact ZaE.refl _ _
 have hB1:Bk t W1 b cs1:=by
  rw[hW1,hcs1]
  split
  ·exact h.blk.set o _
  ·exact h.blk
 have hst:g.start name first=⟨if g.pcs.length=0 then first else g.first,g.recs,g.pcs++[(⟨name,first,first⟩:Pce)]⟩:=rfl
 have hM1:Zml t W1 b o cs1 rv pv ⟨if g.pcs.length=0 then first else g.first,g.recs,g.pcs⟩:=by
  refine⟨hB1,?_,?_,?_,Zah h.recs fun k hk=>hK1 k (fun e=>h.neR ht1 (by subst e;exact hk)),Zah h.pcs fun k hk=>hK1 k (fun e=>h.neP ht2 (by subst e;exact hk))⟩
  ·rw[hcs1]
   have hlt:o<cs.size:=(Array.getElem?_eq_some_iff.1 h.c0).1
   split
   ·simp[hlt]
   ·exact h.c0
  ·rw[hcs1]
   split
   ·rw[Array.getElem?_setIfInBounds,if_neg (by omega)]
    exact h.c1
   ·exact h.c1
  ·rw[hcs1]
   split
   ·rw[Array.getElem?_setIfInBounds,if_neg (by omega)]
    exact h.c2
   ·exact h.c2
 have HC2:Hid (∀ v2 w2,w2.ownsRow 0 108 3 v2 (g.pcs++[(⟨name,first,first⟩:Pce)]).length (ZaB (g.pcs++[(⟨name,first,first⟩:Pce)]))->(W1.alloc (.cells (pcC ⟨name,first,first⟩) 108)).grownBy w2 pv.ownBlock->(v2.ownBlock=pv.ownBlock∨v2.ownBlock=some (W1.heap.size+1))->
  ZgJ t w b o cs rv pv (g.start name first) (w2.setCell ⟨b,o+2,none⟩ v2)∧w2.cell? ⟨b,o+2,none⟩=some pv∧w2.frozen? ⟨b,o+2,none⟩=false):=ZZ (fun v2 w2 hr hg hv=>by
  have hk2:∀ k,k<W1.heap.size->pv.ownBlock≠some k->w2.heap[k]?=W1.heap[k]?:=fun k hk hne=>by
   rw[hg.block k (by simp;omega) (fun e=>hne e.symm),Below.heap_alloc _ _ _ hk]
  have hb2:Bk t w2 b cs1:=hM1.blk.keep (hk2 b hM1.blk.lt (hM1.neP ht2))
  have hs2:W1.heap.size+1<=w2.heap.size:=by have:=hg.size;simpa using this
  have hec:((cs.setIfInBounds o (.int .i64 (g.start name first).first)).setIfInBounds (o+1) rv).setIfInBounds (o+2) v2=cs1.setIfInBounds (o+2) v2:=by
   congr 1
   rw[hst,hcs1]
   dsimp only
   by_cases h0:g.pcs.length=0
   ·rw[if_pos h0,if_pos h0]
    exact ZgK (by rw[Array.getElem?_setIfInBounds,if_neg (by omega)];exact h.c1)
   ·rw[if_neg h0,if_neg h0,ZgK h.c0,ZgK h.c1]
  have hp2:v2.ownBlock≠some b:=fun e=>by
   obtain⟨cs',hb'⟩:=Zbv hr e
   exact(hb2.ne hb' ht2) rfl
  refine⟨⟨rv,v2,?_,?_,?_⟩,(hb2.cell _ hM1.c2).1,(hb2.cell _ hM1.c2).2⟩
  ·rw[hec]
   have hlt:o+2<cs1.size:=(Array.getElem?_eq_some_iff.1 hM1.c2).1
   refine⟨hb2.set _ _,?_,?_,by simp[hlt],Zah hM1.recs fun k hk=>?_,Zah hr fun k hk=>Below.heap_setCell _ _ _ _ (fun e=>hp2 (by subst e;exact hk))⟩
   ·rw[Array.getElem?_setIfInBounds,if_neg (by omega)]
    exact hM1.c0
   ·rw[Array.getElem?_setIfInBounds,if_neg (by omega)]
    exact hM1.c1
   ·obtain⟨cs',hb'⟩:=Zbv hM1.recs hk
    rw[Below.heap_setCell _ _ _ _ (fun e=>hM1.neR ht1 (by subst e;exact hk)),hk2 k hb'.lt (hM1.neRP k hk)]
  ·refine(hO1.trans (G:=ZnK b rv pv) ?_ (fun _ _ hf=>hf)).setCell _ (fun _=>.inl rfl) _
   exact((ZaE.refl _ W1).alloc _).trans (ZaE.ofGrown (F:=ZnK b rv pv) hg fun k e _=>.inr (.inr e)) (fun _ _ hf=>hf)
  ·intro k hk
   rcases hk with hk | hk | hk
   ·exact .inl (.inl hk)
   ·exact .inl (.inr (.inl hk))
   ·rcases hv with hv | hv
    ·exact .inl (.inr (.inr (by rw[<-hv];exact hk)))
    ·rw[hv] at hk
     have:=Option.some.inj hk
     exact .inr (by omega))
 have HPR:Hid (W1.ownsRow 0 108 3 (.slice pa g.pcs.length pc) g.pcs.length (ZaB g.pcs)):=ZZ (by rw[<-hpv];exact hM1.pcs)
 have HLM:Hid (g.pcs.length<=10000000):=ZZ (by omega)
 have HPV:=ZZ hpv
 have d2:=(h.blk.cell _ h.c2).1
 have d0:=(h.blk.cell _ h.c0)
 obtain⟨d0,f0⟩:=d0
 have e2:=(hM1.blk.cell _ hM1.c2).1
 rw[hpv] at d2 e2
 have HW1:=ZZ hW1
 have hmx:(g.pcs.length:Int)<=1000000:=by omega
 clear hpv hM1 hB1 hK1 hO1 hsz hst hcs1 h hW1
 by_cases h0:g.pcs.length=0
 ·have hb0:((g.pcs.length:Int) == 0)=true:=by rw[beq_iff_eq];omega
  have HE:Hid (W1=w.setCell ⟨b,o,none⟩ (.int .i64 first)):=ZZ (by rw[HW1.out,if_pos h0])
  clear h0
  go_enter Tryz.func53,Tryz.ntmps53
  go_upto_region 2 with fail
  rw[<-HE.out]
  clear HE d0 f0 d2
  go_wp2_with(at_builtin;refine(fun(h:True->_)=>h trivial) ?_)
  intro _
  refine ZeK W1 rfl _ _ rfl (.slice pa g.pcs.length pc) g.pcs rfl HPR.out (⟨name,first,first⟩:Pce) rfl HLM.out ?_
  intro v2 w2 hr hg hv
  obtain⟨hL,t2,s2⟩:=HC2.out v2 w2 hr (by rw[HPV.out];exact hg) (by rw[HPV.out];exact hv)
  rw[HPV.out] at t2
  have HL:=ZZ hL
  obtain⟨a9,c9,hv9⟩:=Zeb hr
  obtain⟨n9,hn9⟩:∃ n9,n9=(g.pcs++[(⟨name,first,first⟩:Pce)]).length:=⟨_,rfl⟩
  rw[<-hn9] at hv9
  subst hv9
  clear hL hr hg hv hn9 e2
  go_wp2
  go_end0
  exact⟨rfl,HL.out⟩
 ·have hb0:((g.pcs.length:Int) == 0)=false:=beq_eq_false_iff_ne.2 (by omega)
  have HE:Hid (W1=w):=ZZ (by rw[HW1.out,if_neg h0])
  clear h0 d0 f0 e2
  rw[HE.out] at HC2 HPR
  go_enter Tryz.func53,Tryz.ntmps53
  go_wp2_with(at_builtin;refine(fun(h:True->_)=>h trivial) ?_)
  intro _
  refine ZeK w rfl _ _ rfl (.slice pa g.pcs.length pc) g.pcs rfl HPR.out (⟨name,first,first⟩:Pce) rfl HLM.out ?_
  intro v2 w2 hr hg hv
  obtain⟨hL,t2,s2⟩:=HC2.out v2 w2 hr (by rw[HPV.out];exact hg) (by rw[HPV.out];exact hv)
  rw[HPV.out] at t2
  have HL:=ZZ hL
  obtain⟨a9,c9,hv9⟩:=Zeb hr
  obtain⟨n9,hn9⟩:∃ n9,n9=(g.pcs++[(⟨name,first,first⟩:Pce)]).length:=⟨_,rfl⟩
  rw[<-hn9] at hv9
  subst hv9
  clear hL hr hg hv hn9 d2
  go_wp2
  go_end0
  exact⟨rfl,HL.out⟩
theorem ZjJ:∀ (l:List Pce) (j:Nat) (p:Pce),j<l.length->ZaB (l.set j p)=((((ZaB l).set (j*3) (.int .i64 p.name)).set (j*3+1) (.int .i64 p.first)).set (j*3+2) (.int .i64 p.stop))
 | c::l,0,p,_=>by
  rw[List.set_cons_zero,ZaB,ZaB]
  rfl
 | c::l,j+1,p,hj=>by
  have ih:=ZjJ l j p (by simpa using hj)
  rw[List.set_cons_succ,ZaB,ih,ZaB]
  have e:(j+1)*3=(j*3)+1+1+1:=by omega
  rw[e]
  rfl
theorem ZnL {w:World} {v:Value} {l:List Pce} (h:w.ownsRow 0 108 3 v l.length (ZaB l)) (j:Nat) (hj:j<l.length) (x:Int):
 ∃ g cap,v=.slice (some ⟨g,0,none⟩) l.length cap∧g<w.heap.size∧l.length<=cap∧w.cell? ⟨g,j*3+2,none⟩=some (.int .i64 (l.getD j Zhl).stop)∧w.frozen? ⟨g,j*3+2,none⟩=false∧
  (w.setCell ⟨g,j*3+2,none⟩ (.int .i64 x)).ownsRow 0 108 3 v l.length (ZaB (l.set j ⟨(l.getD j Zhl).name,(l.getD j Zhl).first,x⟩)):=by
 rcases h.2 with ⟨_,hn⟩ | ⟨g,cap,cur,hv,hb,hg,hnc,hcm,hcs,htake⟩
 ·omega
 ·have hget:∀ k,k<3->cur[j*3+k]?=(pcC (l.getD j Zhl))[k]?:=fun k hk=>by
   have h1:=ZjC l j k hj hk
   rw[<-htake,List.getElem?_take,if_pos (by omega),Array.getElem?_toList] at h1
   exact h1
  refine⟨g,cap,hv,(Array.getElem?_eq_some_iff.1 hg).1,hnc,?_,frozen_of_row w g _ _ _ hg,?_,.inr ⟨g,cap,cur.setIfInBounds (j*3+2) (.int .i64 x),hv,hb,heap_setCell_same w g _ _ _ _ hg,hnc,hcm,by simpa using hcs,?_⟩⟩
  ·rw[cell_of_row w g _ _ _ _ hg]
   exact hget 2 (by decide)
  ·rw[Zea,List.length_set]
  ·rw[ZjJ l j _ hj]
   have h0:=hget 0 (by decide)
   have h1:=hget 1 (by decide)
   rw[<-htake]
   apply List.ext_getElem?
   intro i
   rw[List.getElem?_take]
   by_cases hi:i<l.length*3
   ·rw[if_pos hi,Array.getElem?_toList,Array.getElem?_setIfInBounds]
    simp only [List.getElem?_set,List.length_set,List.length_take,Array.length_toList,List.getElem?_take,hi,if_true,Array.getElem?_toList]
    have hcz:cur.size=cap*3:=hcs
    by_cases e2:j*3+2=i
    ·subst e2
     rw[if_pos rfl,if_pos rfl,if_pos (by omega),if_pos (by omega)]
    ·rw[if_neg e2,if_neg e2]
     by_cases e1:j*3+1=i
     ·subst e1
      rw[if_pos rfl,if_pos (by omega),h1]
      rfl
     ·rw[if_neg e1]
      by_cases e0:j*3=i
      ·subst e0
       rw[if_pos rfl,if_pos (by omega)]
       rw[Nat.add_zero] at h0
       rw[h0]
       rfl
      ·rw[if_neg e0]
   ·rw[if_neg hi,List.getElem?_eq_none (by simp;omega)]
theorem Zuy (t:TypeId) (ht1:t≠62) (ht2:t≠108) (b o:Nat) (cs:Array Value) (rv pv:Value) (g:Lgb) (vl:Value) (l:List Rec) (w:World) (h:Zml t w b o cs rv pv g) (hr:RdR w vl l) (hp0:g.pcs.length≠0) (hlim:g.pcs.length<=1000000) (hrl:g.recs.length+l.length<=10000000)
 (hst:∀ p ∈ g.pcs,0<=p.stop∧p.stop<=4611686018427387904):
 Calls Tryz.prog 54 #[.pointer (some ⟨b,o,none⟩),vl] w fun e w'=>e=.returned (.tuple #[])∧ZgJ t w b o cs rv pv (g.add l) w':=by
 obtain⟨la,lc,rfl,-⟩:=id hr
 obtain⟨ra,rc,hrv⟩:=h.recs.shape
 obtain⟨m,hm⟩:∃ m,g.pcs.length=m+1:=⟨g.pcs.length-1,by omega⟩
 obtain⟨st,hst0⟩:∃ st,st=(g.pcs.getD m Zhl).stop:=⟨_,rfl⟩
 have hstb:0<=st∧st<=4611686018427387904:=by
  rw[hst0]
  refine hst _ ?_
  rw[show g.pcs.getD m Zhl=g.pcs[m]'(by omega) by simp[List.getD,show m<g.pcs.length by omega]]
  exact List.getElem_mem _
 obtain⟨gp,pc,hpv,hgl,hnc,-,-,-⟩:=ZnL h.pcs m (by omega) 0
 -- behind the append,and the store of the records
 have HC2:Hid (∀ v2 w2,Zbp w2 0 v2 (g.recs++l)->w.grownBy w2 rv.ownBlock->(v2.ownBlock=rv.ownBlock∨v2.ownBlock=some w.heap.size)->
  (w2.cell? ⟨b,o+1,none⟩=some rv∧w2.frozen? ⟨b,o+1,none⟩=false)∧
  ((w2.setCell ⟨b,o+1,none⟩ v2).cell? ⟨b,o+2,none⟩=some pv∧(w2.setCell ⟨b,o+1,none⟩ v2).cell? ⟨gp,m*3+2,none⟩=some (.int .i64 st)∧(w2.setCell ⟨b,o+1,none⟩ v2).frozen? ⟨gp,m*3+2,none⟩=false)∧
  ZgJ t w b o cs rv pv (g.add l) (((w2.setCell ⟨b,o+1,none⟩ v2)).setCell ⟨gp,m*3+2,none⟩ (.int .i64 (st+l.length)))):=ZZ (fun v2 w2 ho hg hv=>by
  have hk2:∀ k,k<w.heap.size->rv.ownBlock≠some k->w2.heap[k]?=w.heap[k]?:=fun k hk hne=>hg.block k hk (fun e=>hne e.symm)
  have hb2:Bk t w2 b cs:=h.blk.keep (hk2 b h.blk.lt (h.neR ht1))
  have hpo:pv.ownBlock=some gp:=by rw[hpv];rfl
  have hgb:gp≠b:=fun e=>h.neP ht2 (by rw[hpo,e])
  have hrp:rv.ownBlock≠some gp:=fun e=>h.neRP gp e hpo
  have hp3:(w2.setCell ⟨b,o+1,none⟩ v2).ownsRow 0 108 3 pv g.pcs.length (ZaB g.pcs):=Zah h.pcs fun k hk=>by
   have e:k=gp:=by rw[hpo] at hk;exact(Option.some.inj hk).symm
   subst e
   rw[Below.heap_setCell _ _ _ _ hgb,hk2 _ hgl hrp]
  obtain⟨g',cap',hv',-,-,hc',hf',hrow'⟩:=ZnL hp3 m (by omega) (st+l.length)
  have eg:g'=gp:=by
   rw[hpv] at hv'
   injection hv' with e1 _ _
   injection e1 with e1
   injection e1 with e1
   exact e1.symm
  subst eg
  rw[<-hst0] at hc'
  have hv2b:v2.ownBlock≠some b:=fun e=>by
   obtain⟨cs',hb'⟩:=Zbv ho e
   exact(hb2.ne hb' ht1) rfl
  have hv2p:v2.ownBlock≠some g':=fun e=>by
   obtain⟨cs',hb'⟩:=Zbv ho e
   obtain⟨cs2,hb2'⟩:=Zbv hp3 hpo
   have hb3:Bk 108 w2 g' cs2:=by
    have:=hb2'
    unfold Bk at this ⊢
    rw[Below.heap_setCell _ _ _ _ hgb] at this
    exact this
   exact(hb'.ne hb3 (by decide)) rfl
  refine⟨⟨(hb2.cell _ h.c1).1,(hb2.cell _ h.c1).2⟩,⟨?_,hc',hf'⟩,v2,pv,?_,?_,?_⟩
  ·refine((hb2.set (o+1) v2).cell _ ?_).1
   rw[Array.getElem?_setIfInBounds,if_neg (by omega)]
   exact h.c2
  ·have hec:((cs.setIfInBounds o (.int .i64 (g.add l).first)).setIfInBounds (o+1) v2).setIfInBounds (o+2) pv=cs.setIfInBounds (o+1) v2:=by
    have e1:(g.add l).first=g.first:=rfl
    rw[e1,ZgK h.c0]
    exact ZgK (by rw[Array.getElem?_setIfInBounds,if_neg (by omega)];exact h.c2)
   rw[hec]
   have hlt:o+1<cs.size:=(Array.getElem?_eq_some_iff.1 h.c1).1
   refine⟨(hb2.set _ _).other _ _ _ (fun e=>hgb e.symm),?_,by simp[hlt],?_,Zah ho fun k hk=>?_,?_⟩
   ·rw[Array.getElem?_setIfInBounds,if_neg (by omega)]
    exact h.c0
   ·rw[Array.getElem?_setIfInBounds,if_neg (by omega)]
    exact h.c2
   ·rw[Below.heap_setCell _ _ _ _ (fun e=>hv2p (by subst e;exact hk)),Below.heap_setCell _ _ _ _ (fun e=>hv2b (by subst e;exact hk))]
   ·have e3:(g.add l).pcs=g.pcs.set m ⟨(g.pcs.getD m Zhl).name,(g.pcs.getD m Zhl).first,st+l.length⟩:=by
     show ZbR g.pcs l.length=_
     unfold ZbR
     rw[hm,Nat.add_sub_cancel,<-hst0]
    rw[e3,List.length_set]
    exact hrow'
  ·exact((ZaE.ofGrown (F:=ZnK b rv pv) hg fun k e _=>.inr (.inl e)).setCell _ (fun _=>.inl rfl) _).setCell _ (fun _=>.inr (.inr hpo)) _
  ·intro k hk
   rcases hk with hk | hk | hk
   ·exact .inl (.inl hk)
   ·rcases hv with hv | hv
    ·exact .inl (.inr (.inl (by rw[<-hv];exact hk)))
    ·rw[hv] at hk
     have:=Option.some.inj hk
     exact .inr (by omega)
   ·exact .inl (.inr (.inr hk)))
 have HRO:Hid (Zbp w 0 (.slice ra g.recs.length rc) g.recs):=ZZ (by rw[<-hrv];exact h.recs)
 have HRD:=ZZ hr
 have HRV:=ZZ hrv
 have HPV:=ZZ hpv
 have HLM:=ZZ hrl
 obtain⟨d1,-⟩:=h.blk.cell _ h.c1
 rw[hrv] at d1
 have hw:IntKind.i64.wrap (st+(l.length:Int))=st+l.length:=by rw[IntKind.wrap_i64];omega
 have hmi:(m:Int)<=1000000:=by omega
 have hpl:g.pcs.length=m+1:=hm
 have HPL:Hid (pv=.slice (some ⟨gp,0,none⟩) (m+1) pc):=ZZ (by rw[hpv,hm])
 have hli:(l.length:Int)<=10000000:=by omega
 obtain⟨hs0,hs1⟩:=hstb
 have hnc2:m+1<=pc:=by omega
 clear hrv hpv h hr hst hst0 hp0 hlim hrl hm hpl hnc hgl
 go_enter Tryz.func54,Tryz.ntmps54
 go_wp2_with(at_builtin;refine(fun(h:True->_)=>h trivial) ?_)
 intro _
 refine ZgI w rfl _ _ rfl (.slice ra g.recs.length rc) g.recs rfl HRO.out _ l rfl HRD.out HLM.out ?_
 intro v2 w2 ho hg hv
 obtain⟨⟨t1,s1⟩,⟨u2,u3,u4⟩,hL⟩:=HC2.out v2 w2 ho (by rw[HRV.out];exact hg) (by rw[HRV.out];exact hv)
 rw[HRV.out] at t1
 rw[HPL.out] at u2
 have HL:=ZZ hL
 obtain⟨a9,n9,c9,hv9⟩:∃ a n c,v2=.slice a n c:=by
  obtain⟨a,c,hh⟩:=ho.shape
  exact⟨a,_,c,hh⟩
 subst hv9
 obtain⟨W2,hW2⟩:∃ W2,W2=w2.setCell ⟨b,o+1,none⟩ (.slice a9 n9 c9):=⟨_,rfl⟩
 rw[<-hW2] at u2 u3 u4 HL
 clear hL ho hg hv d1
 go_upto_region 1 with fail
 rw[<-hW2]
 clear hW2 t1 s1
 go_region
 go_wp2
 go_end0
 exact⟨rfl,HL.out.more (Below.refl _ _).drew⟩
theorem Zbp.empty (w:World) (B:Nat) (hB:B<=w.heap.size):Zbp (w.alloc (.cells #[] 62)) B (.slice (some ⟨w.heap.size,0,none⟩) 0 0) []:=
 ⟨rfl,.inr ⟨w.heap.size,0,#[],rfl,hB,heap_alloc_new w _,Nat.le_refl _,Nat.zero_le _,rfl,rfl⟩⟩
theorem Zsa (v:Value) (l:List Rec) (w:World) (hr:RdR w v l) (hlim:l.length<=1000000):
 Calls Tryz.prog 44 #[v] w fun e w'=>∃ v',e=.returned v'∧Zbp w' w.heap.size v' l∧Below w.heap.size w w':=by
 have HR:=ZZ hr
 obtain⟨ao,cap,rfl,hlc,-,hn,-⟩:=hr
 cases ao with
 | none=>
  obtain rfl:cap=0:=hn rfl
  obtain rfl:l=[]:=List.eq_nil_of_length_eq_zero (by omega)
  clear hn hlc
  have hnil:∀ w,(binOp .eql 29 (.slice none 0 0) (.slice none 0 0)).run Tryz.prog w=.ok (.bool true) w:=fun w=>run_eql_slice_nil w _ _ none 0 0 Tryz.underlying29
  go_enter Tryz.func44,Tryz.ntmps44
  go_wp2
  go_ret
  exact⟨_,rfl,Zbp.nil _ _,Below.refl _ _⟩
 | some a=>
  clear hn
  have hnil:∀ w,(binOp .eql 29 (.slice (some a) l.length cap) (.slice none 0 0)).run Tryz.prog w=.ok (.bool false) w:=fun w=>run_eql_slice_nil w _ _ (some a) _ _ Tryz.underlying29
  have HB0:Hid (∀ X,Below w.heap.size w (w.alloc X)):=fun X=>(Below.refl _ _).alloc zL X
  have HO0:Hid (Zbp (w.alloc (.cells #[] 62)) w.heap.size (.slice (some ⟨w.heap.size,0,none⟩) 0 0) []):=ZZ (Zbp.empty w _ zL)
  go_enter Tryz.func44,Tryz.ntmps44
  go_wp2_with(at_builtin;refine ZgF _ rfl _ _ rfl w.heap.size _ [] rfl HO0.out _ l rfl (HR.out.below (HB0.out _) zL) (by simp;omega) (by simp) ?_)
  intro v1 W1 ho1 hb1
  have HO1:=ZZ ho1
  have HB1:=ZZ ((HB0.out _).trans hb1)
  clear ho1 hb1
  go_wp2
  go_ret
  exact⟨_,rfl,HO1.out,HB1.out⟩
theorem ZxM (w:World) (ao:Option Addr) (l:List Rec) (cap:Nat) (hr:RdR w (.slice ao l.length cap) l) (i:Nat) (hi:i<=l.length):
 ∃ a' c',RdR w (.slice a' (l.drop i).length c') (l.drop i)∧∀ x:Int,x=(i:Int)->∀ W,(Instr.sliceAt 29 (.slice ao l.length cap) (some (.int .i64 x)) none none).run Tryz.prog W=.ok (.slice a' (l.drop i).length c') W:=by
 have hlc:l.length<=cap:=by
  obtain⟨a,c,e,h,-⟩:=hr
  simp only [Value.slice.injEq] at e
  omega
 have h:=hr.mid i l.length cap hi zL hlc zL
 rw[List.take_of_length_le (by rw[List.length_drop];omega)] at h
 unfold sliced at h
 refine⟨_,_,by rw[List.length_drop];exact h,fun x hx W=>?_⟩
 subst hx
 rw[run_sliceAt_slice W 29 _ _ _ _ Zds,run_slice_l W 29 ao l.length cap Zds .i64 (i:Int) (by omega) (by omega),ZgB,Zmc,List.length_drop]
 rfl
theorem Zwk (w:World) (ao:Option Addr) (l:List Rec) (cap:Nat) (hr:RdR w (.slice ao l.length cap) l) (i j:Nat) (hij:i<=j) (hj:j<=l.length):
 ∃ a' c',RdR w (.slice a' (j-i) c') ((l.drop i).take (j-i))∧∀ x y:Int,x=(i:Int)->y=(j:Int)->∀ W,(Instr.sliceAt 29 (.slice ao l.length cap) (some (.int .i64 x)) (some (.int .i64 y)) none).run Tryz.prog W=.ok (.slice a' (j-i) c') W:=by
 have hlc:l.length<=cap:=by
  obtain⟨a,c,e,h,-⟩:=hr
  simp only [Value.slice.injEq] at e
  omega
 have h:=hr.mid i j cap hij hj (by omega) zL
 unfold sliced at h
 refine⟨_,_,h,fun x y hx hy W=>?_⟩
 subst hx hy
 rw[run_sliceAt_slice W 29 _ _ _ _ Zds,run_slice_lh W 29 ao l.length cap Zds .i64 .i64 (i:Int) (j:Int) (by omega) (by omega) (by omega),ZgB,Zmc]
 rfl
theorem ZeO.toLog {M I:Nat->Prop} {w:World} {p pd:Nat} {L:Zhz} {s:Sto} (h:ZeO M I w p pd L s):Zml 76 w p 1 (stC pd L s) L.rv L.pv s.log:=
 ⟨h.head,rfl,rfl,rfl,h.recs,h.pcs⟩
theorem ZeO.logF {M I:Nat->Prop} {w:World} {p pd:Nat} {L:Zhz} {s:Sto} (h:ZeO M I w p pd L s):∀ k,ZnK p L.rv L.pv k->M k:=fun k hk=>by
 rcases hk with rfl | hk | hk
 ·exact h.mh
 ·exact h.mr k hk
 ·exact h.mp k hk
theorem ZeO.ofLog {M I:Nat->Prop} {w w':World} {p pd:Nat} {L:Zhz} {s:Sto} {g:Lgb} (h:ZeO M I w p pd L s) (hd:ZgJ 76 w p 1 (stC pd L s) L.rv L.pv g w'):
 ∃ M' L',ZeO M' I w' p pd L' { s with log:=g }∧L'.nl=L.nl∧L'.nt=L.nt∧ZaE M w w'∧∀ k,M' k->M k∨w.heap.size<=k:=by
 obtain⟨rv',pv',hm,ho,hf⟩:=hd
 have hoM:ZaE M w w':=ho.mono h.logF
 have hI:∀ k,I k->w'.heap[k]?=w.heap[k]?:=fun k hk=>hoM.block k (h.ltI k hk) fun hm=>h.dis k hm hk
 have hcs:((((stC pd L s).setIfInBounds 1 (.int .i64 g.first)).setIfInBounds (1+1) rv').setIfInBounds (1+2) pv')=stC pd { L with rv:=rv',pv:=pv' } { s with log:=g }:=rfl
 rw[hcs] at hm
 have hlf:∀ k,ZnK p rv' pv' k->k<w'.heap.size:=fun k hk=>by
  rcases hk with rfl | hk | hk
  ·exact hm.blk.lt
  ·obtain⟨cs',hb⟩:=Zbv hm.recs hk
   exact hb.lt
  ·obtain⟨cs',hb⟩:=Zbv hm.pcs hk
   exact hb.lt
 have hbv:∀ k,L.bv.ownBlock=some k->¬ ZnK p L.rv L.pv k:=fun k hk hl=>by
  obtain⟨cs',hb⟩:=Zbv h.bases hk
  rcases hl with rfl | hl | hl
  ·exact(hb.ne h.head (by decide)) rfl
  ·obtain⟨cs2,hb2⟩:=Zbv h.recs hl
   exact(hb.ne hb2 (by decide)) rfl
  ·obtain⟨cs2,hb2⟩:=Zbv h.pcs hl
   exact(hb.ne hb2 (by decide)) rfl
 refine⟨fun k=>M k∨ZnK p rv' pv' k,{ L with rv:=rv',pv:=pv' },⟨hm.blk,hm.recs,hm.pcs,Zah h.bases fun k hk=>?_,h.bsEq,h.now.keep h.inow hI,fun x hx=>(h.base x hx).keep (h.ibase x hx) hI,.inr (.inl rfl),fun k hk=>.inr (.inr (.inl hk)),fun k hk=>.inr (.inr (.inr hk)),fun k hk=>.inl (h.mb k hk),h.inow,h.ibase,fun k hk=>?_,fun k hk=>Nat.lt_of_lt_of_le (h.ltI k hk) hoM.size,fun k hk hi=>?_⟩,rfl,rfl,hoM,fun k hk=>?_⟩
 ·obtain⟨cs',hb⟩:=Zbv h.bases hk
  exact ho.block k hb.lt (hbv k hk)
 ·rcases hk with hk | hk
  ·exact Nat.lt_of_lt_of_le (h.ltM k hk) hoM.size
  ·exact hlf k hk
 ·rcases hk with hk | hk
  ·exact h.dis k hk hi
  ·rcases hf k hk with h1 | h1
   ·exact h.dis k (h.logF k h1) hi
   ·have:=h.ltI k hi
    omega
 ·rcases hk with hk | hk
  ·exact .inl hk
  ·rcases hf k hk with h1 | h1
   ·exact .inl (h.logF k h1)
   ·exact .inr h1
theorem Zbp.own0 {w:World} {B:Nat} {v:Value} {l:List Rec} (h:Zbp w B v l):Zbp w 0 v l:=h.mono (Nat.zero_le _)
theorem ZnM {M I:Nat->Prop} {p pd:Nat} {L:Zhz} {s:Sto} (a b:Int) (w:World) (h:ZeO M I w p pd L s) (hn:Ztd s) (hok:∀ r ∈ s.log.recs,Zfw r) (hlim:s.log.recs.length<=1000000):
 Calls Tryz.prog 17 #[ptr p,.int .i64 a,.int .i64 b] w fun e w'=>∃ v,e=.returned (.tuple #[v,.int .i64 (ZdO s a b).2])∧Zbp w' w.heap.size v (ZdO s a b).1∧Below w.heap.size w w':=by
 have HNX:=ZZ (fun W (hb:Below w.heap.size w W)=>ZjH W (h.below hb) hn)
 have HFI:=ZZ (fun W (hb:Below w.heap.size w W)=>ZrX W (h.below hb))
 unfold ZdO
 obtain⟨nx,hnx⟩:∃ nx,nx=s.next:=⟨_,rfl⟩
 obtain⟨f,hf⟩:∃ f,f=s.log.first:=⟨_,rfl⟩
 have hnf:nx=f+s.log.recs.length:=by rw[hnx,hf];rfl
 rw[<-hnx] at HNX ⊢
 rw[<-hf] at HFI ⊢
 have h0:=hn.f0
 have h1:=hn.f1
 rw[<-hf] at h0
 rw[<-hnx] at h1
 by_cases g1:a<0
 ·rw[if_pos (.inl g1)]
  clear hnx hf hnf h0 h1 h
  go_enter Tryz.func17,Tryz.ntmps17
  go_wp2
  go_ret2
  exact⟨_,rfl,Zbp.nil _ _,Below.refl _ _⟩
 by_cases g2:b<a
 ·rw[if_pos (.inr (.inl g2))]
  clear hnx hf hnf h0 h1 h
  go_enter Tryz.func17,Tryz.ntmps17
  go_wp2
  go_ret2
  exact⟨_,rfl,Zbp.nil _ _,Below.refl _ _⟩
 by_cases g3:nx<b
 ·rw[if_pos (.inr (.inr g3))]
  clear hnx hf hnf h0 h1 h
  go_enter Tryz.func17,Tryz.ntmps17
  go_wp2_with fail
  refine(HNX.out _ (Below.refl _ _)).mono ?_
  rintro e W1 ⟨rfl,hb1⟩
  have HB1:=ZZ hb1
  clear hb1
  go_wp2
  go_ret2
  exact⟨_,rfl,Zbp.nil _ _,HB1.out⟩
 rw[if_neg (by omega)]
 by_cases g4:a<f
 ·rw[if_pos g4]
  clear hnx hf hnf h0 h1 h
  go_enter Tryz.func17,Tryz.ntmps17
  go_wp2_with fail
  refine(HNX.out _ (Below.refl _ _)).mono ?_
  rintro e W1 ⟨rfl,hb1⟩
  have HB1:=ZZ hb1
  clear hb1
  go_wp2_with fail
  refine(HFI.out _ HB1.out).mono ?_
  rintro e W2 ⟨rfl,rfl⟩
  go_wp2
  go_ret2
  exact⟨_,rfl,Zbp.nil _ _,HB1.out⟩
 rw[if_neg g4]
 obtain⟨ra,rc,hrv⟩:=h.recs.shape
 have hrd:=h.recs.rd hok
 rw[hrv] at hrd
 obtain⟨a',c',hcr,hcut⟩:=Zwk w ra s.log.recs rc hrd (a-f).toNat (b-f).toNat (by omega) (by omega)
 have hcut1:=hcut (a-f) (b-f) (by omega) (by omega)
 have HEQ:Hid ((s.log.recs.drop (a-f).toNat).take ((b-f).toNat-(a-f).toNat)=(s.log.recs.take (b-f).toNat).drop (a-f).toNat):=ZZ (by rw[List.drop_take])
 rw[HEQ.out] at hcr
 generalize (s.log.recs.take (b-f).toNat).drop (a-f).toNat=l at *
 have HCL:Hid (∀ W,Below w.heap.size w W->Calls Tryz.prog 44 #[.slice a' ((b-f).toNat-(a-f).toNat) c'] W fun e w'=>∃ v',e=.returned v'∧Zbp w' w.heap.size v' l∧Below w.heap.size w w'):=ZZ (fun W hW=>(Zsa _ _ W (hcr.below hW zL) (by
  obtain⟨_,_,e,-⟩:=hcr
  injection e with _ e _
  omega)).mono (by
  rintro e w' ⟨v',rfl,ho,hb⟩
  exact⟨v',rfl,ho.mono hW.size,hW.trans (hb.mono hW.size)⟩))
 have HK:Hid (∀ W,Below w.heap.size w W->W.cell? ⟨p,1,none⟩=some (.int .i64 f)∧W.cell? ⟨p,2,none⟩=some (.slice ra s.log.recs.length rc)):=ZZ (fun W hb=>by
  obtain⟨-,c1,c2,-⟩:=(h.below hb).cs
  rw[hrv] at c2
  rw[hf]
  exact⟨c1,c2⟩)
 have hw1:IntKind.i64.wrap (a-f)=a-f:=by rw[IntKind.wrap_i64];omega
 have hw2:IntKind.i64.wrap (b-f)=b-f:=by rw[IntKind.wrap_i64];omega
 have hq1:-9223372036854775808<=a-f∧a-f<=9223372036854775807:=by omega
 have hq2:-9223372036854775808<=b-f∧b-f<=9223372036854775807:=by omega
 obtain⟨hq10,hq11⟩:=hq1
 obtain⟨hq20,hq21⟩:=hq2
 obtain⟨n1,hn1⟩:∃ n1,n1=(b-f).toNat-(a-f).toNat:=⟨_,rfl⟩
 rw[<-hn1] at hcut1 HCL
 clear hnx hf hnf h0 h1 h hcr hcut hrd hrv hn1 HEQ hok hn
 go_enter Tryz.func17,Tryz.ntmps17
 go_wp2_with fail
 refine(HNX.out _ (Below.refl _ _)).mono ?_
 rintro e W1 ⟨rfl,hb1⟩
 have HB1:=ZZ hb1
 clear hb1
 go_wp2_with fail
 refine(HFI.out _ HB1.out).mono ?_
 rintro e W1 ⟨rfl,rfl⟩
 have HSD:Hid (Below w.heap.size w W1.drew):=ZZ (HB1.out.drew)
 go_upto_region 5 with fail
 go_region_held(fun W=>W.cell? ⟨p,1,none⟩=some (.int .i64 f)∧W.cell? ⟨p,2,none⟩=some (.slice ra s.log.recs.length rc))
  (first | (with_reducible exact HK.out _ HSD.out) | (with_reducible exact HK.out _ HB2.out))
  (first | (go_at_call 44;refine(HCL.out _ HSD.out).mono ?_;rintro e W2 ⟨v2,rfl,ho2,hb2⟩;have HO2:=ZZ ho2;have HB2:=ZZ hb2;clear ho2 hb2))
 all_goals
  go_wp2
  go_ret2
  exact⟨_,rfl,HO2.out,HB2.out⟩
theorem ZxN {M I:Nat->Prop} {p pd:Nat} {L:Zhz} {s:Sto} (w:World) (h:ZeO M I w p pd L s) (hl1:s.now.st.L.length<=1000000) (hl2:s.now.tab.length<=1000000):
 Calls Tryz.prog 21 #[ptr p] w fun e w'=>ZxK w s.now e w':=by
 obtain⟨W0,hW0⟩:∃ W0,W0=w.alloc (.cells #[.int .i64 0,.int .i64 0,.slice none 0 0,.bool false,.int .i64 0,.slice none 0 0] 41):=⟨_,rfl⟩
 have HB0:Hid (Below w.heap.size w W0):=ZZ (by rw[hW0];exact ZcW _ _)
 have HY:Hid (Bn W0 w.heap.size #[.int .i64 0,.int .i64 0,.slice none 0 0,.bool false,.int .i64 0,.slice none 0 0]):=ZZ (by rw[hW0];exact heap_alloc_new w _)
 have HH:=ZZ (h.below HB0.out)
 obtain⟨-,-,-,-,-,⟨c5,c6,c7,c8,c9,c10⟩,-⟩:=HH.out.cs
 have HC:=ZZ (ZrZ (L.nx s) W0 HH.out.now hl1 hl2)
 obtain⟨la,ln,lc,ta,tn,tc,e1,e2⟩:=HH.out.now.shape
 have e1':L.nl=.slice la ln lc:=e1
 have e2':L.nt=.slice ta tn tc:=e2
 rw[e1'] at c7
 rw[e2'] at c10
 have HEX:Hid (snV (L.nx s)=.agg #[.int .i64 s.now.idx,.int .i64 s.now.st.kind,.slice la ln lc,.bool s.now.st.shut,.int .i64 s.now.st.eng,.slice ta tn tc]):=ZZ (by
  unfold snV snC Zhz.nx
  dsimp only
  rw[e1',e2'])
 rw[HEX.out] at HC
 have e3:(L.nx s).1=s.now:=rfl
 rw[e3] at HC
 clear h e1 e2 e1' e2' HEX HH e3
 go_enter Tryz.func21,Tryz.ntmps21
 go_upto_region 1 with fail
 rw[<-hW0]
 clear hW0
 go_wp2_with fail
 refine HC.out.mono ?_
 rintro e W1 ⟨vl,vt,rfl,hs,hf1,hf2,hb1⟩
 have HB1:=ZZ (HB0.out.trans (hb1.mono HB0.out.size))
 have HS:=ZZ hs
 have HF:=ZZ (And.intro hf1 hf2)
 have hy:=HY.out.below hb1 zL
 have HSZ:=ZZ HB0.out.size
 obtain⟨z0,y0⟩:=hy.cell 0
 obtain⟨z1,y1⟩:=hy.cell 1
 obtain⟨z2,y2⟩:=hy.cell 2
 obtain⟨z3,y3⟩:=hy.cell 3
 obtain⟨z4,y4⟩:=hy.cell 4
 obtain⟨z5,y5⟩:=hy.cell 5
 obtain⟨xa,xn,xc,ua,un,uc,g1,g2⟩:=hs.shape
 dsimp only at g1 g2
 subst g1 g2
 have hlt:w.heap.size<W0.heap.size:=HY.out.lt
 have HLT:=ZZ hlt
 unfold snV snC
 dsimp only
 clear hb1 hy c5 c6 c7 c8 c9 c10 hs hf1 hf2 HC hlt
 go_wp2
 refine bodyPost_ret (v:=.agg #[.int .i64 s.now.idx,.int .i64 s.now.st.kind,.slice xa xn xc,.bool s.now.st.shut,.int .i64 s.now.st.eng,.slice ua un uc]) (by simp[results,Tryz.results21,go_sem,z0,z1,z2,z3,z4,z5]) rfl ?_
 have hbt:=ZqL W1 w.heap.size (.int .i64 s.now.idx) (.int .i64 s.now.st.kind) (.slice xa xn xc) (.bool s.now.st.shut) (.int .i64 s.now.st.eng) (.slice ua un uc)
 refine⟨_,_,rfl,⟨HS.out.l.but hbt (.inr fun b h=>?_),HS.out.t.but hbt (.inr fun b h=>?_),HS.out.k,HS.out.e,HS.out.i⟩,fun b h=>?_,fun b h=>?_,ZgA HB1.out _ (by omega) _ _ _ _ _ _⟩
 ·have:=HF.out.1 b h
  have:=HLT.out
  omega
 ·have:=HF.out.2 b h
  have:=HLT.out
  omega
 ·exact Nat.le_trans HSZ.out (HF.out.1 b h)
 ·exact Nat.le_trans HSZ.out (HF.out.2 b h)
structure Stp where
 g:Nat
 bd:Array Value
 cp:Array Value
def Stp.val (s:Stp):Value:=.func (.func s.g) s.bd s.cp
theorem Zuz (b off cap:Nat) (n:Nat) (fs:Nat->Stp) (w:World) (P:Nat->World->Prop) (Q:Int->World->Prop) (hn:n<=1000000)
 (hcell:∀ i W,i<n->P i W->W.cell? ⟨b,off+i,none⟩=some (fs i).val)
 (hstep:∀ i W,i<n->P i W->Calls Tryz.prog (fs i).g ((fs i).bd++(fs i).cp) W fun e w'=>∃ c:Int,e=.returned (.int .i64 c)∧(c=0->P (i+1) w')∧(c≠0->Q c w'))
 (hent:∀ i,i<n->∀ args W,(callFunc (fs i).g args).run Tryz.prog W=.ok (.enter (fs i).g args) W) (h0:P 0 w):
 Calls Tryz.prog 62 #[.slice (some ⟨b,off,none⟩) n cap] w fun e w'=>∃ c:Int,e=.returned (.int .i64 c)∧(c=0->P n w')∧(c≠0->Q c w'):=by
 have HC:=ZZ hcell
 have HS:=ZZ hstep
 have HE:=ZZ hent
 have hni:(n:Int)<=1000000:=by omega
 clear hcell hstep hent
 have HP0:=ZZ h0
 clear h0
 go_enter Tryz.func62,Tryz.ntmps62
 go_wp2
 go_loopw[8] (fun vi wr=>∃ i:Nat,vi=.int .i64 (i:Int)∧i<=n∧Hid (P i wr)) (fun vi _=>n-(intOf vi).toNat)
 case atStart=>exact⟨0,rfl,Nat.zero_le _,HP0⟩
 case round=>
  clear HP0
  obtain⟨i,rfl,hi,HP⟩:=hrel
  by_cases hlt:i<n
  case neg=>
   obtain rfl:i=n:=by omega
   go_wp2
   go_ret
   exact⟨0,rfl,fun _=>HP.out,fun h=>absurd rfl h⟩
  have c0:=HC.out i wr hlt HP.out
  have HCA:=ZZ (HS.out i wr hlt HP.out)
  have hE:=HE.out i hlt
  unfold Stp.val at c0
  obtain⟨g,hg⟩:∃ g,g=(fs i).g:=⟨_,rfl⟩
  obtain⟨bd,hbd⟩:∃ bd,bd=(fs i).bd:=⟨_,rfl⟩
  obtain⟨cp,hcp⟩:∃ cp,cp=(fs i).cp:=⟨_,rfl⟩
  rw[<-hg,<-hbd,<-hcp] at c0 HCA
  rw[<-hg] at hE
  have hii:(i:Int)<(n:Int):=by omega
  clear HP hg hbd hcp HC HS HE
  go_wp2_with fail
  refine HCA.out.mono ?_
  rintro e W1 ⟨c,rfl,hc0,hc1⟩
  by_cases hc:c=0
  ·subst hc
   have HP1:=ZZ (hc0 rfl)
   clear hc0 hc1 c0 hE HCA
   go_wp2
   go_roundw
   case rel=>exact⟨i+1,by go_num,by omega,HP1⟩
   case measure=>simp[intOf];omega
  ·have HQ:=ZZ (hc1 hc)
   have hcb:(c != 0)=true:=by rw[bne_iff_ne];exact hc
   have HNZ:=ZZ hc
   clear hc0 hc1 c0 hE HCA hc
   go_wp2
   go_ret
   exact⟨c,rfl,fun h=>absurd h HNZ.out,fun _=>HQ.out⟩
theorem ZeO.setHead {M I:Nat->Prop} {w:World} {p pd:Nat} {L:Zhz} {s s':Sto} (h:ZeO M I w p pd L s) (j:Nat) (x:Value) (hlog:s'.log=s.log) (hbs:s'.bases=s.bases) (hnow:s'.now=s.now) (hc:(stC pd L s).setIfInBounds j x=stC pd L s'):
 ZeO M I (w.setCell ⟨p,j,none⟩ x) p pd L s':=by
 have hk:∀ k,k≠p->(w.setCell ⟨p,j,none⟩ x).heap[k]?=w.heap[k]?:=fun k hk=>Below.heap_setCell _ _ _ _ hk
 have hne:∀ {t:TypeId} {n sz g:Nat} {v:Value} {xs:List Value},w.ownsRow 0 t sz v n xs->v.ownBlock=some g->t≠76->g≠p:=fun hr hg ht=>by
  obtain⟨cs',hb⟩:=Zbv hr hg
  exact hb.ne h.head ht
 have hI:∀ k,I k->(w.setCell ⟨p,j,none⟩ x).heap[k]?=w.heap[k]?:=fun k hi=>hk k fun e=>h.dis p h.mh (by rw[<-e];exact hi)
 have hx:L.nx s'=L.nx s:=by unfold Zhz.nx;rw[hnow]
 refine⟨by rw[<-hc];exact h.head.set j x,?_,?_,Zah h.bases fun g hg=>hk g (hne h.bases hg (by decide)),by rw[hbs];exact h.bsEq,by rw[hx];exact h.now.keep h.inow hI,fun y hy=>(h.base y hy).keep (h.ibase y hy) hI,h.mh,h.mr,h.mp,h.mb,by rw[hx];exact h.inow,h.ibase,fun k hm=>by simpa using h.ltM k hm,fun k hm=>by simpa using h.ltI k hm,h.dis⟩
 ·rw[hlog]
  exact Zah h.recs fun g hg=>hk g (hne h.recs hg (by decide))
 ·rw[hlog]
  exact Zah h.pcs fun g hg=>hk g (hne h.pcs hg (by decide))
theorem SD.setHead {K:Nat->Prop} {w:World} {pd p:Nat} {s s':Sto} {d:Dk} {N T:Nat} (h:SD K w pd p s d N T) (hK:∀ k,K k->k<w.heap.size) (j:Nat) (x:Value) (hlog:s'.log=s.log) (hbs:s'.bases=s.bases) (hnow:s'.now=s.now) (hc:∀ L,(stC pd L s).setIfInBounds j x=stC pd L s'):
 SD K (w.setCell ⟨p,j,none⟩ x) pd p s' d N T∧ZaE (fun k=>¬ K k) w (w.setCell ⟨p,j,none⟩ x):=by
 obtain⟨F,M,I,L,h1,h2,h3,h4,h5,h6,h7⟩:=h
 exact SD.own hK h1 h3 h4 h5 h6 h7 ((ZaE.refl M w).setCell j (fun _=>h2.mh) x) (h2.setHead j x hlog hbs hnow (hc L)) (fun _ hk=>.inl hk) (fun _ hk=>.inl hk)
theorem SD.cells {K:Nat->Prop} {w:World} {pd p:Nat} {s:Sto} {d:Dk} {N T:Nat} (h:SD K w pd p s d N T):
 (w.cell? ⟨p,0,none⟩=some (ptr pd)∧w.cell? ⟨p,11,none⟩=some (.int .i64 s.synced)∧w.cell? ⟨p,12,none⟩=some (.int .i64 s.cur)∧w.cell? ⟨p,13,none⟩=some (.bool s.nw))∧∀ j,w.frozen? ⟨p,j,none⟩=false:=by
 obtain⟨F,M,I,L,h1,h2,-⟩:=h
 obtain⟨c0,-,-,-,-,-,c11,c12,c13⟩:=h2.cs
 exact⟨⟨c0,c11,c12,c13⟩,h2.fz⟩
theorem ZnN {K:Nat->Prop} {pd p:Nat} {s:Sto} {d:Dk} {N T:Nat} (w:World) (h:SD K w pd p s d N T) (hK:∀ k,K k->k<w.heap.size):
 Calls Tryz.prog 64 #[ptr p] w fun e w'=>ZjF K w pd p (Zco (s,d)) (N+2) T e w':=by
 unfold Zco
 obtain⟨⟨d',c⟩,hd⟩:∃ r,r=Zbd d:=⟨_,rfl⟩
 have HC:=ZZ (h.disk (d':=d') (c:=c) (N':=N+2) (T':=T) hK (fun F hF _=>by
  have:=Zpf w hF
  rw[<-hd] at this
  exact this))
 obtain⟨⟨c0,-⟩,-⟩:=h.cells
 dsimp only
 rw[<-hd]
 dsimp only
 have HK:=ZZ hK
 obtain⟨R,hR⟩:∃ R:SDk × Int,R=((if c=0 then { s with nw:=false } else s,d'),c):=⟨_,rfl⟩
 rw[<-hR]
 have HR:=ZZ hR
 clear h hd hK hR
 go_enter Tryz.func64,Tryz.ntmps64
 go_wp2_with fail
 refine HC.out.mono ?_
 rintro e W1 ⟨rfl,hs1,ho1⟩
 have HS1:=ZZ hs1
 have HO1:=ZZ ho1
 have HKW:Hid (∀ k,K k->k<W1.heap.size):=ZZ (fun k hk=>Nat.lt_of_lt_of_le (HK.out k hk) ho1.size)
 obtain⟨⟨-,-,-,c13⟩,fz⟩:=hs1.cells
 have f13:=fz 13
 clear hs1 ho1 HC c0 fz
 by_cases hc:c=0
 ·subst hc
  rw[if_pos rfl] at HR
  have HF:=ZZ (HS1.out.setHead (s':={ s with nw:=false }) HKW.out 13 (.bool false) rfl rfl rfl (fun _=>rfl))
  go_wp2
  go_ret
  rw[HR.out]
  exact⟨rfl,HF.out.1,HO1.out.trans HF.out.2 (fun _ _ h=>h)⟩
 ·rw[if_neg hc] at HR
  have hcb:(c == 0)=false:=beq_eq_false_iff_ne.2 hc
  clear hc
  go_wp2
  go_ret
  rw[HR.out]
  exact⟨rfl,HS1.out,HO1.out⟩
theorem Zmm {K:Nat->Prop} {pd p:Nat} {s:Sto} {d:Dk} {N T:Nat} (w:World) (h:SD K w pd p s d N T) (hK:∀ k,K k->k<w.heap.size):
 Calls Tryz.prog 66 #[ptr p] w fun e w'=>ZjF K w pd p (Zav (s,d)) (N+2) T e w':=by
 unfold Zav
 have HC:=ZZ (ZnN w h hK)
 obtain⟨⟨-,-,-,c13⟩,-⟩:=h.cells
 have HS:=ZZ h
 dsimp only
 cases hb:s.nw with
 | false=>
  rw[hb] at c13
  rw[if_neg (by simp)]
  clear h hb HC
  go_enter Tryz.func66,Tryz.ntmps66
  go_wp2
  go_ret
  exact⟨rfl,HS.out.mono (by omega) zL,ZaE.refl _ _⟩
 | true=>
  rw[hb] at c13
  rw[if_pos rfl]
  obtain⟨r,hr⟩:∃ r,r=Zco (s,d):=⟨_,rfl⟩
  rw[<-hr] at HC ⊢
  clear h hb HS hr
  go_enter Tryz.func66,Tryz.ntmps66
  go_wp2_with fail
  refine HC.out.mono ?_
  rintro e W1 ⟨rfl,hs1,ho1⟩
  have HS1:=ZZ (And.intro hs1 ho1)
  clear hs1 ho1 HC
  go_wp2
  go_ret
  exact⟨rfl,HS1.out⟩
theorem ZjF.from {K K2:Nat->Prop} {w W:World} {pd p:Nat} {r:SDk × Int} {N T N' T':Nat} {e:Ending} {w':World} (h:ZjF K2 W pd p r N T e w') (hK:∀ k,K k->K2 k) (ho:ZaE (fun k=>¬ K k) w W) (hN:N<=N') (hT:T<=T'):ZjF K w pd p r N' T' e w':=
 ⟨h.1,(h.2.1.less hK).mono hN hT,ho.trans (h.2.2.mono (fun k hk hn=>hk (hK k hn))) (fun _ _ h=>h)⟩
theorem SD.step {K:Nat->Prop} {w:World} {pd p:Nat} {s:Sto} {d:Dk} {N T N' T':Nat} {f:Nat} {args:Array Value} (g:Dk->Dk × Int) (h:SD K w pd p s d N T) (hK:∀ k,K k->k<w.heap.size)
 (hc:∀ F,Dsk F w pd d N T->(∀ k,F k->¬ K k)->Calls Tryz.prog f args w fun e w'=>ZlR F w pd (g d).1 (g d).2 N' T' e w'):Calls Tryz.prog f args w fun e w'=>ZjF K w pd p (Zxv g (s,d)) N' T' e w':=
 h.disk hK hc
theorem ZnO {K:Nat->Prop} {pd p R:Nat} {s:Sto} {d:Dk} {N T:Nat} (w:World) (h:SD K w pd p s d N T) (hK:∀ k,K k->k<w.heap.size) (hR:w.cell? ⟨R,0,none⟩=some (ptr p)) (hcu:I64 s.cur):
 Calls Tryz.prog 65 #[.pointer (some ⟨R,0,none⟩)] w fun e w'=>ZjF K w pd p (Zas (s,d)) (N+2) T e w':=by
 have HC:=ZZ ((h.below (Below.refl _ _).drew).step (fun d=>ZdX d s.cur) hK (fun F hF _=>ZvT s.cur hcu _ hF))
 obtain⟨⟨c0,-,c12,-⟩,-⟩:=h.cells
 have HO:Hid (ZaE (fun k=>¬ K k) w w.drew):=ZZ (ZaE.ofBelow (Below.refl _ _).drew)
 obtain⟨r,hr⟩:∃ r,r=Zas (s,d):=⟨_,rfl⟩
 have e1:Zxv (fun d=>ZdX d s.cur) (s,d)=r:=hr.symm
 rw[e1] at HC
 rw[<-hr]
 generalize s.cur=cu at *
 clear h hK hcu e1 hr
 go_enter Tryz.func65,Tryz.ntmps65
 go_upto_region 1 with fail
 go_region_with(first | (go_at_call 59;refine HC.out.mono ?_;rintro e W1 ⟨rfl,hs1,ho1⟩;have HS1:=ZZ (And.intro hs1 ho1);clear hs1 ho1))
 all_goals
  go_wp2
  go_ret
  exact⟨rfl,HS1.out.1,HO.out.trans HS1.out.2 (fun _ _ h=>h)⟩
theorem Zmn (x:SDk):(ZgX [Zas,Zav] x).1.1=x.1∨(ZgX [Zas,Zav] x).1.1={ x.1 with nw:=false }:=by
 unfold ZgX ZgX
 split
 ·split
  ·unfold ZgX Zav Zco
   split
   ·dsimp only
    split
    ·exact .inr rfl
    ·exact .inl rfl
   ·exact .inl rfl
  ·unfold Zav Zco
   split
   ·dsimp only
    split
    ·exact .inr rfl
    ·exact .inl rfl
   ·exact .inl rfl
 ·exact .inl rfl
theorem Ztd.nw {s:Sto} (h:Ztd s) (b:Bool):Ztd { s with nw:=b }:=⟨h.f0,h.f1,h.sy,h.cu⟩
theorem SD.synced {K:Nat->Prop} {w:World} {pd p:Nat} {s:Sto} {d:Dk} {N T:Nat} (h:SD K w pd p s d N T) (hK:∀ k,K k->k<w.heap.size):
 SD K (w.setCell ⟨p,11,none⟩ (.int .i64 s.next)) pd p (Zdy s) d N T∧ZaE (fun k=>¬ K k) w (w.setCell ⟨p,11,none⟩ (.int .i64 s.next)):=
 h.setHead hK 11 _ rfl rfl rfl (fun _=>rfl)
theorem SD.next {K:Nat->Prop} {w:World} {pd p:Nat} {s:Sto} {d:Dk} {N T:Nat} (h:SD K w pd p s d N T) (hn:Ztd s):
 Calls Tryz.prog 14 #[ptr p] w fun e w'=>e=.returned (.int .i64 s.next)∧Below w.heap.size w w':=by
 obtain⟨F,M,I,L,h1,h2,-⟩:=h
 exact ZjH w h2 hn
theorem ZnP {K:Nat->Prop} {pd p:Nat} {s:Sto} {d:Dk} {N T:Nat} (w:World) (h:SD K w pd p s d N T) (hK:∀ k,K k->k<w.heap.size) (hn:Ztd s):
 Calls Tryz.prog 27 #[ptr p] w fun e w'=>ZjF K w pd p (Zch (s,d)) (N+4) T e w':=by
 obtain⟨W0,hW0⟩:∃ W0,W0=w.alloc (.cells #[ptr p] 28):=⟨_,rfl⟩
 have HB0:Hid (Below w.heap.size w W0):=ZZ (by rw[hW0];exact ZcW _ _)
 have HX:Hid (Bk 28 W0 w.heap.size #[ptr p]):=ZZ (by rw[hW0];exact heap_alloc_new w _)
 obtain⟨K1,hK1⟩:∃ K1:Nat->Prop,K1=fun k=>K k∨(w.heap.size<=k∧k<W0.heap.size):=⟨_,rfl⟩
 have HS0:Hid (SD K1 W0 pd p s d N T):=ZZ (by rw[hK1];exact h.fresh HB0.out)
 have HKL:Hid (∀ k,K1 k->k<W0.heap.size):=ZZ (by
  rw[hK1]
  intro k hk
  rcases hk with hk | hk
  ·exact Nat.lt_of_lt_of_le (hK k hk) HB0.out.size
  ·exact hk.2)
 have HKK:Hid (∀ k,K k->K1 k):=ZZ (by rw[hK1];exact fun k hk=>.inl hk)
 have HKR:Hid (K1 w.heap.size):=ZZ (by rw[hK1];exact .inr ⟨Nat.le_refl _,HX.out.lt⟩)
 have HO0:Hid (ZaE (fun k=>¬ K k) w W0):=ZZ (ZaE.ofBelow HB0.out)
 have HRC:Hid (∀ W,ZaE (fun k=>¬ K1 k) W0 W->W.cell? ⟨w.heap.size,0,none⟩=some (ptr p)):=ZZ (fun W ho=>((HX.out.keep (ho.block _ HX.out.lt (fun hn=>hn HKR.out))).cell 0 rfl).1)
 have HNS:=ZZ hn
 have r0:=HRC.out W0 (ZaE.refl _ _)
 obtain⟨⟨-,-,c12,-⟩,-⟩:=HS0.out.cells
 obtain⟨res,hres⟩:∃ res,res=Zch (s,d):=⟨_,rfl⟩
 have HRES:=ZZ hres
 rw[<-hres]
 clear h hK hK1 hres
 by_cases hc:s.cur=0
 ·have hcb:(s.cur != 0)=false:=by rw[hc];rfl
  have HR:Hid (res=((Zdy s,d),0)):=ZZ (by rw[HRES.out];unfold Zch;rw[if_pos hc])
  have HNX:Hid (∀ W,Below W0.heap.size W0 W->Calls Tryz.prog 14 #[ptr p] W fun e w'=>e=.returned (.int .i64 s.next)∧Below W0.heap.size W0 w'):=ZZ (fun W hW=>((HS0.out.below hW).next HNS.out).mono (by
   rintro e w' ⟨rfl,hb⟩
   exact⟨rfl,hW.trans (hb.mono hW.size)⟩))
  have HKP:Hid (∀ W,Below W0.heap.size W0 W->W.cell? ⟨w.heap.size,0,none⟩=some (ptr p)∧W.cell? ⟨p,11,none⟩=some (.int .i64 s.synced)∧W.frozen? ⟨p,11,none⟩=false):=ZZ (fun W hW=>by
   obtain⟨⟨-,c11,-⟩,fz⟩:=(HS0.out.below hW).cells
   exact⟨HRC.out W (ZaE.ofBelow hW),c11,fz 11⟩)
  have HSD:Hid (Below W0.heap.size W0 W0.drew):=ZZ (Below.refl _ _).drew
  have HFI:Hid (∀ W,Below W0.heap.size W0 W->ZjF K w pd p res (N+4) T (.returned (.int .i64 0)) (W.setCell ⟨p,11,none⟩ (.int .i64 s.next))):=ZZ (fun W hW=>by
   rw[HR.out]
   have h2:=(HS0.out.below hW).synced (fun k hk=>Nat.lt_of_lt_of_le (HKL.out k hk) hW.size)
   exact ZjF.from (K2:=K1) (W:=W) ⟨rfl,h2.1,h2.2⟩ HKK.out (HO0.out.trans (ZaE.ofBelow (F:=fun _=>False) hW) (fun _ _ h=>h.elim)) (by omega) zL)
  generalize s.next=nx at *
  generalize s.cur=cu at *
  clear hc HR HRES hn
  go_enter Tryz.func27,Tryz.ntmps27
  go_upto_region 1 with fail
  rw[<-hW0]
  clear hW0
  go_upto_region 6 with fail
  go_region_with(first | (go_at_call 14;refine(HNX.out _ (by first | exact HSD.out | exact Below.refl _ _)).mono ?_;rintro e W1 ⟨rfl,hb1⟩;have HB1:=ZZ hb1;obtain⟨q0,q11,qf⟩:=HKP.out W1 hb1;clear hb1))
  all_goals
   go_wp2
   go_ret
   exact HFI.out _ HB1.out
 ·have hcb:(s.cur != 0)=true:=by rw[bne_iff_ne];exact hc
  obtain⟨R0,hR0⟩:∃ R0,R0=ZgX [Zas,Zav] (s,d):=⟨_,rfl⟩
  have HR:Hid (res=if R0.2=0 then((Zdy R0.1.1,R0.1.2),0) else R0):=ZZ (by rw[HRES.out,hR0];unfold Zch;rw[if_neg hc])
  have HN0:Hid (Ztd R0.1.1):=ZZ (by
   rcases Zmn (s,d) with hh | hh
   ·rw[hR0,hh];exact HNS.out
   ·rw[hR0,hh];exact HNS.out.nw false)
  obtain⟨W1,hW1⟩:∃ W1,W1=W0.alloc (.cells #[.func (.func 65) #[] #[.pointer (some ⟨w.heap.size,0,none⟩)],.func (.func 66) #[ptr p] #[]] 153):=⟨_,rfl⟩
  have HB1:Hid (Below W0.heap.size W0 W1):=ZZ (by rw[hW1];exact ZcW _ _)
  have HY:Hid (Bk 153 W1 W0.heap.size #[.func (.func 65) #[] #[.pointer (some ⟨w.heap.size,0,none⟩)],.func (.func 66) #[ptr p] #[]]):=ZZ (by rw[hW1];exact heap_alloc_new W0 _)
  obtain⟨K2,hK2⟩:∃ K2:Nat->Prop,K2=fun k=>K1 k∨(W0.heap.size<=k∧k<W1.heap.size):=⟨_,rfl⟩
  have HS1:Hid (SD K2 W1 pd p s d N T):=ZZ (by rw[hK2];exact HS0.out.fresh HB1.out)
  have HKL2:Hid (∀ k,K2 k->k<W1.heap.size):=ZZ (by
   rw[hK2]
   intro k hk
   rcases hk with hk | hk
   ·exact Nat.lt_of_lt_of_le (HKL.out k hk) HB1.out.size
   ·exact hk.2)
  have HK12:Hid (∀ k,K1 k->K2 k):=ZZ (by rw[hK2];exact fun k hk=>.inl hk)
  have HK2Y:Hid (K2 W0.heap.size):=ZZ (by rw[hK2];exact .inr ⟨Nat.le_refl _,HY.out.lt⟩)
  have HSTEPS:Hid (Calls Tryz.prog 62 #[.slice (some ⟨W0.heap.size,0,none⟩) 2 2] W1 fun e w'=>∃ c:Int,e=.returned (.int .i64 c)∧(c=0->SD K2 w' pd p R0.1.1 R0.1.2 (N+4) T∧R0.2=0∧ZaE (fun k=>¬ K2 k) W1 w')∧(c≠0->SD K2 w' pd p R0.1.1 R0.1.2 (N+4) T∧R0.2=c∧ZaE (fun k=>¬ K2 k) W1 w')):=ZZ (by
   have hs:=Zuz W0.heap.size 0 2 2 (fun i=>if i=0 then⟨65,#[],#[.pointer (some ⟨w.heap.size,0,none⟩)]⟩ else⟨66,#[ptr p],#[]⟩) W1
    (fun i W=>ZaE (fun k=>¬ K2 k) W1 W∧(i=0->SD K2 W pd p s d N T)∧(i=1->(Zas (s,d)).2=0∧SD K2 W pd p (Zas (s,d)).1.1 (Zas (s,d)).1.2 (N+2) T)∧(i=2->R0.2=0∧SD K2 W pd p R0.1.1 R0.1.2 (N+4) T))
    (fun c W=>SD K2 W pd p R0.1.1 R0.1.2 (N+4) T∧R0.2=c∧ZaE (fun k=>¬ K2 k) W1 W) (by decide)
    (fun i W hi hP=>by
     have hb:=HY.out.keep (hP.1.block _ HY.out.lt (fun hn=>hn HK2Y.out))
     match i,hi with
     | 0,_=>exact(hb.cell 0 rfl).1
     | 1,_=>exact(hb.cell 1 rfl).1)
    (fun i W hi hP=>by
     have hKW:∀ k,K2 k->k<W.heap.size:=fun k hk=>Nat.lt_of_lt_of_le (HKL2.out k hk) hP.1.size
     match i,hi with
     | 0,_=>
      refine(ZnO (R:=w.heap.size) W (hP.2.1 rfl) hKW (HRC.out W ((ZaE.ofBelow HB1.out).trans (hP.1.mono (fun k hk hn=>hk (HK12.out k hn))) (fun _ _ h=>h))) HNS.out.cu).mono ?_
      rintro e w' ⟨rfl,h2,h3⟩
      refine⟨_,rfl,fun hz=>⟨hP.1.trans h3 (fun _ _ h=>h),fun h=>absurd h (by decide),fun _=>⟨hz,h2⟩,fun h=>absurd h (by decide)⟩,fun hz=>?_⟩
      have e1:R0=Zas (s,d):=by rw[hR0];unfold ZgX;rw[if_neg hz]
      rw[e1]
      exact⟨h2.mono (by omega) zL,rfl,hP.1.trans h3 (fun _ _ h=>h)⟩
     | 1,_=>
      obtain⟨hz0,hs1⟩:=hP.2.2.1 rfl
      refine(Zmm W hs1 hKW).mono ?_
      rintro e w' ⟨rfl,h2,h3⟩
      have e2:Zav ((Zas (s,d)).1.1,(Zas (s,d)).1.2)=Zav (Zas (s,d)).1:=rfl
      rw[e2] at h2 ⊢
      have e1:(Zav (Zas (s,d)).1).1=R0.1∧(Zav (Zas (s,d)).1).2=R0.2:=by
       rw[hR0]
       unfold ZgX
       rw[if_pos hz0]
       unfold ZgX
       split
       ·rename_i hz
        exact⟨rfl,hz⟩
       ·exact⟨rfl,rfl⟩
      rw[e1.1] at h2
      exact⟨_,rfl,fun hz=>⟨hP.1.trans h3 (fun _ _ h=>h),fun h=>absurd h (by decide),fun h=>absurd h (by decide),fun _=>⟨by rw[<-e1.2];exact hz,h2⟩⟩,fun hz=>⟨h2,e1.2.symm,hP.1.trans h3 (fun _ _ h=>h)⟩⟩)
    (fun i hi=>by
     match i,hi with
     | 0,_=>exact enters_of Tryz.func65 (by kernel_rfl) rfl
     | 1,_=>exact enters_of Tryz.func66 (by kernel_rfl) rfl)
    ⟨ZaE.refl _ _,fun _=>HS1.out,fun h=>absurd h (by decide),fun h=>absurd h (by decide)⟩
   refine hs.mono ?_
   rintro e w' ⟨c,rfl,g1,g2⟩
   refine⟨c,rfl,fun hz=>?_,g2⟩
   obtain⟨h1,-,-,h4⟩:=g1 hz
   exact⟨(h4 rfl).2,(h4 rfl).1,h1⟩)
  have HO1:Hid (ZaE (fun k=>¬ K k) w W1):=ZZ (HO0.out.trans (ZaE.ofBelow (F:=fun _=>False) HB1.out) (fun _ _ h=>h.elim))
  have HKK2:Hid (∀ k,K k->K2 k):=ZZ (fun k hk=>HK12.out k (HKK.out k hk))
  have HRC2:Hid (∀ W,ZaE (fun k=>¬ K2 k) W1 W->W.cell? ⟨w.heap.size,0,none⟩=some (ptr p)):=ZZ (fun W ho=>HRC.out W ((ZaE.ofBelow HB1.out).trans (ho.mono (fun k hk hn=>hk (HK12.out k hn))) (fun _ _ h=>h)))
  have HWW:=ZZ hW1
  have HS0':=HS0
  generalize s.cur=cu at *
  clear hc hR0 hK2 hn hW1
  go_enter Tryz.func27,Tryz.ntmps27
  go_upto_region 1 with fail
  rw[<-hW0]
  clear hW0
  go_wp2_with(go_at_call 62;rw[<-HWW.out];refine HSTEPS.out.mono ?_)
  rintro e W2 ⟨c,rfl,hc0,hc1⟩
  clear HWW r0 c12
  by_cases hc:c=0
  ·subst hc
   obtain⟨hs2,hz,ho2⟩:=hc0 rfl
   have HR2:Hid (res=((Zdy R0.1.1,R0.1.2),0)):=ZZ (by rw[HR.out,if_pos hz])
   have HKW:Hid (∀ k,K2 k->k<W2.heap.size):=ZZ (fun k hk=>Nat.lt_of_lt_of_le (HKL2.out k hk) ho2.size)
   have HS2:=ZZ hs2
   have HO2:=ZZ ho2
   have HNX:Hid (∀ W,Below W2.heap.size W2 W->Calls Tryz.prog 14 #[ptr p] W fun e w'=>e=.returned (.int .i64 R0.1.1.next)∧Below W2.heap.size W2 w'):=ZZ (fun W hW=>((HS2.out.below hW).next HN0.out).mono (by
    rintro e w' ⟨rfl,hb⟩
    exact⟨rfl,hW.trans (hb.mono hW.size)⟩))
   have HKP:Hid (∀ W,Below W2.heap.size W2 W->W.cell? ⟨w.heap.size,0,none⟩=some (ptr p)∧W.cell? ⟨p,11,none⟩=some (.int .i64 R0.1.1.synced)∧W.frozen? ⟨p,11,none⟩=false):=ZZ (fun W hW=>by
    obtain⟨⟨-,c11,-⟩,fz⟩:=(HS2.out.below hW).cells
    exact⟨HRC2.out W (HO2.out.trans (ZaE.ofBelow (F:=fun _=>False) hW) (fun _ _ h=>h.elim)),c11,fz 11⟩)
   have HSD:Hid (Below W2.heap.size W2 W2.drew):=ZZ (Below.refl _ _).drew
   have HFI:Hid (∀ W,Below W2.heap.size W2 W->ZjF K w pd p res (N+4) T (.returned (.int .i64 0)) (W.setCell ⟨p,11,none⟩ (.int .i64 R0.1.1.next))):=ZZ (fun W hW=>by
    rw[HR2.out]
    have h2:=(HS2.out.below hW).synced (fun k hk=>Nat.lt_of_lt_of_le (HKW.out k hk) hW.size)
    exact ZjF.from (K2:=K2) (W:=W) ⟨rfl,h2.1,h2.2⟩ HKK2.out ((HO1.out.trans (HO2.out.mono (fun k hk hn=>hk (HKK2.out k hn))) (fun _ _ h=>h)).trans (ZaE.ofBelow (F:=fun _=>False) hW) (fun _ _ h=>h.elim)) (by omega) zL)
   obtain⟨q0,q11,qf⟩:=HKP.out W2 (Below.refl _ _)
   generalize R0.1.1.next=nx at *
   generalize R0.1.1.synced=sy at *
   clear hc0 hc1 hs2 hz ho2 HR HRES
   go_upto_region 6 with fail
   go_region_with(first | (go_at_call 14;refine(HNX.out _ (by first | exact HSD.out | exact Below.refl _ _)).mono ?_;rintro e W3 ⟨rfl,hb3⟩;have HB3:=ZZ hb3;obtain⟨x0,x11,xf⟩:=HKP.out W3 hb3;clear hb3))
   all_goals
    go_wp2
    go_ret
    exact HFI.out _ HB3.out
  ·obtain⟨hs2,hz,ho2⟩:=hc1 hc
   have HFI:Hid (ZjF K w pd p res (N+4) T (.returned (.int .i64 c)) W2):=ZZ (by
    rw[HR.out,if_neg (by rw[hz];exact hc)]
    exact ZjF.from (K2:=K2) (W:=W1) ⟨by rw[hz],hs2,ho2⟩ HKK2.out HO1.out zL zL)
   have hcb2:(c != 0)=true:=by rw[bne_iff_ne];exact hc
   clear hc0 hc1 hs2 hz ho2 HR HRES hc
   go_wp2
   go_ret
   exact HFI.out
theorem Own.empty {w:World} {B:Nat} {X:Obj} {cur:Array Value} {N:Nat} (hN:w.heap.size=N) (hX:X=.cells cur 5 (0,0)) (hB:B<=N) (cap:Nat) (hm:cap<=maxLen) (hs:cur.size=cap):Own (w.alloc X) B (.slice (some ⟨N,0,none⟩) 0 cap) []:=by
 subst hN hX
 have h:=World.ownsRow_made (e:=5) (size:=1) (base:=B) w cur cap hB hm (by omega)
 exact h
theorem ZqO (n:Nat) (w:World) (hn:n<=1000000):
 Calls Tryz.prog 182 #[.slice none 0 0,.int .i64 (n:Int)] w fun e w'=>∃ v',e=.returned v'∧Own w' w.heap.size v' []∧Below w.heap.size w w':=by
 obtain⟨i0,hi,hz0,hz1,hz2⟩:=info_parts ZlG
 by_cases h0:n=0
 ·subst h0
  go_enter Tryz.func182,Tryz.ntmps182
  go_wp2
  go_ret
  exact⟨_,rfl,Own.nil _ _,Below.refl _ _⟩
 ·have hrz:∀ ty,(Builtin.append_ #[53,3] ty #[.slice none 0 0,.int .i64 (n:Int)]).run Tryz.prog w =
   .ok (.slice (some ⟨w.heap.size,0,none⟩) n (grownCap w n 0 5)) (w.drew.alloc (.cells (#[]++Builtin.zeroCells #[.int .u8 0] n++Builtin.zeroCells #[.int .u8 0] (grownCap w n 0 5-n)) 5)):=fun ty=>by
   have h:=Lib.run_append_grow_zeros (P:=Tryz.prog) w 53 3 ty 5 i0 (.int .u8 0) .i64 .i64 Tryz.underlying53 Tryz.underlying3 hi hz0 none 0 0 [] (run_firstCells_none w.drew i0.size 0 0 0) n (by omega) (by omega) (by omega) (by omega) (by rw[hz2];omega)
    (by rw[Nat.zero_add];exact growslice_fits (by omega) (by rw[hz2];omega))
   rw[Nat.zero_add] at h
   exact h
  have hGn:n<=grownCap w n 0 5:=grownCap_ge w _ _ _
  have hGm:=grownCap_le_maxLen w n 0 5 (by unfold maxLen;omega)
  generalize grownCap w n 0 5=G at *
  have hG63:G<=9223372036854775807:=by
   unfold maxLen at hGm
   omega
  have hZ:(#[]++Builtin.zeroCells #[Value.int .u8 0] n++Builtin.zeroCells #[Value.int .u8 0] (G-n)).size=G:=by
   simp[Builtin.zeroCells]
   omega
  generalize (#[]++Builtin.zeroCells #[Value.int .u8 0] n++Builtin.zeroCells #[Value.int .u8 0] (G-n))=Z at *
  have hpos:(0:Int)<(n:Int):=by omega
  have HO:Hid (Own (w.drew.alloc (.cells Z 5)) w.heap.size (.slice (some ⟨w.heap.size,0,none⟩) 0 G) []):=ZZ (Own.empty rfl rfl zL G hGm hZ)
  have HB:Hid (Below w.heap.size w (w.drew.alloc (.cells Z 5))):=ZZ (((Below.refl _ _).drew).alloc zL _)
  clear hZ hGm
  go_enter Tryz.func182,Tryz.ntmps182
  go_wp2_with(at_builtin;refine Lib.wpList_append_run _ rfl _ _ _ _ rfl _ _ rfl rfl _ _ (hrz _) ?_)
  all_goals (go_ret;exact⟨_,rfl,HO.out,HB.out⟩)
theorem ZnQ (L:List (List UInt8)) (k:Nat) (hk:k<L.length):(L.take (k+1)).flatten=(L.take k).flatten++L.getD k []:=by
 have e:L.take (k+1)=L.take k++[L.getD k []]:=by
  rw[List.take_add_one]
  simp[List.getD,hk]
 rw[e,List.flatten_append]
 simp
theorem ZxO (L:List (List UInt8)) (k:Nat):((L.take k).flatten).length<=L.flatten.length:=by
 have e:L.flatten=(L.take k).flatten++(L.drop k).flatten:=by rw[<-List.flatten_append,List.take_append_drop]
 rw[e,List.length_append]
 omega
def Zmo (L:List (List UInt8)) (k:Nat):Nat:=(L.take k).flatten.length
def ZuA (L:List (List UInt8)) (k:Nat):List UInt8:=(L.take k).flatten
theorem ZnR (L:List (List UInt8)) (k:Nat) (hk:k<L.length):ZuA L (k+1)=ZuA L k++L.getD k []:=ZnQ L k hk
theorem ZnS (L:List (List UInt8)) (k:Nat) (hk:k<L.length):(Zmo L (k+1):Int)=(Zmo L k:Int)+((L.getD k []).length:Int):=by
 unfold Zmo
 rw[ZnQ L k hk,List.length_append]
 omega
theorem ZuB (L:List (List UInt8)) (k:Nat):Zmo L k<=L.flatten.length:=ZxO L k
theorem ZqP (L:List (List UInt8)) (k:Nat):(ZuA L k).length=Zmo L k:=rfl
theorem ZqQ (L:List (List UInt8)) (k:Nat) (hk:L.length<=k):ZuA L k=L.flatten:=by
 unfold ZuA
 rw[List.take_of_length_le hk]
theorem Zlk (v:Value) (L:List (List UInt8)) (w:World) (hr:RdL w v L) (hlim:L.flatten.length<=1000000) (hn:L.length<=1000):
 Calls Tryz.prog 131 #[v] w fun e w'=>∃ v',e=.returned v'∧Own w' w.heap.size v' L.flatten∧Below w.heap.size w w':=by
 have HG:=ZZ (fun n W h=>ZqO n W h)
 have HRL:=ZZ hr
 have HLE:Hid (∀ k,Zmo L k<=1000000):=fun k=>Nat.le_trans (ZuB L k) hlim
 have HFN:=ZZ (ZnS L)
 have HFS:=ZZ (ZnR L)
 have HFA:=ZZ (ZqQ L)
 have HFL:=ZZ (ZqP L)
 obtain⟨F,hF⟩:∃ F,F=L.flatten:=⟨_,rfl⟩
 rw[<-hF]
 rw[<-hF] at HFA
 obtain⟨ao,cap,rfl,-,-,-,hao⟩:=hr
 have HAO:=ZZ hao
 clear hao hF hlim
 go_enter Tryz.func131,Tryz.ntmps131
 go_wp2
 go_loopw[3,11] (fun vs vi wr=>∃ (k:Nat),vs=.int .i64 (Zmo L k:Int)∧vi=.int .i64 (k:Int)∧k<=L.length∧wr=w) (fun _ vi _=>L.length-(intOf vi).toNat)
 case atStart=>exact⟨0,rfl,rfl,Nat.zero_le _,rfl⟩
 case round=>
  obtain⟨k,rfl,rfl,hk,hwr⟩:=hrel
  have hwr2:=hwr.symm
  subst hwr2
  clear hwr
  by_cases hlt:k<L.length
  ·rcases HAO.out with h0 | ⟨c,off,rfl,hc⟩
   ·rw[h0] at hlt;simp at hlt
   obtain⟨x,hx,hrx⟩:=hc k hlt
   have h1:=HLE.out (k+1)
   have h2:=HFN.out k hlt
   obtain⟨ax,cx,rfl,-⟩:=hrx
   have h3:¬ ((Zmo L k:Int)+((L.getD k []).length:Int)<0):=by omega
   have h4:(Zmo L k:Int)+((L.getD k []).length:Int)<=1000000:=by omega
   have H2:=ZZ h2
   clear hc h1 h2
   generalize Zmo L k=A at *
   generalize (L.getD k []).length=D at *
   go_wp2
   go_roundw
   case rel=>exact⟨k+1,by rw[H2.out],by go_num,by omega,trivial⟩
   case measure=>simp[intOf];omega
  ·have HGG:=ZZ (HG.out (Zmo L k) w (HLE.out k))
   generalize Zmo L k=A at *
   go_wp2_with fail
   refine HGG.out.mono ?_
   rintro e W1 ⟨v1,rfl,ho1,hb1⟩
   have HO1:=ZZ ho1
   have HB1:=ZZ hb1
   clear ho1 hb1 hk hlt
   go_wp2
   go_loopw[6,27] (fun vo vi w2=>∃ (j:Nat),vi=.int .i64 (j:Int)∧j<=L.length∧Hid (Own w2 w.heap.size vo (ZuA L j))∧Hid (Below w.heap.size w w2)) (fun _ vi _=>L.length-(intOf vi).toNat)
   case atStart=>exact⟨0,rfl,Nat.zero_le _,HO1,HB1⟩
   case round=>
    clear HO1 HB1
    obtain⟨j,rfl,hj,HO2,HB2⟩:=hrel
    by_cases hjl:j<L.length
    ·rcases HAO.out with h0 | ⟨c,off,rfl,hc⟩
     ·rw[h0] at hjl;simp at hjl
     obtain⟨x,hx0,hrx⟩:=hc j hjl
     have hx:=(HB2.out.cell (World.block_lt_of_cell? _ _ hx0)).trans hx0
     have HRX:=ZZ (hrx.below HB2.out zL)
     obtain⟨ax,cx,rfl,-⟩:=hrx
     have HLL:Hid ((ZuA L j).length+(L.getD j []).length<=70368744177664):=ZZ (by
      have h1:=HLE.out (j+1)
      have h2:=HFN.out j hjl
      rw[HFL.out]
      omega)
     have HSZ:=ZZ HB2.out.size
     have HN:=ZZ (HFS.out j hjl)
     clear hc hx0
     generalize L.getD j []=D at *
     generalize ZuA L j=P at *
     go_wp2_with(at_builtin;refine ZaK _ rfl _ _ rfl w.heap.size _ P rfl HO2.out _ D rfl HRX.out HLL.out HSZ.out ?_)
     intro v3 W3 ho3 hb3
     rw[<-HN.out] at ho3
     have HO3:=ZZ ho3
     have HB3:=ZZ (HB2.out.trans hb3)
     clear ho3 hb3
     go_wp2
     go_roundw
     case rel=>exact⟨j+1,by go_num,by omega,HO3,HB3⟩
     case measure=>simp[intOf];omega
    ·have HE:=ZZ (HFA.out j (by omega))
     rw[HE.out] at HO2
     go_wp2
     go_ret
     exact⟨_,rfl,HO2.out,HB2.out⟩
theorem RdL.built (W:World) (N:Nat) (hN:N=W.heap.size) (vs:Array Value) (L:List (List UInt8)) (hl:L.length<=1000) (h:∀ j,j<L.length->∃ x,vs[j]?=some x∧Rd W x (L.getD j [])):
 RdL (W.alloc (.cells vs 53)) (.slice (some ⟨N,0,none⟩) L.length L.length) L:=by
 subst hN
 refine⟨some ⟨W.heap.size,0,none⟩,L.length,rfl,Nat.le_refl _,by unfold maxLen;omega,fun e=>(by cases e),.inr ⟨W.heap.size,0,rfl,fun j hj=>?_⟩⟩
 obtain⟨x,hx,hr⟩:=h j hj
 refine⟨x,?_,hr.below ((Below.refl _ _).alloc zL _) zL⟩
 rw[Nat.zero_add,cell_of_row _ W.heap.size j vs 53 (0,0) (heap_alloc_new W _)]
 exact hx
theorem ZuC (W:World) (N:Nat) (hN:N=W.heap.size) (v0 v1 v2 v3:Value) (l0 l1 l2 l3:List UInt8) (h0:Rd W v0 l0) (h1:Rd W v1 l1) (h2:Rd W v2 l2) (h3:Rd W v3 l3) (hlim:l0.length+l1.length+l2.length+l3.length<=1000000):
 Calls Tryz.prog 131 #[.slice (some ⟨N,0,none⟩) 4 4] (W.alloc (.cells #[v0,v1,v2,v3] 53)) fun e w'=>∃ v',e=.returned v'∧Own w' W.heap.size v' (l0++(l1++(l2++l3)))∧Below W.heap.size W w':=by
 have hr:=RdL.built W N hN #[v0,v1,v2,v3] [l0,l1,l2,l3] (by simp) (fun j hj=>by
  match j,hj with
  | 0,_=>exact⟨v0,rfl,h0⟩
  | 1,_=>exact⟨v1,rfl,h1⟩
  | 2,_=>exact⟨v2,rfl,h2⟩
  | 3,_=>exact⟨v3,rfl,h3⟩)
 have ef:[l0,l1,l2,l3].flatten=l0++(l1++(l2++l3)):=by simp
 refine(Zlk _ _ _ hr (by rw[ef];simp only [List.length_append];omega) (by simp)).mono ?_
 rintro e w' ⟨v',rfl,ho,hb⟩
 rw[ef] at ho
 exact⟨v',rfl,ho.mono (by simp),((Below.refl _ _).alloc zL _).trans (hb.mono (by simp))⟩
theorem Zsb (v:Value) (l:List UInt8) (w:World) (hr:Rd w v l) (hlim:l.length<=1000000):
 Calls Tryz.prog 214 #[v] w fun e w'=>∃ v',e=.returned v'∧Own w' w.heap.size v' l∧Below w.heap.size w w':=by
 have HR:=ZZ hr
 obtain⟨ao,cap,rfl,hlc,-,hn,-⟩:=hr
 cases ao with
 | none=>
  obtain rfl:cap=0:=hn rfl
  obtain rfl:l=[]:=List.eq_nil_of_length_eq_zero (by omega)
  clear hn hlc
  have hnil:∀ w,(binOp .eql 53 (.slice none 0 0) (.slice none 0 0)).run Tryz.prog w=.ok (.bool true) w:=fun w=>run_eql_slice_nil w _ _ none 0 0 Tryz.underlying53
  go_enter Tryz.func214,Tryz.ntmps214
  go_wp2
  go_ret
  exact⟨_,rfl,Own.nil _ _,Below.refl _ _⟩
 | some a=>
  clear hn
  have hnil:∀ w,(binOp .eql 53 (.slice (some a) l.length cap) (.slice none 0 0)).run Tryz.prog w=.ok (.bool false) w:=fun w=>run_eql_slice_nil w _ _ (some a) _ _ Tryz.underlying53
  have HB0:Hid (∀ X,Below w.heap.size w (w.alloc X)):=fun X=>(Below.refl _ _).alloc zL X
  have HO0:Hid (Own (w.alloc (.cells #[] 5)) w.heap.size (.slice (some ⟨w.heap.size,0,none⟩) 0 0) []):=ZZ (Own.empty rfl rfl zL 0 (Nat.zero_le _) rfl)
  go_enter Tryz.func214,Tryz.ntmps214
  go_wp2_with(at_builtin;refine ZaK _ rfl _ _ rfl w.heap.size _ [] rfl HO0.out _ l rfl (HR.out.below (HB0.out _) zL) (by simp;omega) (by simp) ?_)
  intro v1 W1 ho1 hb1
  have HO1:=ZZ ho1
  have HB1:=ZZ ((HB0.out _).trans hb1)
  clear ho1 hb1
  go_wp2
  go_ret
  exact⟨_,rfl,HO1.out,HB1.out⟩
end Go.Proofs.YtnahjngbneicaaaGreatDoor
