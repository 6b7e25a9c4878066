import Derived.Test.YtnahjngbneicaaaGreatDoorBlockRow
import Derived.Test.YtnahjngbneicaaaGreatDoorBlockTakeC
import Derived.Test.YtnahjngbneicaaaGreatDoorPack9
namespace Go.Proofs.YtnahjngbneicaaaGreatDoor
set_option maxRecDepth 100000
open Go.RowKit
structure DIB (w wr:World) (b:List UInt8) (first count g B:Nat) (L:List Rec) (vl:Value) (m:List UInt8) (t:Bool):Prop where
 row:Zko wr g (L++List.replicate (count-L.length) Zai)
 map:ZhE wr B L.length (Zar L)
 rd:Rd wr vl m
 le:m.length<=b.length
 read:Zqc b first count L m t
 below:Below w.heap.size w wr
theorem ZmB (L:List Rec):∀ u ∈ Zam L,∃ n,u=Value.int .i64 n:=by
 induction L with
 | nil=>intro u hu;simp[Zam] at hu
 | cons r t ih=>
  intro u hu
  rw[Zam] at hu
  rcases List.mem_append.1 hu with h | h
  ·simp[ZdG] at h
   rcases h with rfl | rfl | rfl | rfl | rfl | rfl | rfl <;> exact⟨_,rfl⟩
  ·exact ih u h
theorem Rd.row {w w':World} {v:Value} {m:List UInt8} (h:Rd w v m) {g:Nat} {L:List Rec} (hrow:Zko w g L) (hk:But g g w w'):Rd w' v m:=by
 obtain⟨va,vc,h1,h2,h3,hn,h4⟩:=h
 refine⟨va,vc,h1,h2,h3,hn,?_⟩
 rcases h4 with h4 | ⟨c,off,h5,h6⟩
 ·exact .inl h4
 ·refine .inr ⟨c,off,h5,fun j hj=>?_⟩
  have hc:=h6 j hj
  by_cases e:c=g
  ·rw[e,(hrow.cell _).1] at hc
   obtain⟨n,hn⟩:=ZmB L _ (List.mem_of_getElem? hc)
   cases hn
  ·have hlt:c<w.heap.size:=World.block_lt_of_cell? w ⟨c,off+j,none⟩ hc
   rw[World.cell?_of_block (a:=⟨c,off+j,none⟩) (hk.block c hlt e e)]
   exact hc
theorem ZhE.row {w w':World} {b n:Nat} {f:Int->Int} (h:ZhE w b n f) {g:Nat} {L:List Rec} (hrow:Zko w g L) (hk:But g g w w'):ZhE w' b n f:=by
 have hne:b≠g:=fun e=>h.apart hrow e.symm
 exact h.keep (hk.block b h.lt hne hne)
theorem ZxY (L:List Rec) (count:Nat) (hlt:L.length<count) (r:Rec):(L++List.replicate (count-L.length) Zai).set L.length r=(L++[r])++List.replicate (count-(L++[r]).length) Zai:=by
 have e:count-L.length=(count-(L++[r]).length)+1:=by simp;omega
 rw[e,List.replicate_succ,List.set_append_right _ _ zL,Nat.sub_self]
 simp
set_option maxHeartbeats 4000000 in
theorem Zin (vb:Value) (b:List UInt8) (w:World) (hr:Rd w vb b) (hlim:b.length<=1000000):
 Calls Tryz.prog 120 #[vb] w fun e w'=>Zdk w b e w':=by
 have HR:=ZZ hr
 obtain⟨va,vc,rfl⟩:∃ va vc,vb=.slice va b.length vc:=by
  obtain⟨va,vc,rfl,_⟩:=hr
  exact⟨va,vc,rfl⟩
 clear hr
 have HBG:=ZZ (fun l' hf hb=>ZpQ (l:=l') (b:=b) hf hb)
 obtain⟨m1,hm1⟩:∃ m1,m1=behind (Zab b).2 b:=⟨_,rfl⟩
 obtain⟨m2,hm2⟩:∃ m2,m2=behind (Zab m1).2 m1:=⟨_,rfl⟩
 have HG1:Hid (∀ W v,Rd W v b->Calls Tryz.prog 167 #[v,.func (.func 168) #[] #[]] W fun e w'=>∃ v',e=.returned (.tuple #[.int .i64 ((Zab b).1:Nat),v',.bool (decide ((Zab b).2≠0))])∧Rd w' v' m1∧Below W.heap.size W w'):=ZZ (fun W v h=>by
  have:=Zgb ((Zab b).1:Nat) (Zab b).2 v b W h (ZbQ b) (ZeZ v b W h)
  rw[<-hm1] at this
  exact this)
 have HG2:Hid (∀ W v,Rd W v m1->Calls Tryz.prog 167 #[v,.func (.func 168) #[] #[]] W fun e w'=>∃ v',e=.returned (.tuple #[.int .i64 ((Zab m1).1:Nat),v',.bool (decide ((Zab m1).2≠0))])∧Rd w' v' m2∧Below W.heap.size W w'):=ZZ (fun W v h=>by
  have:=Zgb ((Zab m1).1:Nat) (Zab m1).2 v m1 W h (ZbQ m1) (ZeZ v m1 W h)
  rw[<-hm2] at this
  exact this)
 have l1:=ZbF (Zab b).2 b
 have l2:=ZbF (Zab m1).2 m1
 rw[<-hm1] at l1
 rw[<-hm2] at l2
 have c1:(Zab b).1<4611686018427387904:=by
  rcases Zau b with h | h
  ·rw[h];decide
  ·exact h.1
 have HW:Hid (∀ l',ZaY l'->ZcU l'=b->(Zab m1).2≠0∧l'.length=(Zab m1).1∧m2=Zbf [] l'∧(l'.headD Zai).idx=((Zab b).1:Nat)):=ZZ (fun l' hf hb=>by
  obtain⟨g1,g2,g3,g4,g5⟩:=HBG.out l' hf hb
  rw[ZaW g2] at hm1
  rw[<-hm1] at g3 g4 g5
  rw[ZaW g4] at hm2
  refine⟨g4,g3.symm,?_,g1.symm⟩
  rw[<-List.drop_drop,<-hm1,<-hm2] at g5
  exact g5)
 have HS:Hid ((Zab m1).2≠0->b=Lib.uvarint (Zab b).1++(Lib.uvarint (Zab m1).1++m2)):=ZZ (fun h=>by
  have h1:(Zab b).2≠0:=ZeE (l:=b) (by rw[<-hm1];exact ZsC h)
  have e1:=Zkd h1
  have e2:=Zkd h
  rw[<-hm1] at e1
  rw[<-hm2] at e2
  exact e1.trans (congrArg (Lib.uvarint (Zab b).1++·) e2))
 have HF0:Hid (∀ W v l,RdR W v l->Calls Tryz.prog 48 #[v] W fun e w'=>e=.returned (.bool (decide (ZaY l)))∧Below W.heap.size W w'):=ZZ (fun W v l h=>Zec v l W h)
 clear hm1 hm2 HBG
 generalize decide ((Zab b).2≠0)=T0 at *
 generalize (Zab b).1=first at *
 generalize (Zab m1).1=count at *
 obtain⟨T1,hT1⟩:∃ T1,T1=decide ((Zab m1).2≠0):=⟨_,rfl⟩
 rw[<-hT1] at HG2
 by_cases hbad:(Zab m1).2=0∨256<count
 ·have HN:Hid (∀ l',ZaY l'->ZcU l'≠b):=ZZ (fun l' hf hb=>by
   obtain⟨g1,g2,_⟩:=HW.out l' hf hb
   have:=hf.2.1
   omega)
  by_cases h0:(Zab m1).2=0
  ·have hf:T1=false:=by rw[hT1];exact decide_eq_false (fun h=>h h0)
   subst hf
   clear hbad HW HS h0 hT1
   go_enter Tryz.func120,Tryz.ntmps120
   go_wp2_with fail
   refine(HG1.out _ _ HR.out).mono ?_
   rintro e W1 ⟨v1,rfl,hr1,hb1⟩
   obtain⟨a1,n1,e1,-⟩:=id hr1
   subst e1
   have HR1:=ZZ hr1
   have HB1:=ZZ hb1
   clear hr1 hb1
   go_wp2_with fail
   refine(HG2.out _ _ HR1.out).mono ?_
   rintro e W2 ⟨v2,rfl,hr2,hb2⟩
   obtain⟨a2,n2,e2,-⟩:=id hr2
   subst e2
   have HB2:=ZZ (HB1.out.trans (hb2.mono HB1.out.size))
   clear hr2 hb2
   go_wp2
   go_ret2
   exact Zdk.none HN.out HB2.out
  ·have hf:T1=true:=by rw[hT1];exact decide_eq_true h0
   subst hf
   have h2':256<(count:Int):=by omega
   clear hbad HW HS h0 hT1
   go_enter Tryz.func120,Tryz.ntmps120
   go_wp2_with fail
   refine(HG1.out _ _ HR.out).mono ?_
   rintro e W1 ⟨v1,rfl,hr1,hb1⟩
   obtain⟨a1,n1,e1,-⟩:=id hr1
   subst e1
   have HR1:=ZZ hr1
   have HB1:=ZZ hb1
   clear hr1 hb1
   go_wp2_with fail
   refine(HG2.out _ _ HR1.out).mono ?_
   rintro e W2 ⟨v2,rfl,hr2,hb2⟩
   obtain⟨a2,n2,e2,-⟩:=id hr2
   subst e2
   have HB2:=ZZ (HB1.out.trans (hb2.mono HB1.out.size))
   clear hr2 hb2
   go_wp2
   go_ret2
   exact Zdk.none HN.out HB2.out
 have h0:(Zab m1).2≠0:=fun h=>hbad (.inl h)
 have hc256:count<=256:=Nat.le_of_not_lt (fun h=>hbad (.inr h))
 have hf:T1=true:=by rw[hT1];exact decide_eq_true h0
 subst hf
 have HRB0:Hid (Zqc b first count [] m2 true):=ZZ ⟨trivial,(fun r h=>by simp at h),(fun _ _=>HS.out h0),(fun h=>by cases h),fun l' hf hb=>by
  obtain⟨g1,g2,g3,g4⟩:=HW.out l' hf hb
  exact⟨g2,by simp,by simpa using g3,rfl,g4⟩⟩
 have hn2:¬ 256<(count:Int):=by omega
 have hmk:=ZmA
 have hmk2:∀ W:World,(Instr.makeSlice 29 (.int .i64 (count:Int)) (.int .i64 (count:Int))).run Tryz.prog W=.ok (.slice (some ⟨W.heap.size,0,none⟩) count count) (W.alloc (.cells (Zam (List.replicate count Zai)).toArray 62)):=fun W=>hmk W count (by omega)
 have hmm:=@run_makeMap Tryz.prog
 have hlm2:m2.length<=b.length:=by omega
 clear hbad HW HS h0 hT1 hmk l1 l2
 obtain⟨ZR,hZR⟩:∃ ZR,ZR=(Zam (List.replicate count Zai)).toArray:=⟨_,rfl⟩
 rw[<-hZR] at hmk2
 have HZR:=ZZ hZR
 clear hZR
 go_enter Tryz.func120,Tryz.ntmps120
 go_wp2_with fail
 refine(HG1.out _ _ HR.out).mono ?_
 rintro e W1 ⟨v1,rfl,hr1,hb1⟩
 obtain⟨a1,n1,e1,-⟩:=id hr1
 subst e1
 have HR1:=ZZ hr1
 have HB1:=ZZ hb1
 clear hr1 hb1
 go_wp2_with fail
 refine(HG2.out _ _ HR1.out).mono ?_
 rintro e W2 ⟨v2,rfl,hr2,hb2⟩
 obtain⟨a2,n2,e2,-⟩:=id hr2
 subst e2
 have HR2:=ZZ hr2
 have HB2:=ZZ (HB1.out.trans (hb2.mono HB1.out.size))
 clear hr2 hb2 HR1 HB1 HG1 HG2
 have HI0:Hid (DIB w ((W2.alloc (.cells ZR 62)).alloc (.map #[] 0)) b first count W2.heap.size (W2.heap.size+1) [] (.slice a2 m2.length n2) m2 true):=ZZ (by
  have hb3:Below W2.heap.size W2 ((W2.alloc (.cells ZR 62)).alloc (.map #[] 0)):=((Below.refl _ _).alloc zL _).alloc (by simp) _
  have hs:(W2.alloc (.cells ZR 62)).heap.size=W2.heap.size+1:=by simp
  refine⟨?_,?_,HR2.out.below hb3 zL,hlm2,HRB0.out,HB2.out.trans (hb3.mono HB2.out.size)⟩
  ·rw[List.nil_append,List.length_nil,Nat.sub_zero]
   unfold Zko
   rw[<-HZR.out]
   exact(Below.heap_alloc _ _ _ (by simp)).trans (heap_alloc_new W2 _)
  ·have h:=ZhE.made (W2.alloc (.cells ZR 62))
   rw[hs] at h
   exact h)
 have HN:=ZZ HB2.out.size
 clear HR2 HB2 HRB0
 go_wp2
 go_loopw[5,8,35] (fun vl vt vi wr=>∃ (t:Bool) (L:List Rec) (m:List UInt8),vt=.bool t∧vi=.int .i64 (L.length:Int)∧L.length<=count∧Hid (DIB w wr b first count W2.heap.size (W2.heap.size+1) L vl m t)) (fun _ _ vi _=>count-(intOf vi).toNat)
 case atStart=>exact⟨true,[],m2,rfl,rfl,Nat.zero_le _,HI0⟩
 case round=>
  clear HI0
  obtain⟨t,L,m,rfl,rfl,hk,hI⟩:=hrel
  by_cases hlt:L.length<count
  case neg=>
   obtain rfl:count=L.length:=by omega
   have hck:¬ (L.length:Int)<(L.length:Int):=by omega
   have hrow:=hI.out.row
   rw[Nat.sub_self,List.replicate_zero,List.append_nil] at hrow
   have HRL:=ZZ (hrow.rd hI.out.read.ok (by unfold maxLen;omega))
   have HFI:=ZZ (HF0.out wr _ L HRL.out)
   have HD1:=ZZ hI.out.read.done.1
   have HD2:=ZZ hI.out.read.done.2
   have HBL:=ZZ hI.out.below
   obtain⟨ml,mc,hml⟩:∃ ml mc,u5=.slice ml m.length mc:=by
    obtain⟨ml,mc,h,-⟩:=hI.out.rd
    exact⟨ml,mc,h⟩
   subst hml
   clear hrow hI
   cases t with
   | false=>
    have HN2:=ZZ (HD2.out (fun h=>by cases h.1))
    clear HD1 HD2
    go_wp2
    go_ret2
    exact Zdk.none HN2.out HBL.out
   | true=>
    by_cases hm:m=[]
    case neg=>
     have HN2:=ZZ (HD2.out (fun h=>hm h.2.1))
     have hposN:0<m.length:=Nat.pos_of_ne_zero (fun e=>hm (List.eq_nil_of_length_eq_zero e))
     clear HD1 HD2 hm
     generalize m.length=ln at *
     have hposD:decide (0<ln)=true:=decide_eq_true hposN
     go_wp2
     go_ret2
     exact Zdk.none HN2.out HBL.out
    subst hm
    by_cases hf:ZaY L
    ·have HE:=ZZ (HD1.out ⟨rfl,rfl,hf⟩)
     rw[decide_eq_true hf] at HFI
     have HF1:=ZZ hf
     clear HD1 HD2 hf
     go_wp2_with fail
     refine HFI.out.mono ?_
     rintro e W3 ⟨rfl,hb3⟩
     have HB3:=ZZ (HBL.out.trans (hb3.mono HBL.out.size))
     have HR3:=ZZ (HRL.out.below hb3 zL)
     clear hb3
     go_wp2
     go_ret2
     exact⟨_,L,0,rfl,HR3.out,.inl ⟨rfl,HF1.out,HE.out⟩,HB3.out⟩
    ·have HN2:=ZZ (HD2.out (fun h=>hf h.2.2))
     rw[decide_eq_false hf] at HFI
     clear HD1 HD2 hf
     go_wp2_with fail
     refine HFI.out.mono ?_
     rintro e W3 ⟨rfl,hb3⟩
     have HB3:=ZZ (HBL.out.trans (hb3.mono HBL.out.size))
     clear hb3
     go_wp2
     go_ret2
     exact Zdk.none HN2.out HB3.out
  have hqi:(L.length:Int)<(count:Int):=by omega
  obtain⟨R,d,m',t',hT⟩:∃ R d m' t',ZcF m=(R,d,m',t'):=⟨_,_,_,_,rfl⟩
  have HTR:=ZZ (ZkK _ m wr hI.out.rd (by have:=hI.out.le;omega))
  have HST:=ZZ (hI.out.read.step c1 hlt hc256 hT)
  have hle2:=ZxX m
  have hok:=ZuV m
  rw[hT] at HTR hle2 hok
  have HTO:=ZZ hok
  have HLE:Hid (m'.length<=b.length):=ZZ (Nat.le_trans hle2 hI.out.le)
  obtain⟨ml,mc,hml⟩:∃ ml mc,u5=.slice ml m.length mc:=by
   obtain⟨ml,mc,h,-⟩:=hI.out.rd
   exact⟨ml,mc,h⟩
  subst hml
  clear hT hle2 hok
  unfold ZrL at HTR
  dsimp only at HTR
  have hlen:(L++List.replicate (count-L.length) Zai).length=count:=by simp;omega
  have HLEN:=ZZ hlen
  clear hlen
  go_wp2_with fail
  refine HTR.out.mono ?_
  rintro e W3 ⟨v3,rfl,hr3,hb3⟩
  obtain⟨a3,n3,e3,-⟩:=id hr3
  subst e3
  have HROW3:=ZZ (hI.out.row.below hb3 zL)
  have HMAP3:=ZZ (hI.out.map.below hb3 zL)
  have HR3:=ZZ hr3
  have HB3:=ZZ (hI.out.below.trans (hb3.mono hI.out.below.size))
  clear hr3 hb3 HTR hI
  have hcl:∀ j,j<7->∃ x,W3.cell? ⟨W2.heap.size,L.length*7+j,none⟩=some x∧W3.frozen? ⟨W2.heap.size,L.length*7+j,none⟩=false:=fun j hj=>by
   have h:=HROW3.out.cell (L.length*7+j)
   obtain⟨x,hx⟩:∃ x,(Zam (L++List.replicate (count-L.length) Zai))[L.length*7+j]?=some x:=⟨_,List.getElem?_eq_getElem (by rw[Zbc,HLEN.out];omega)⟩
   exact⟨x,h.1.trans hx,h.2⟩
  obtain⟨x0,k0,f0⟩:=hcl 0 (by decide)
  obtain⟨x1,k1,f1⟩:=hcl 1 (by decide)
  obtain⟨x2,k2,f2⟩:=hcl 2 (by decide)
  obtain⟨x3,k3,f3⟩:=hcl 3 (by decide)
  obtain⟨x4,k4,f4⟩:=hcl 4 (by decide)
  obtain⟨x5,k5,f5⟩:=hcl 5 (by decide)
  obtain⟨x6,k6,f6⟩:=hcl 6 (by decide)
  rw[Nat.add_zero] at k0 f0
  clear hcl
  go_upto_region 12 with fail
  obtain⟨W4,hW4⟩:∃ W4,W4=((((((W3.setCell ⟨W2.heap.size,L.length*7,none⟩ (.int .i64 R.idx)).setCell ⟨W2.heap.size,L.length*7+1,none⟩ (.int .i64 R.proc)).setCell ⟨W2.heap.size,L.length*7+2,none⟩ (.int .i64 R.seq)).setCell ⟨W2.heap.size,L.length*7+3,none⟩ (.int .i64 R.op.code)).setCell ⟨W2.heap.size,L.length*7+4,none⟩ (.int .i64 R.op.a)).setCell ⟨W2.heap.size,L.length*7+5,none⟩ (.int .i64 R.op.b)).setCell ⟨W2.heap.size,L.length*7+6,none⟩ (.int .i64 R.resp):=⟨_,rfl⟩
  rw[<-hW4]
  have hlk:L.length<(L++List.replicate (count-L.length) Zai).length:=by rw[HLEN.out];exact hlt
  have HLK:=ZZ hlk
  have hrow4:=HROW3.out.seven hlk R.idx R.proc R.seq R.op.code R.op.a R.op.b R.resp
  rw[<-hW4] at hrow4
  have HBT4:Hid (But W2.heap.size W2.heap.size W3 W4):=ZZ (by
   rw[hW4]
   exact(((((((But.refl _ _ _).set _ _ (.inl rfl) _).set _ _ (.inl rfl) _).set _ _ (.inl rfl) _).set _ _ (.inl rfl) _).set _ _ (.inl rfl) _).set _ _ (.inl rfl) _).set _ _ (.inl rfl) _)
  have HR4:=ZZ (HR3.out.row HROW3.out HBT4.out)
  have HMAP4:=ZZ (HMAP3.out.row HROW3.out HBT4.out)
  have HB4:=ZZ (Zcm HB3.out HBT4.out HB3.out.size HN.out HN.out)
  have HROW4:=ZZ hrow4
  obtain⟨⟨x0',k0'⟩,f0'⟩:(∃ x,W4.cell? ⟨W2.heap.size,L.length*7,none⟩=some x)∧W4.frozen? ⟨W2.heap.size,L.length*7,none⟩=false:=⟨⟨_,(HROW4.out.at (k:=L.length) (by rw[List.length_set];exact hlk)).1⟩,(HROW4.out.cell _).2⟩
  clear hW4 hrow4 hlk HROW3 HR3 HMAP3 HB3 HBT4 k0 k1 k2 k3 k4 k5 k6 f0 f1 f2 f3 f4 f5 f6
  go_upto_region 13 with fail
  obtain⟨W5,hW5⟩:∃ W5,W5=W4.setCell ⟨W2.heap.size,L.length*7,none⟩ (.int .i64 ((first:Int)+(L.length:Int))):=⟨_,rfl⟩
  rw[<-hW5]
  have hls5:L.length<((L++List.replicate (count-L.length) Zai).set L.length ⟨R.idx,R.proc,R.seq,⟨R.op.code,R.op.a,R.op.b⟩,R.resp⟩).length:=by rw[List.length_set];exact HLK.out
  have hrow5:=HROW4.out.set hls5 0 (by decide) (.int .i64 ((first:Int)+(L.length:Int))) ⟨(first:Int)+L.length,R.proc,R.seq,⟨R.op.code,R.op.a,R.op.b⟩,R.resp⟩ (by rw[ZcJ HLK.out];rfl)
  rw[Nat.add_zero,<-hW5,List.set_set] at hrow5
  have HBT5:Hid (But W2.heap.size W2.heap.size W4 W5):=ZZ (by
   rw[hW5]
   exact(But.refl _ _ _).set _ _ (.inl rfl) _)
  have HR5:=ZZ (HR4.out.row HROW4.out HBT5.out)
  have HMAP5:=ZZ (HMAP4.out.row HROW4.out HBT5.out)
  have HB5:=ZZ (Zcm HB4.out HBT5.out HB4.out.size HN.out HN.out)
  have HROW5:=ZZ hrow5
  have hat5:=HROW5.out.at (k:=L.length) (by rw[List.length_set];exact HLK.out)
  rw[ZcJ HLK.out] at hat5
  have k1:=hat5.2.1
  have k2:=hat5.2.2.1
  have f2:=(HROW5.out.cell (L.length*7+2)).2
  have hlook:=HMAP5.out.look HTO.out.1
  dsimp only at k1 k2
  clear hW5 hrow5 hls5 hat5 HROW4 HR4 HMAP4 HB4 HBT5 k0' f0'
  obtain⟨ls,hls⟩:∃ ls,ls=Zar L R.proc:=⟨_,rfl⟩
  rw[<-hls] at hlook
  have HLS:=ZZ hls
  clear hls
  go_upto_region 14 with fail
  obtain⟨sq,hsq⟩:∃ sq,sq=wrap64 (ls+d):=⟨_,rfl⟩
  rw[<-hsq]
  have hwe:IntKind.i64.wrap (Zar L R.proc+d)=sq:=by
   rw[hsq,<-HLS.out]
   unfold wrap64
   exact IntKind.wrap_i64 _
  have HNR:Hid ((⟨(first:Int)+L.length,R.proc,sq,⟨R.op.code,R.op.a,R.op.b⟩,R.resp⟩:Rec)=Zfj first L R d):=ZZ (by
   unfold Zfj
   rw[hwe])
  have HSQ:Hid (I64 sq):=ZZ (by rw[<-hwe];exact Zke _)
  clear hwe hsq HLS
  obtain⟨W6,hW6⟩:∃ W6,W6=W5.setCell ⟨W2.heap.size,L.length*7+2,none⟩ (.int .i64 sq):=⟨_,rfl⟩
  rw[<-hW6]
  have hls6:L.length<((L++List.replicate (count-L.length) Zai).set L.length ⟨(first:Int)+L.length,R.proc,R.seq,⟨R.op.code,R.op.a,R.op.b⟩,R.resp⟩).length:=by rw[List.length_set];exact HLK.out
  have hrow6:=HROW5.out.set hls6 2 (by decide) (.int .i64 sq) ⟨(first:Int)+L.length,R.proc,sq,⟨R.op.code,R.op.a,R.op.b⟩,R.resp⟩ (by rw[ZcJ HLK.out];rfl)
  rw[<-hW6,List.set_set] at hrow6
  have HBT6:Hid (But W2.heap.size W2.heap.size W5 W6):=ZZ (by
   rw[hW6]
   exact(But.refl _ _ _).set _ _ (.inl rfl) _)
  have HR6:=ZZ (HR5.out.row HROW5.out HBT6.out)
  have HMAP6:=ZZ (HMAP5.out.row HROW5.out HBT6.out)
  have HB6:=ZZ (Zcm HB5.out HBT6.out HB5.out.size HN.out HN.out)
  have hat6:=hrow6.at (k:=L.length) (by rw[List.length_set];exact HLK.out)
  rw[ZcJ HLK.out] at hat6
  have j1:=hat6.2.1
  have j2:=hat6.2.2.1
  dsimp only at j1 j2
  rw[HNR.out,ZxY L count hlt] at hrow6
  have HROW6:=ZZ hrow6
  clear hW6 hrow6 hls6 hat6 HROW5 HR5 HMAP5 HB5 HBT6 k1 k2 f2 hlook
  have hmd:ZhE W6.drew (W2.heap.size+1) L.length (Zar L):=HMAP6.out.keep rfl
  obtain⟨W7,hrun,hm7,hg7⟩:=hmd.put HTO.out.1 HSQ.out (by omega)
  have hpf:Zyo (Zar L) R.proc sq=Zar (L++[Zfj first L R d]):=by
   rw[<-HNR.out]
   exact ZjT L ⟨(first:Int)+L.length,R.proc,sq,⟨R.op.code,R.op.a,R.op.b⟩,R.resp⟩
  rw[hpf] at hm7
  have elen:(L++[Zfj first L R d]).length=L.length+1:=by simp
  have HI7:Hid (DIB w W7 b first count W2.heap.size (W2.heap.size+1) (L++[Zfj first L R d]) (.slice a3 m'.length n3) m' t'):=ZZ (by
   have hne:some W2.heap.size≠some (W2.heap.size+1):=by simp
   have hBb:∀ c,c<W6.heap.size->c≠W2.heap.size+1->W7.heap[c]?=W6.heap[c]?:=fun c hc hn=>hg7.block c hc (fun e=>hn (by simpa using e))
   refine⟨(hBb _ HROW6.out.lt (by omega)).trans HROW6.out,by rw[elen];exact hm7,?_,HLE.out,HST.out,(HB6.out.drew).grown hg7 HB6.out.size (fun j hj=>by cases hj;have:=HN.out;omega)⟩
   obtain⟨va,vc,h1,h2,h3,hn,h4⟩:=HR6.out
   refine⟨va,vc,h1,h2,h3,hn,?_⟩
   rcases h4 with h4 | ⟨c,off,h5,h6⟩
   ·exact .inl h4
   ·refine .inr ⟨c,off,h5,fun j hj=>?_⟩
    have hc:=h6 j hj
    exact hg7.cell hc (fun e=>by
     have e':c=W2.heap.size+1:=by simpa using e
     obtain⟨D,⟨es,clock,hb,_⟩,_⟩:=HMAP6.out
     rw[e'] at hc
     simp[World.cell?,hb] at hc))
  clear hmd hm7 hg7 hpf HMAP6 HROW6 HR6 HB6 HST HTO HLE
  go_region
  all_goals
   go_wp2
   go_roundw
   case rel=>exact⟨t',L++[Zfj first L R d],m',rfl,by rw[elen];go_num,by rw[elen];omega,HI7⟩
   case measure=>simp[intOf];omega
end Go.Proofs.YtnahjngbneicaaaGreatDoor
