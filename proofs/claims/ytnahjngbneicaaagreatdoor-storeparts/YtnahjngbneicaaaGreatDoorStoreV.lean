import Derived.Test.YtnahjngbneicaaaGreatDoorStoreU
import Derived.WalkMore
namespace Go.Proofs.YtnahjngbneicaaaGreatDoor
set_option maxRecDepth 100000
open Go.RowKit
def Zfx (d:Dk) (kind:Int) (l:List Int) (q:Nat):List ZaX:=(l.take q).foldl (ZcE d kind) [ZbV kind]
theorem Zlv (d:Dk) (kind:Int) (l:List Int) (q:Nat) (hq:q<l.length):Zfx d kind l (q+1)=ZcE d kind (Zfx d kind l q) (l.getD q 0):=by
 unfold Zfx
 rw[List.take_add_one,List.foldl_append,show l.getD q 0=l[q] by simp[List.getD,hq]]
 simp[hq]
theorem Zoq (d:Dk) (kind:Int) (l:List Int) (q:Nat) (hq:q=l.length):Zfx d kind l q=l.foldl (ZcE d kind) [ZbV kind]:=by
 subst hq
 unfold Zfx
 rw[List.take_length]
theorem Zqg (d:Dk) (kind:Int) (l:List ZaX) (n:Int):(ZcE d kind l n).length<=l.length+1:=by
 unfold ZcE
 split
 ·simp
 ·omega
theorem Zkh (d:Dk) (kind:Int) (l:List Int):∀ q,q<=l.length->(Zfx d kind l q).length<=q+1
 | 0,_=>by simp[Zfx]
 | q+1,h=>by
  rw[Zlv d kind l q (by omega)]
  have:=Zqg d kind (Zfx d kind l q) (l.getD q 0)
  have:=Zkh d kind l q (by omega)
  omega
def Zor (w:World) (l:List ZaX) (e:Ending) (w':World):Prop:=
 ∃ bv bs I v0 l0,e=.returned bv∧bs.map Prod.fst=l∧Zcu w I v0 l0 bv bs w'
set_option maxHeartbeats 4000000 in
theorem ZmD {F:Nat->Prop} {p:Nat} {d:Dk} {N T:Nat} (kind:Int) (w:World) (h:Dsk F w p d N T) (hN:N<=1000000) (hT:T<=1000000000) (hlen:∀ n,(Zcv d n).1.length<=90000):
 Calls Tryz.prog 34 #[ptr p,.int .i64 kind] w fun e w'=>Zor w (Zbe d kind) e w':=by
 have HNF:=ZZ (fun W (hb:Below w.heap.size w W)=>Zez 3 W (h.below hb) hN (by omega) (by omega))
 have HRD:=ZZ (fun n (hn:I64 n) W (hb:Below w.heap.size w W)=>Znk n hn W (h.below hb) hT)
 have HDE:=ZZ (fun n vb W (hr:Rd W vb (Zcv d n).1)=>Zqb vb _ W hr (by have:=hlen n;omega))
 have HI:Hid (∀ n ∈ ZaR (Zan d) 3,I64 n):=ZZ (by
  obtain⟨L,g1,g2,-⟩:=h
  exact fun n hn=>by
   have:=Zfc g2 n (List.mem_filter.1 hn).1
   exact⟨by omega,by omega⟩)
 have HLN:Hid ((ZaR (Zan d) 3).length<=1000000):=ZZ (by
  obtain⟨L,g1,g2,g3,-⟩:=h
  have h3:=Zgx d d.waits.length
  rw[Zfk] at h3
  have:=g3.names
  refine Nat.le_trans (List.length_filter_le _ _) ?_
  unfold Zan
  rw[List.length_map]
  omega)
 have hgD:Zbe d kind=(ZaR (Zan d) 3).foldl (ZcE d kind) [ZbV kind]:=rfl
 rw[hgD]
 clear h hlen hgD
 obtain⟨l,hl⟩:∃ l,l=ZaR (Zan d) 3:=⟨_,rfl⟩
 rw[<-hl] at HNF HI HLN ⊢
 clear hl
 have HST:=ZZ (ZsH kind w)
 go_enter Tryz.func34,Tryz.ntmps34
 go_wp2_with fail
 refine HST.out.mono ?_
 rintro e W1 ⟨vl,rfl,hrl,hik,hie,hfl,hb1⟩
 obtain⟨la,lc,hvl,-⟩:=id hrl
 subst hvl
 obtain⟨x1,hx1⟩:∃ x1:ZaX × Value × Value,x1=(ZbV kind,.slice la (Zcx kind).L.length lc,.slice none 0 0):=⟨_,rfl⟩
 obtain⟨W2,hW2⟩:∃ W2,W2=W1.alloc (.cells #[.int .i64 0,.int .i64 (Zcx kind).kind,.slice la (Zcx kind).L.length lc,.bool (Zcx kind).shut,.int .i64 (Zcx kind).eng,.slice none 0 0] 41):=⟨_,rfl⟩
 have HB2:Hid (Below w.heap.size w W2):=ZZ (by rw[hW2];exact hb1.alloc hb1.size _)
 have HBB:Hid (Below W1.heap.size W1 W2):=ZZ (by rw[hW2];exact ZcW _ _)
 have hs2:W2.heap.size=W1.heap.size+1:=by rw[hW2];simp
 have HRW:Hid (W2.ownsRow 0 41 6 (.slice (some ⟨W1.heap.size,0,none⟩) 1 1) [x1].length (ZaQ [x1])):=ZZ (by
  have h9:=World.ownsRow_lit (base:=0) (e:=41) W1 (snC x1) 1 (Nat.zero_le _) (by unfold maxLen;omega) (size:=6) rfl
  rw[hW2]
  have h8:ZaQ [x1]=(snC x1).toList:=by simp[ZaQ]
  rw[h8]
  rw[hx1] at h9 ⊢
  exact h9)
 have HX1:Hid (SnR W1 x1):=ZZ (by rw[hx1];exact⟨hrl,RdE.nil _,hik,hie,(Zaj (by decide) (by decide):I64 0)⟩)
 have HI1:Hid (ZmJ (fun k=>w.heap.size<=k∧k<W1.heap.size) x1):=ZZ (by
  rw[hx1]
  refine⟨?_,.inl rfl⟩
  rcases hrl.block with hb0 | ⟨-,k,hk,hlt⟩
  ·exact .inl hb0
  ·refine .inr fun g hg=>⟨hfl g hg,?_⟩
   have hg':(Value.slice la (Zcx kind).L.length lc).ownBlock=some g:=hg
   rw[hg'] at hk
   obtain rfl:=Option.some.inj hk
   exact hlt)
 have HF1:Hid (x1.1=ZbV kind):=ZZ (by rw[hx1])
 have HS1:Hid (w.heap.size<=W1.heap.size):=ZZ hb1.size
 clear hrl hik hie hfl hb1 HST hx1
 generalize (Zcx kind).kind=sk at *
 generalize (Zcx kind).L.length=sl at *
 generalize (Zcx kind).shut=ss at *
 generalize (Zcx kind).eng=se at *
 go_upto_region 2 with fail
 rw[<-hW2]
 clear hW2
 go_wp2_with fail
 refine(HNF.out W2 HB2.out).mono ?_
 rintro e W3 ⟨v3,rfl,ho3,hb3⟩
 have HIN:Hid (Zcu w (fun k=>w.heap.size<=k∧k<W1.heap.size) v3 l (.slice (some ⟨W1.heap.size,0,none⟩) 1 1) [x1] W3):=ZZ (by
  have hs3:=hb3.size
  have hs1:=HS1.out
  refine⟨Zah HRW.out fun k hk=>hb3.block k ?_,fun k hk=>?_,fun x hx=>?_,fun x hx=>?_,fun k hk=>hk.1,fun k hk=>by omega,fun k hk e=>?_,ho3.mono HB2.out.size,HB2.out.trans (hb3.mono HB2.out.size)⟩
  ·have h9:W1.heap.size=k:=Option.some.inj hk
   omega
  ·have h9:W1.heap.size=k:=Option.some.inj hk
   omega
  ·rw[List.mem_singleton.1 hx]
   exact(HX1.out.below HBB.out zL).below hb3 zL
  ·rw[List.mem_singleton.1 hx]
   exact HI1.out
  ·have h9:W1.heap.size=k:=Option.some.inj e
   omega)
 obtain⟨a3,c3,hv3⟩:∃ a c,v3=.slice a l.length c:=ho3.shape
 subst hv3
 obtain⟨BL,hBL⟩:∃ BL,BL=l.length:=⟨_,rfl⟩
 rw[<-hBL] at HIN HLN
 rw[<-hBL]
 have HBL:=ZZ hBL
 have hbl:=HLN.out
 have hbi:(BL:Int)<=1000000:=by omega
 clear ho3 hb3 HNF hBL HX1 HI1 HRW HBB HB2 HS1 hs2
 go_wp2
 go_loopw[5,19] (fun vb vi wr=>∃ (q:Nat) (a:Option Addr) (n c:Nat) (I:Nat->Prop) (bs:List (ZaX × Value × Value)),vi=.int .i64 (q:Int)∧q<=BL∧vb=.slice a n c∧Hid (bs.map Prod.fst=Zfx d kind l q)∧Hid (Zcu w I (.slice a3 BL c3) l (.slice a n c) bs wr)) (fun _ vi _=>BL-(intOf vi).toNat)
 case atStart=>exact⟨0,_,_,_,_,_,rfl,Nat.zero_le _,rfl,ZZ (by rw[List.map_cons,HF1.out];rfl),HIN⟩
 case round=>
  obtain⟨q,a,n,c,I,bs,rfl,hq,rfl,HM,HR⟩:=hrel
  clear HIN HF1
  by_cases hlt:q<BL
  case neg=>
   have e:q=BL:=by omega
   have HF:Hid (Zor w (l.foldl (ZcE d kind) [ZbV kind]) (.returned (.slice a n c)) wr):=ZZ ⟨_,bs,I,_,_,rfl,HM.out.trans (Zoq d kind l q (e.trans HBL.out)),HR.out⟩
   subst e
   clear HR HM
   go_wp2
   try rw[Exit.noGoto_ret]
   go_ret
   exact HF.out
  have hqB:q<l.length:=by rw[<-HBL.out];exact hlt
  have hqi:(q:Int)<(BL:Int):=by omega
  have HS:Hid (Zfx d kind l (q+1)=ZcE d kind (Zfx d kind l q) (l.getD q 0)):=ZZ (Zlv d kind l q hqB)
  have HBN:Hid (bs.length<=10000000):=ZZ (by
   have h9:=Zkh d kind l q (by omega)
   rw[<-HM.out,List.length_map] at h9
   omega)
  obtain⟨nq,hnq⟩:∃ nq,nq=l.getD q 0:=⟨_,rfl⟩
  obtain⟨ao,cap,heq,-,-,-,-,hao⟩:=HR.out.nms.rd HI.out
  injection heq with e1 e2 e3
  rcases hao with hao | ⟨bb,off,hae,hc⟩
  ·rw[hao] at hqB;simp at hqB
  subst e1
  subst hae
  have cx:=hc q hqB
  rw[<-hnq] at cx HS
  have HNI:Hid (I64 nq):=ZZ (HI.out nq (by
   rw[hnq,show l.getD q 0=l[q] by simp[List.getD,hqB]]
   exact List.getElem_mem _))
  clear hc e2 e3 hnq
  have HRE:=ZZ (HRD.out nq HNI.out wr HR.out.old)
  go_wp2_with fail
  refine HRE.out.mono ?_
  rintro e W4 ⟨v4,rfl,ho4,hb4⟩
  have HR4:=ZZ (HR.out.below hb4)
  have HD4:=ZZ ho4.rd
  obtain⟨a4,c4,hv4,-⟩:=ho4.rd
  subst hv4
  clear ho4 hb4 HRE HR cx
  have HDC:=ZZ (HDE.out nq _ W4 HD4.out)
  have HS1:Hid (Zfx d kind l (q+1)=if(ZoQ (Zcv d nq).1).2=0∧(ZoQ (Zcv d nq).1).1.st.kind=kind then Zfx d kind l q++[(ZoQ (Zcv d nq).1).1] else Zfx d kind l q):=ZZ (by rw[HS.out];rfl)
  generalize (Zcv d nq).2=er at *
  generalize ZoQ (Zcv d nq).1=dn at *
  generalize hbl2:(Zcv d nq).1.length=bl2 at *
  obtain⟨⟨ix,⟨kd,L,sh,eg⟩,tb⟩,er2⟩:=dn
  clear hbl2
  dsimp only at HS1
  go_wp2_with fail
  refine HDC.out.mono ?_
  rintro e W5 ⟨vx,vu,rfl,r1,r2,r3,r4,r5,g1,g2,hb5⟩
  dsimp only at r1 r2 r3 r4 r5 ⊢
  have HXN:Hid (SnR W5 (⟨ix,⟨kd,L,sh,eg⟩,tb⟩,vx,vu)):=ZZ ⟨r1,r4,r2,r3,r5⟩
  have HXI:Hid (ZmJ (fun k=>W4.heap.size<=k∧k<W5.heap.size) (⟨ix,⟨kd,L,sh,eg⟩,tb⟩,vx,vu)):=ZZ (by
   refine⟨?_,?_⟩
   ·rcases r1.block with hb0 | ⟨-,k,hk,hlt⟩
    ·exact .inl hb0
    ·refine .inr fun g hg=>⟨g1 g hg,?_⟩
     have hg':vx.ownBlock=some g:=hg
     rw[hg'] at hk
     obtain rfl:=Option.some.inj hk
     exact hlt
   ·rcases r4.block with hb0 | hb0
    ·exact .inl hb0
    ·exact .inr fun g hg=>⟨g2 g hg,hb0 g hg⟩)
  have HB5:=ZZ hb5
  have HR5:=ZZ (HR4.out.below hb5)
  obtain⟨xa,xc,hx,-⟩:=id r1
  obtain⟨ua,uc,hu⟩:=r4.shape
  subst hx hu
  clear HDC HD4 r1 r2 r3 r4 r5 g1 g2 hb5
  generalize L.length=xl at *
  generalize tb.length=ul at *
  obtain⟨x,hx⟩:∃ x:ZaX × Value × Value,x=(⟨ix,⟨kd,L,sh,eg⟩,tb⟩,.slice xa xl xc,.slice ua ul uc):=⟨_,rfl⟩
  have HX:=ZZ hx
  rw[<-hx] at HXN HXI
  clear hx
  have HRB:Hid (∀ X,Zcu w I (.slice (some ⟨bb,off,none⟩) BL c3) l (.slice a n c) bs (W5.alloc X)):=ZZ (fun X=>HR5.out.below (ZcW _ _))
  have HSM:Hid (¬ (er2=0∧kd=kind)->bs.map Prod.fst=Zfx d kind l (q+1)):=ZZ (fun hn=>by rw[HM.out,HS1.out,if_neg hn])
  by_cases h0:er2=0
  case neg=>
   have hb0:(er2 == 0)=false:=beq_eq_false_iff_ne.2 h0
   have HE:=ZZ (HSM.out fun hh=>h0 hh.1)
   clear h0
   go_wp2
   go_roundw
   case rel=>exact⟨q+1,a,n,c,I,bs,by go_num,by omega,rfl,HE,ZZ (HRB.out _)⟩
   case measure=>simp[intOf];omega
  have hb0:(er2 == 0)=true:=by rw[beq_iff_eq];exact h0
  by_cases h1:kd=kind
  case neg=>
   have hb1:(kd == kind)=false:=beq_eq_false_iff_ne.2 h1
   have HE:=ZZ (HSM.out fun hh=>h1 hh.2)
   clear h0 h1
   go_wp2
   go_roundw
   case rel=>exact⟨q+1,a,n,c,I,bs,by go_num,by omega,rfl,HE,ZZ (HRB.out _)⟩
   case measure=>simp[intOf];omega
  have hb1:(kd == kind)=true:=by rw[beq_iff_eq];exact h1
  have HE:Hid ((bs++[x]).map Prod.fst=Zfx d kind l (q+1)):=ZZ (by
   rw[HS1.out,if_pos ⟨h0,h1⟩,List.map_append,HM.out,HX.out]
   rfl)
  have HSL:Hid (SlX x):=ZZ (by rw[HX.out];exact⟨_,_,_,_,_,_,rfl,rfl⟩)
  have HSC:Hid (snC x=#[.int .i64 ix,.int .i64 kd,.slice xa xl xc,.bool sh,.int .i64 eg,.slice ua ul uc]):=ZZ (by rw[HX.out];rfl)
  clear h0 h1
  go_wp2_with(at_builtin;refine(fun(h:True->_)=>h trivial) ?_)
  intro _
  rw[<-HSC.out]
  have HSZ:Hid (Value.slice (some ⟨W5.heap.size+1,0,none⟩) 1 1=.slice (some ⟨(W5.alloc (.cells (snC x) 41)).heap.size,0,none⟩) 1 1):=ZZ (by simp)
  refine Zip (W5.alloc (.cells (snC x) 41)) rfl _ _ rfl (.slice a n c) bs rfl (HRB.out _).row x HSL.out (by exact HSZ.out) HBN.out ?_
  intro v7 W7 hr7 hg7 hv7
  have HB7:=ZZ (HR4.out.add (HB5.out.trans ((ZcW _ _).mono HB5.out.size)) x (HXN.out.below (ZcW W5 (.cells (snC x) 41)) zL) (HXI.out.mono fun k hk=>⟨hk.1,by simp;omega⟩) hr7 hg7 hv7)
  obtain⟨y1,y3,hy⟩:=Zeb hr7
  generalize (bs++[x]).length=y2 at hy
  subst hy
  clear hr7 hg7 hv7 HSZ HSC HRB HSM
  go_wp2
  go_roundw
  case rel=>exact⟨q+1,y1,y2,y3,_,bs++[x],by go_num,by omega,rfl,HE,HB7⟩
  case measure=>simp[intOf];omega
end Go.Proofs.YtnahjngbneicaaaGreatDoor
