import Derived.Test.YtnahjngbneicaaaGreatDoorStoreR
import Derived.WalkMore
namespace Go.Proofs.YtnahjngbneicaaaGreatDoor
set_option maxRecDepth 100000
open Go.RowKit
def ZyM (g:Lgb) (n:Int):Option (Nat × List Rec)->Lgb
 | none=>g
 | some (f,l)=>if g.pcs.length=0∨(f:Int)=g.next then(g.start n f).add l else g
set_option maxHeartbeats 4000000 in
theorem Zqe {F:Nat->Prop} {p:Nat} {d:Dk} {N T:Nat} (kind:Int) (w:World) (h:Dsk F w p d N T) (hN:N<=1000000) (hT:T<=1000000000) (hk0:0<=kind) (hk1:kind<6) (hlen:∀ n,(Zcv d n).1.length<=90000)
 (hseg:∀ n f l,Zvv (Zcv d n).1 kind=some (f,l)->f<4611686018427387904∧∀ r ∈ l,ZaF r) (hall:∀ q,ZxZ (Zct d kind (ZaR (Zan d) 2) q)):
 Calls Tryz.prog 35 #[ptr p,.int .i64 kind] w fun e w'=>Zva w (ZhS d kind) e w':=by
 have HNF:=ZZ (fun W (hb:Below w.heap.size w W)=>Zez 2 W (h.below hb) hN (by omega) (by omega))
 have HRD:=ZZ (fun n (hn:I64 n) W (hb:Below w.heap.size w W)=>Znk n hn W (h.below hb) hT)
 have HSG:=ZZ (fun n vb W (hr:Rd W vb (Zcv d n).1)=>Zkf vb _ kind W hr (hlen n) hk0 hk1)
 have HI:Hid (∀ n ∈ ZaR (Zan d) 2,I64 n):=ZZ (by
  obtain⟨L,g1,g2,-⟩:=h
  exact fun n hn=>by
   have:=Zfc g2 n (List.mem_filter.1 hn).1
   exact⟨by omega,by omega⟩)
 have HLN:Hid ((ZaR (Zan d) 2).length<=1000000):=ZZ (by
  obtain⟨L,g1,g2,g3,-⟩:=h
  have h3:=Zgx d d.waits.length
  rw[Zfk] at h3
  have:=g3.names
  refine Nat.le_trans (List.length_filter_le _ _) ?_
  unfold Zan
  rw[List.length_map]
  omega)
 have HSEG:=ZZ hseg
 have HALL:=ZZ hall
 have hgD:ZhS d kind=(ZaR (Zan d) 2).foldl (logOne d kind) ZdZ:=rfl
 rw[hgD]
 clear h hlen hseg hall hgD hk0 hk1
 obtain⟨l,hl⟩:∃ l,l=ZaR (Zan d) 2:=⟨_,rfl⟩
 rw[<-hl] at HNF HI HLN HALL ⊢
 clear hl
 obtain⟨W0,hW0⟩:∃ W0,W0=(w.alloc (.cells #[.int .i64 0,.slice none 0 0,.slice none 0 0] 73)).alloc (.cells #[.int .i64 0,.slice none 0 0,.slice none 0 0] 73):=⟨_,rfl⟩
 have HB0:Hid (Below w.heap.size w W0):=ZZ (by rw[hW0];exact((Below.refl _ _).alloc zL _).alloc (by simp) _)
 have HY:Hid (Bk 73 W0 w.heap.size #[.int .i64 0,.slice none 0 0,.slice none 0 0]):=ZZ (by rw[hW0];exact(Below.heap_alloc _ _ _ (by simp)).trans (heap_alloc_new w _))
 have HX:Hid (Bk 73 W0 (w.heap.size+1) #[.int .i64 0,.slice none 0 0,.slice none 0 0]):=ZZ (by rw[hW0];exact Zhs w _ _)
 have HBE:Hid (∀ (a b c:Value) (W:World),Below w.heap.size w W->Below w.heap.size w (((W.setCell ⟨w.heap.size,0,none⟩ a).setCell ⟨w.heap.size,1,none⟩ b).setCell ⟨w.heap.size,2,none⟩ c)):=ZZ (fun a b c W hb=>((hb.setCell (p:=⟨w.heap.size,0,none⟩) zL a).setCell (p:=⟨w.heap.size,1,none⟩) zL b).setCell (p:=⟨w.heap.size,2,none⟩) zL c)
 go_enter Tryz.func35,Tryz.ntmps35
 go_upto_region 2 with fail
 rw[<-hW0]
 clear hW0
 go_wp2_with fail
 refine(HNF.out W0 HB0.out).mono ?_
 rintro e W1 ⟨v1,rfl,ho1,hb1⟩
 have HIN:Hid (ZhG w W0 v1 l (.slice none 0 0) (.slice none 0 0) ZdZ W1):=ZZ (by
  refine⟨(Zml.mk HX.out rfl rfl rfl (Zbp.nil _ _) (World.ownsRow_nil _ _ _ _)).below hb1,fun k hk=>?_,HY.out.keep (hb1.block _ HY.out.lt),ho1,HB0.out.trans (hb1.mono HB0.out.size)⟩
  rcases hk with hk | hk | hk
  ·omega
  ·cases hk
  ·cases hk)
 obtain⟨a1,c1,hv1⟩:∃ a c,v1=.slice a l.length c:=ho1.shape
 subst hv1
 obtain⟨BL,hBL⟩:∃ BL,BL=l.length:=⟨_,rfl⟩
 rw[<-hBL] at HIN HLN
 rw[<-hBL]
 have HBL:=ZZ hBL
 clear ho1 hb1 HNF hBL HX HY HB0
 have hbl:=HLN.out
 have hbi:(BL:Int)<=1000000:=by omega
 have HDON:Hid (∀ (g:Lgb) (rv pv:Value) (W:World),g=l.foldl (logOne d kind) ZdZ->ZhG w W0 (.slice a1 BL c1) l rv pv g W->Zva w (l.foldl (logOne d kind) ZdZ) (.returned (.agg #[.int .i64 g.first,rv,pv])) (((W.setCell ⟨w.heap.size,0,none⟩ (.int .i64 g.first)).setCell ⟨w.heap.size,1,none⟩ rv).setCell ⟨w.heap.size,2,none⟩ pv)):=ZZ (fun g rv pv W he hin=>by
  rw[<-he]
  have hk:∀ k,ZnK (w.heap.size+1) rv pv k->(((W.setCell ⟨w.heap.size,0,none⟩ (.int .i64 g.first)).setCell ⟨w.heap.size,1,none⟩ rv).setCell ⟨w.heap.size,2,none⟩ pv).heap[k]?=W.heap[k]?:=fun k hk=>by
   have:=hin.far k hk
   rw[Below.heap_setCell _ _ _ _ (by show k≠w.heap.size;omega),Below.heap_setCell _ _ _ _ (by show k≠w.heap.size;omega),Below.heap_setCell _ _ _ _ (by show k≠w.heap.size;omega)]
  refine⟨rv,pv,rfl,Zah (ZeG hin.log.recs fun k hk'=>?_) fun k hk'=>hk k (.inr (.inl hk')),Zah (ZeG hin.log.pcs fun k hk'=>?_) fun k hk'=>hk k (.inr (.inr hk')),HBE.out _ _ _ _ hin.old⟩
  ·have:=hin.far k (.inr (.inl hk'))
   omega
  ·have:=hin.far k (.inr (.inr hk'))
   omega)
 go_wp2
 go_loopw[16] (fun vi wr=>∃ (q:Nat) (rv pv:Value),vi=.int .i64 (q:Int)∧q<=BL∧Hid (ZhG w W0 (.slice a1 BL c1) l rv pv (Zct d kind l q) wr)) (fun vi _=>BL-(intOf vi).toNat)
 case atStart=>exact⟨0,_,_,rfl,Nat.zero_le _,HIN⟩
 case round=>
  obtain⟨q,rv,pv,rfl,hq,HR⟩:=hrel
  clear HIN
  by_cases hlt:q<BL
  case neg=>
   have e:q=BL:=by omega
   have HF:=ZZ (HDON.out _ rv pv wr (Zkg d kind l q (e.trans HBL.out)) HR.out)
   generalize Zct d kind l q=g at *
   obtain⟨ra,rc,hrv⟩:=HR.out.log.recs.shape
   obtain⟨pa,pc,hpv⟩:=Zeb HR.out.log.pcs
   subst hrv hpv
   obtain⟨x0,-⟩:=HR.out.log.blk.cell 0 rfl
   obtain⟨x1,-⟩:=HR.out.log.blk.cell 1 rfl
   obtain⟨x2,-⟩:=HR.out.log.blk.cell 2 rfl
   obtain⟨z0,y0⟩:=HR.out.out.cell 0 rfl
   obtain⟨z1,y1⟩:=HR.out.out.cell 1 rfl
   obtain⟨z2,y2⟩:=HR.out.out.cell 2 rfl
   subst e
   clear HR HDON
   go_wp2
   refine bodyPost_ret (v:=.agg #[.int .i64 g.first,.slice ra g.recs.length rc,.slice pa g.pcs.length pc]) (by simp[results,Tryz.results35,go_sem,z0,z1,z2]) rfl ?_
   exact HF.out
  have hqB:q<l.length:=by rw[<-HBL.out];exact hlt
  have hqi:(q:Int)<(BL:Int):=by omega
  have HS:Hid (Zct d kind l (q+1)=logOne d kind (Zct d kind l q) (l.getD q 0)):=ZZ (ZhF d kind l q hqB)
  have HOK:=ZZ (HALL.out q)
  have HOK2:=ZZ (HALL.out (q+1))
  obtain⟨nq,hnq⟩:∃ nq,nq=l.getD q 0:=⟨_,rfl⟩
  obtain⟨ao,cap,heq,-,-,-,-,hao⟩:=HR.out.row.rd HI.out
  injection heq with e1 e2 e3
  rcases hao with hao | ⟨bb,off,hae,hc⟩
  ·rw[hao] at hqB;simp at hqB
  subst e1
  subst hae
  have cx:=hc q hqB
  rw[<-hnq] at cx HS
  have HNI:Hid (I64 nq):=ZZ (HI.out nq (by
   rw[hnq,show l.getD q 0=l[q] by simp[List.getD,hqB]]
   exact List.getElem_mem _))
  clear hc e2 e3 hnq
  have HRE:=ZZ (HRD.out nq HNI.out wr HR.out.old)
  go_wp2_with fail
  refine HRE.out.mono ?_
  rintro e W2 ⟨v2,rfl,ho2,hb2⟩
  have HR2:=ZZ (HR.out.below hb2)
  have HD2:=ZZ ho2.rd
  obtain⟨a2,c2,hv2,-⟩:=ho2.rd
  subst hv2
  clear ho2 hb2 HRE HR cx
  have HSE:=ZZ (HSG.out nq _ W2 HD2.out)
  generalize (Zcv d nq).2=er at *
  generalize hbl2:(Zcv d nq).1.length=bl2 at *
  clear hbl2
  go_wp2_with fail
  refine HSE.out.mono ?_
  rintro e W3 ⟨x,a3,n3,c3,rfl,hxf,hb3⟩
  have HR3:=ZZ (HR2.out.below hb3)
  have HXF:=ZZ hxf
  clear hxf HSE HD2
  obtain⟨sg,hsg⟩:∃ sg,sg=Zvv (Zcv d nq).1 kind:=⟨_,rfl⟩
  have HS1:Hid (Zct d kind l (q+1)=ZyM (Zct d kind l q) nq sg):=ZZ (by rw[HS.out,hsg];rfl)
  have HSG2:=ZZ (HSEG.out nq)
  rw[<-hsg] at HSG2 HXF ⊢
  generalize Zct d kind l q=g at *
  obtain⟨g2,hg2⟩:∃ g2,g2=Zct d kind l (q+1):=⟨_,rfl⟩
  have HG2':=ZZ hg2
  rw[<-hg2] at HS1 HOK2
  clear hsg HS hg2
  cases sg with
  | none=>
   have HG2:Hid (Zct d kind l (q+1)=g):=ZZ (by rw[<-HG2'.out];exact HS1.out)
   simp only [Option.isSome_none]
   clear hb3 HXF HR2
   go_wp2
   go_roundw
   case rel=>exact⟨q+1,rv,pv,by go_num,by omega,ZZ (by rw[HG2.out];exact HR3.out)⟩
   case measure=>simp[intOf];omega
  | some fl=>
   obtain⟨f,l3⟩:=fl
   obtain⟨rfl,ho3⟩:=HXF.out f l3 rfl
   obtain⟨hf62,hfit⟩:=HSG2.out f l3 rfl
   have HFIT:=ZZ hfit
   have HO3:=ZZ ho3
   have HLT:Hid (∀ k,ZnK (w.heap.size+1) rv pv k->k<W2.heap.size):=ZZ HR2.out.log.ltF
   have HS2:Hid (g2=if g.pcs.length=0∨(f:Int)=g.next then(g.start nq f).add l3 else g):=ZZ HS1.out
   simp only [Option.isSome_some]
   clear hfit ho3 HSG2 HXF HS1 hb3
   have HBA:Hid (∀ W,ZhG w W0 (.slice (some ⟨bb,off,none⟩) BL c1) l rv pv g W->Zbp W W2.heap.size (.slice a3 n3 c3) l3->Calls Tryz.prog 53 #[.pointer (some ⟨w.heap.size+1,0,none⟩),.int .i64 nq,.int .i64 (f:Int)] W fun e w'=>e=.returned (.tuple #[])∧∃ rv' pv',Hid (ZhG w W0 (.slice (some ⟨bb,off,none⟩) BL c1) l rv' pv' (g.start nq f) w')∧Hid (RdR w' (.slice a3 n3 c3) l3)):=ZZ (fun W hin ho=>by
    refine(Zlj 73 (by decide) (by decide) (w.heap.size+1) 0 _ rv pv g nq f W hin.log (by have:=HOK.out.pl;omega)).mono ?_
    rintro e w' ⟨rfl,hd⟩
    obtain⟨rv',pv',hin',hon⟩:=hin.did hd
    refine⟨rfl,rv',pv',ZZ hin',ZZ (Zbp.rdF (B:=W2.heap.size) (Zah ho fun k hk=>?_) HFIT.out)⟩
    have hk2:=World.ownsRow.lt ho k hk
    refine hon.block k hk2.2 fun hf=>?_
    have:=HLT.out k hf
    omega)
   have HAD:Hid (g2=(g.start nq f).add l3->∀ rv' pv' W,ZhG w W0 (.slice (some ⟨bb,off,none⟩) BL c1) l rv' pv' (g.start nq f) W->RdR W (.slice a3 n3 c3) l3->Calls Tryz.prog 54 #[.pointer (some ⟨w.heap.size+1,0,none⟩),.slice a3 n3 c3] W fun e w'=>e=.returned (.tuple #[])∧∃ rv'' pv'',Hid (ZhG w W0 (.slice (some ⟨bb,off,none⟩) BL c1) l rv'' pv'' ((g.start nq f).add l3) w')):=ZZ (fun hg2 rv' pv' W hin hr=>by
    have hrl:=HOK2.out.rl
    rw[hg2] at hrl
    have hrl2:(g.start nq f).recs.length+l3.length<=9000000:=by
     have e:((g.start nq f).add l3).recs=(g.start nq f).recs++l3:=rfl
     rw[e,List.length_append] at hrl
     exact hrl
    have hpl:(g.start nq f).pcs.length=g.pcs.length+1:=by
     show(g.pcs++[_]).length=_
     simp
    refine(Zuy 73 (by decide) (by decide) (w.heap.size+1) 0 _ rv' pv' (g.start nq f) (.slice a3 n3 c3) l3 W hin.log hr (by omega) (by have:=HOK.out.pl;omega) (by omega) (fun p hp=>?_)).mono ?_
    ·have hp':p ∈ g.pcs++[(⟨nq,f,f⟩:Pce)]:=hp
     rcases List.mem_append.1 hp' with hp' | hp'
     ·exact HOK.out.st p hp'
     ·rw[List.mem_singleton.1 hp']
      show(0:Int)<=(f:Int)∧(f:Int)<=4611686018427387904
      omega
    ·rintro e w' ⟨rfl,hd⟩
     obtain⟨rv'',pv'',hin',-⟩:=hin.did hd
     exact⟨rfl,rv'',pv'',ZZ hin'⟩)
   obtain⟨ra,rc,hrv⟩:=HR3.out.log.recs.shape
   obtain⟨pa,pc,hpv⟩:=Zeb HR3.out.log.pcs
   subst hrv hpv
   obtain⟨x0,-⟩:=HR3.out.log.blk.cell 0 rfl
   obtain⟨x1,-⟩:=HR3.out.log.blk.cell 1 rfl
   obtain⟨x2,-⟩:=HR3.out.log.blk.cell 2 rfl
   have hg0:=HOK.out.f0
   have hg1:=HOK.out.f1
   have hgr:=HOK.out.rl
   have hgp:(g.pcs.length:Int)<=900000:=by have:=HOK.out.pl;omega
   have hgri:g.first+(g.recs.length:Int)<=9000000000000000000:=by omega
   have HNX:=ZZ (Zmj (w.heap.size+1) 0 g.first ra g.recs.length rc W3 x0 x1 hg0 hgri)
   clear HR2 HLT HFIT
   by_cases h0:g.pcs.length=0
   ·have hb0:((g.pcs.length:Int) == 0)=true:=by rw[beq_iff_eq];omega
    have hgg:g2=(g.start nq f).add l3:=by rw[HS2.out,if_pos (.inl h0)]
    have HG2:Hid (Zct d kind l (q+1)=(g.start nq f).add l3):=ZZ (by rw[<-HG2'.out];exact hgg)
    replace HAD:=ZZ (HAD.out hgg)
    clear hgg h0
    go_wp2_with fail
    refine(HBA.out W3 HR3.out HO3.out).mono ?_
    rintro e W5 ⟨rfl,rv5,pv5,HR5,HD5⟩
    clear HBA
    go_wp2_with fail
    refine(HAD.out rv5 pv5 W5 HR5.out HD5.out).mono ?_
    rintro e W6 ⟨rfl,rv6,pv6,HR6⟩
    clear HAD HD5 HR5
    go_wp2
    go_roundw
    case rel=>exact⟨q+1,rv6,pv6,by go_num,by omega,ZZ (by rw[HG2.out];exact HR6.out)⟩
    case measure=>simp[intOf];omega
   have hb0:((g.pcs.length:Int) == 0)=false:=beq_eq_false_iff_ne.2 (by omega)
   go_wp2_with fail
   refine HNX.out.mono ?_
   rintro e W4 ⟨rfl,hb4⟩
   have HR4:=ZZ (HR3.out.below hb4)
   have HO4:=ZZ (HO3.out.below hb4 zL)
   clear hb4 HNX HR3 HO3 x0 x1 x2
   by_cases hn:(f:Int)=g.first+(g.recs.length:Int)
   ·have hnb:((f:Int) == g.first+(g.recs.length:Int))=true:=by rw[beq_iff_eq];exact hn
    have hgg:g2=(g.start nq f).add l3:=by rw[HS2.out,if_pos (.inr hn)]
    have HG2:Hid (Zct d kind l (q+1)=(g.start nq f).add l3):=ZZ (by rw[<-HG2'.out];exact hgg)
    replace HAD:=ZZ (HAD.out hgg)
    clear hgg h0 hn
    go_wp2_with fail
    refine(HBA.out W4 HR4.out HO4.out).mono ?_
    rintro e W5 ⟨rfl,rv5,pv5,HR5,HD5⟩
    clear HBA
    go_wp2_with fail
    refine(HAD.out rv5 pv5 W5 HR5.out HD5.out).mono ?_
    rintro e W6 ⟨rfl,rv6,pv6,HR6⟩
    clear HAD HD5 HR5
    go_wp2
    go_roundw
    case rel=>exact⟨q+1,rv6,pv6,by go_num,by omega,ZZ (by rw[HG2.out];exact HR6.out)⟩
    case measure=>simp[intOf];omega
   ·have hnb:((f:Int) == g.first+(g.recs.length:Int))=false:=beq_eq_false_iff_ne.2 hn
    have HG2:Hid (Zct d kind l (q+1)=g):=ZZ (by
     rw[<-HG2'.out,HS2.out,if_neg]
     rintro(h | h)
     ·exact h0 h
     ·exact hn h)
    clear h0 hn HBA HAD
    go_wp2
    go_roundw
    case rel=>exact⟨q+1,_,_,by go_num,by omega,ZZ (by rw[HG2.out];exact HR4.out)⟩
    case measure=>simp[intOf];omega
end Go.Proofs.YtnahjngbneicaaaGreatDoor
