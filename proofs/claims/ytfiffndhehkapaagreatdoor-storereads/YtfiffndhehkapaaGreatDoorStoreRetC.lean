import Derived.Test.YtfiffndhehkapaaGreatDoorStoreRetB
namespace Go.Proofs.YtfiffndhehkapaaGreatDoor
set_option maxRecDepth 100000
open Go.RowKit
theorem Zol (s:Sto):Zns s++[Zaq]=((s.log.pcs.filter (Znr s)).map fun q=>Zbu (fun d=>Zam d q.name))++[Zaq]:=rfl
theorem ZhP (s:Sto) (d:Dk) (gone:List Pce):(Zbh ((gone.map fun q:Pce=>Zbu (fun d=>Zam d q.name))++[Zaq]) (s,d)).1.1.log=s.log:=by
 have h:∀ (gs:List (SDk->SDk × Int)),(∀ g ∈ gs,∀ x,(g x).1.1.log=x.1.log)->∀ x,(Zbh gs x).1.1.log=x.1.log:=by
  intro gs
  induction gs with
  | nil=>exact fun _ x=>rfl
  | cons g gs ih=>
   intro hg x
   have h1:=hg g List.mem_cons_self x
   unfold Zbh
   split
   ·exact(ih (fun g' hg'=>hg g' (List.mem_cons_of_mem _ hg')) (g x).1).trans h1
   ·exact h1
 refine h _ (fun g hg x=>?_) (s,d)
 rcases List.mem_append.1 hg with hg | hg
 ·obtain⟨q,-,rfl⟩:=List.mem_map.1 hg
  rfl
 ·rw[List.mem_singleton.1 hg]
  unfold Zaq
  split <;> rfl
set_option maxHeartbeats 8000000 in
theorem ZrT {K:Nat->Prop} {pd p:Nat} {s:Sto} {d:Dk} {N T:Nat} (w:World) (h:SD K w pd p s d N T) (hK:∀ k,K k->k<w.heap.size) (hok:OkS s) (hb0:s.bases.length≠0) (hbl:s.bases.length<=1000000) (hpl:s.log.pcs.length<=100000) (hrl:s.log.recs.length<=1000000) (hf:s.log.first<=s.base.idx∧s.base.idx<=s.next) (hcur:∀ q ∈ s.log.pcs.dropLast,q.name≠s.cur) (hnm:∀ q ∈ s.log.pcs,I64 q.name) (hN:N<=700000) (hT:T<=900000000):
 Calls Tryz.prog 30 #[ptr p] w fun e w'=>ZeU K w pd p (Zdv (s,d)) (N+2*(s.log.pcs.length+1)) T e w':=by
 obtain⟨W0,hW0⟩:∃ W0,W0=w.alloc (.cells #[ptr p] 28):=⟨_,rfl⟩
 have HB0:Hid (Below w.heap.size w W0):=ZZ (by rw[hW0];exact ZcY _ _)
 have HR0:Hid (Bk 28 W0 w.heap.size #[ptr p]):=ZZ (by rw[hW0];exact heap_alloc_new w _)
 have HSZ:Hid (W0.heap.size=w.heap.size+1):=ZZ (by rw[hW0];simp)
 have HS:=ZZ h
 have HK:=ZZ hK
 obtain⟨F,M,I,L,h1,h2,-⟩:=h
 have HBA:Hid (Calls Tryz.prog 38 #[ptr p] W0 fun e w'=>e=.returned (snV (Zfm L.bs))∧Below W0.heap.size W0 w'):=ZZ (ZsH W0 (h2.below HB0.out) hb0 (by omega))
 obtain⟨bi,hbi⟩:∃ bi,bi=s.base.idx:=⟨_,rfl⟩
 obtain⟨kd,la,ln,lc,sh,eg,ta,tn,tc,hsv⟩:∃ kd la ln lc sh eg ta tn tc,snV (Zfm L.bs)=.agg #[.int .i64 bi,.int .i64 kd,.slice la ln lc,.bool sh,.int .i64 eg,.slice ta tn tc]:=by
  have hl:L.bs.length≠0:=by rw[<-List.length_map (f:=Prod.fst),h2.bsEq];exact hb0
  obtain⟨la,ln,lc,ta,tn,tc,e1,e2⟩:=(h2.base _ (ZkL hl)).shape
  refine⟨(Zfm L.bs).1.st.kind,la,ln,lc,(Zfm L.bs).1.st.shut,(Zfm L.bs).1.st.eng,ta,tn,tc,?_⟩
  unfold snV snC
  rw[e1,e2,hbi,<-ZmF h2.bsEq]
 rw[hsv] at HBA
 obtain⟨pa,pc,hpv⟩:=ZbU h2.pcs
 have HK1:Hid (∀ W,Below W0.heap.size W0 W->W.cell? ⟨w.heap.size,0,none⟩=some (ptr p)∧W.cell? ⟨p,3,none⟩=some (.slice pa s.log.pcs.length pc)∧W.cell? ⟨p,12,none⟩=some (.int .i64 s.cur)∧
  ∀ j,j<s.log.pcs.length->∃ g,pa=some ⟨g,0,none⟩∧W.cell? ⟨g,j*3,none⟩=some (.int .i64 (s.log.pcs.getD j Zcc).name)∧W.cell? ⟨g,j*3+1,none⟩=some (.int .i64 (s.log.pcs.getD j Zcc).first)∧W.cell? ⟨g,j*3+2,none⟩=some (.int .i64 (s.log.pcs.getD j Zcc).stop)):=ZZ (fun W hW=>by
  have hr:=((HR0.out.keep (hW.block _ HR0.out.lt)).cell 0 rfl).1
  have h3:=(h2.below HB0.out).below hW
  obtain⟨-,-,-,c3,-,-,-,c12,-⟩:=h3.cs
  refine⟨hr,by rw[<-hpv];exact c3,c12,fun j hj=>?_⟩
  obtain⟨g,cap,hv,d0,d1,d2⟩:=ZAp h3.pcs j hj
  have hv':L.pv=.slice (some ⟨g,0,none⟩) s.log.pcs.length cap:=hv
  rw[hpv] at hv'
  injection hv' with hv'
  exact⟨g,hv',d0,d1,d2⟩)
 obtain⟨P,hP⟩:∃ P,P=s.log.pcs:=⟨_,rfl⟩
 obtain⟨cu,hcu⟩:∃ cu,cu=s.cur:=⟨_,rfl⟩
 obtain⟨gp,hgp⟩:∃ gp,gp=Znr s:=⟨_,rfl⟩
 have HGP:Hid (∀ q,gp q=(decide (q.stop<=bi) && decide (q.name≠cu))):=ZZ (fun q=>by rw[hgp,hbi,hcu];rfl)
 rw[<-hP,<-hcu] at HK1
 have HPL:Hid (P.length<=100000):=ZZ (by rw[hP];exact hpl)
 have HFN:Hid (P.filter (fun q=>!gp q)=ZgJ s∧P.filter gp=s.log.pcs.filter (Znr s)):=ZZ (by rw[hP,hgp];exact⟨rfl,rfl⟩)
 have HALL:Hid (OkS s∧s.log.recs.length<=1000000∧(s.log.first<=s.base.idx∧s.base.idx<=s.next)∧(∀ q ∈ s.log.pcs.dropLast,q.name≠s.cur)∧(∀ q ∈ s.log.pcs,I64 q.name)):=ZZ ⟨hok,hrl,hf,hcur,hnm⟩
 have HBI:=ZZ hbi
 have HPP:=ZZ hP
 have hpn:(P.length:Int)<=100000:=by have:=HPL.out;omega
 rw[<-hP] at hpv
 have hfd:∀ W:World,(Instr.field 41 (.agg #[.int .i64 bi,.int .i64 kd,.slice la ln lc,.bool sh,.int .i64 eg,.slice ta tn tc]) 0).run Tryz.prog W=.ok (.int .i64 bi) W:=fun _=>by kernel_rfl
 clear h1 h2 hpv hP hcu hgp hbi hsv hok hrl hf hcur hnm hpl hb0 hbl hK
 go_enter Tryz.func30,Tryz.ntmps30
 go_upto_region 1 with fail
 rw[<-hW0]
 obtain⟨r0,-⟩:=HK1.out W0 (Below.refl _ _)
 clear hW0
 go_wp2_with fail
 refine HBA.out.mono ?_
 rintro e W1 ⟨rfl,hb1⟩
 have HB1:=ZZ hb1
 obtain⟨r1,c3,-,-⟩:=HK1.out W1 hb1
 clear hb1 HBA r0
 go_wp2
 go_loopw[4,5,18] (fun vs vl vi wr=>∃ (i:Nat) (bx:List Nat) (a1:Option Addr) (n1 k1:Nat) (a2:Option Addr) (n2 k2:Nat),vi=.int .i64 (i:Int)∧i<=P.length∧vs=.slice a1 n1 k1∧vl=.slice a2 n2 k2∧Hid (ZgT W1 w.heap.size ((P.take i).filter gp) ((P.take i).filter fun q=>!gp q) bx (.slice a1 n1 k1) (.slice a2 n2 k2) wr)) (fun _ _ vi _=>P.length-(intOf vi).toNat)
 case atStart=>exact⟨0,[],none,0,0,none,0,0,rfl,Nat.zero_le _,rfl,rfl,ZZ (ZgT.start W1 w.heap.size)⟩
 case round=>
  clear r1 c3
  obtain⟨i,bx,a1,n1,k1,a2,n2,k2,rfl,hi,rfl,rfl,HI⟩:=hrel
  have HBW:Hid (Below W0.heap.size W0 wr):=ZZ (HB1.out.trans (HI.out.old.mono HB1.out.size))
  obtain⟨r1,c3,c12,hcell⟩:=HK1.out wr HBW.out
  by_cases hlt:i<P.length
  case neg=>
   obtain rfl:i=P.length:=by omega
   rw[List.take_length] at HI
   obtain⟨gone,hgone⟩:∃ gone,gone=P.filter gp:=⟨_,rfl⟩
   obtain⟨left,hleft⟩:∃ left,left=P.filter fun q=>!gp q:=⟨_,rfl⟩
   rw[<-hgone,<-hleft] at HI
   rw[<-hgone,<-hleft] at HFN
   have HROW:=ZZ HI.out.row
   have HLM:Hid ((bx.map (ZlJ w.heap.size)).length<=10000000):=ZZ (by
    rw[List.length_map,HI.out.len,hgone]
    exact Nat.le_trans (List.length_filter_le _ _) (by have:=HPL.out;omega))
   have HGL:Hid (gone.length<=P.length∧left.length<=P.length):=ZZ (by rw[hgone,hleft];exact⟨List.length_filter_le _ _,List.length_filter_le _ _⟩)
   have HLW:Hid (∀ v' W',W'.ownsRow 0 154 1 v' (bx.map (ZlJ w.heap.size)++[(⟨65,#[ptr p],#[]⟩:Stp)]).length (ZbA (bx.map (ZlJ w.heap.size)++[(⟨65,#[ptr p],#[]⟩:Stp)]))->(wr.alloc (.cells #[(⟨65,#[ptr p],#[]⟩:Stp).val] 154)).grownBy W' (Value.slice a1 n1 k1).ownBlock->(v'.ownBlock=(Value.slice a1 n1 k1).ownBlock∨v'.ownBlock=some (wr.heap.size+1))->
    ∃ g cap,v'=.slice (some ⟨g,0,none⟩) (bx.length+1) cap∧Below w.heap.size w W'∧W'.ownsRow 0 109 3 (.slice a2 n2 k2) left.length (Zau left)∧Bk 28 W' w.heap.size #[ptr p]∧
    Calls Tryz.prog 63 #[.slice (some ⟨g,0,none⟩) (bx.length+1) cap] W' fun e w'=>ZuL (fun k=>K k∨(w.heap.size<=k∧k<W'.heap.size)) (fun k=>K k∨(w.heap.size<=k∧k<W'.heap.size)) pd p (Zbh (Zns s++[Zaq]) (s,d)) (N+2*(bx.length+1)) T (fun _ _=>True) W' e w'):=ZZ (fun v' W' h1 h2 h3=>by
    obtain⟨q1,q2,q3,q4⟩:=HI.out.last h1 h2 h3
    have hl9:(bx.map (ZlJ w.heap.size)++[(⟨65,#[ptr p],#[]⟩:Stp)]).length=bx.length+1:=by rw[List.length_append,List.length_map];rfl
    obtain⟨g,cap,cs,e1,e2,e3,e4⟩:=ZBD h1 (by rw[hl9];omega) (⟨0,#[],#[]⟩:Stp)
    rw[hl9] at e1 e4
    have hz0:=HSZ.out
    have hz1:=HB1.out.size
    have hbw:Below w.heap.size w W':=HB0.out.trans ((HB1.out.trans (q1.mono hz1)).mono (by omega))
    have hrW:Bk 28 W' w.heap.size #[ptr p]:=HR0.out.keep ((HB1.out.trans (q1.mono hz1)).block _ HR0.out.lt)
    refine⟨g,cap,e1,hbw,q2,hrW,?_⟩
    rw[Zol,<-HFN.out.2]
    exact Zxe (gone:=gone) W' (HS.out.fresh hbw) (fun k hk=>by
     rcases hk with hk | hk
     ·have:=HK.out k hk;have:=hbw.size;omega
     ·exact hk.2) (.inr ⟨by have:=q4 g e3;omega,e2.lt⟩) (.inr ⟨Nat.le_refl _,hrW.lt⟩) (fun j hj=>⟨.inr ⟨by have:=(q3 j hj).1;omega,(q3 j hj).2.lt⟩,(q3 j hj).2⟩) HI.out.len hrW cs e2 e4 (fun q hq=>HALL.out.2.2.2.2 q (by
     rw[HFN.out.2] at hq
     exact(List.mem_filter.1 hq).1)) (by have:=HGL.out.1;have:=HPL.out;omega) hN hT)
   clear hgone hleft hcell c3 c12
   go_wp2_with(at_builtin;refine(fun(h:True->_)=>h trivial) ?_)
   intro _
   refine Zfv wr rfl _ _ rfl (.slice a1 n1 k1) (bx.map (ZlJ w.heap.size)) rfl HROW.out ⟨65,#[ptr p],#[]⟩ rfl HLM.out ?_
   intro v9 W9 h1 h2 h3
   obtain⟨g9,cap9,rfl,hbw,hlr,hrW,hst⟩:=HLW.out v9 W9 h1 h2 h3
   obtain⟨res,hres⟩:∃ res,res=Zbh (Zns s++[Zaq]) (s,d):=⟨_,rfl⟩
   rw[<-hres] at hst
   have HBW9:=ZZ hbw
   have HLR:=ZZ hlr
   have HRW:=ZZ hrW
   have HST:=ZZ hst
   have HRT:Hid (Zdv (s,d)=if res.2=0 then(({ res.1.1 with log:=s.log.letGo (ZgJ s) s.base.idx },res.1.2),0) else res):=ZZ (by rw[hres];rfl)
   have HLOG:Hid (res.1.1.log=s.log):=ZZ (by rw[hres,Zol];exact ZhP s d _)
   have HBX:Hid (bx.length<=s.log.pcs.length):=ZZ (by rw[HI.out.len,<-HPP.out];exact HGL.out.1)
   have HLF:Hid (∀ k,(Value.slice a2 n2 k2).ownBlock=some k->w.heap.size<=k∧k<W9.heap.size):=ZZ (fun k hk=>⟨by have:=HI.out.lfar k hk;have:=HB1.out.size;have:=HSZ.out;omega,(World.ownsRow.lt hlr k hk).2⟩)
   clear h1 h2 h3 hbw hlr hrW hst hres HLW HROW HI
   go_wp2_with fail
   refine HST.out.mono ?_
   rintro e W10 ⟨rfl,Kd,m1,m2,m3,m4,-⟩
   have hr10:=HRW.out.keep (m3.block _ HRW.out.lt (fun hh=>hh (.inr ⟨Nat.le_refl _,HRW.out.lt⟩)))
   obtain⟨r10,-⟩:=hr10.cell 0 rfl
   have HKD:=ZZ (And.intro m1 m2)
   have HO10:Hid (Zas (fun k=>¬ K k) w W10):=ZZ ((Zas.ofBelow HBW9.out).trans (m3.mono (fun k hk hn=>hk (.inl hn))) (fun _ _ h=>h))
   have HS10:=ZZ m4
   have HL10:Hid (W10.ownsRow 0 109 3 (.slice a2 n2 k2) left.length (Zau left)):=ZZ (Zaf HLR.out fun g hg=>m3.block g (HLF.out g hg).2 (fun hh=>hh (.inr (HLF.out g hg))))
   clear m1 m2 m3 m4 hr10 HST
   obtain⟨⟨s1,d1⟩,c⟩:=res
   by_cases hc:c=0
   case neg=>
    have HFI:Hid (ZeU K w pd p (Zdv (s,d)) (N+2*(s.log.pcs.length+1)) T (.returned (.int .i64 c)) W10):=ZZ (by
     rw[HRT.out,if_neg hc]
     exact⟨rfl,(HS10.out.less (fun k hk=>HKD.out.1 k (.inl hk))).mono (by have:=HBX.out;omega) zL,HO10.out⟩)
    have hcb:(c != 0)=true:=by rw[bne_iff_ne];exact hc
    clear hc HRT
    go_wp2
    go_ret
    exact HFI.out
   subst hc
   rw[if_pos rfl] at HRT
   have HLG:Hid (Calls Tryz.prog 71 #[.pointer (some ⟨p,1,none⟩),.slice a2 n2 k2,.int .i64 bi] W10 fun e w'=>e=.returned (.tuple #[])∧SD K w' pd p { s1 with log:=s1.log.letGo left bi } d1 (N+2*(bx.length+1)) T∧Zas (fun k=>¬ K k) W10 w'):=ZZ (by
    have hlog:s1.log=s.log:=HLOG.out
    obtain⟨g1,g2,g3,g4,g5⟩:=HALL.out
    obtain⟨q1,q2,q3,q4⟩:=g1.log.letGo (cur:=s.cur) (base:=s.base.idx) g4 g3.1 g3.2
    have hleft:s.log.pcs.filter (fun p=>!(decide (p.stop<=s.base.idx) && decide (p.name≠s.cur)))=left:=HFN.out.1.symm
    rw[hleft] at q2 q3 q4
    have q4':s.log.first<=ZbI left s.base.idx:=q4
    have hnx:s.log.next=s.log.first+s.log.recs.length:=rfl
    have q3':ZbI left s.base.idx+((s.log.recs.drop (ZbI left s.base.idx-s.log.first).toNat).length:Nat)=s.log.next:=q3
    have h0:=g1.log.f0
    have ht:=g1.log.top
    rw[HBI.out]
    exact HS10.out.letGo (fun k hk=>HKD.out.1 k (.inl hk)) HKD.out.2 _ left s.base.idx HL10.out (fun k hk=>⟨HKD.out.1 k (.inr (HLF.out k hk)),fun hh=>by have:=HK.out k hh;have:=(HLF.out k hk).1;omega⟩) (by have:=HGL.out.2;have:=HPL.out;omega) (by rw[hlog];exact g2) (by rw[hlog];exact g1.log.recOk) (by rw[hlog];exact q4') (by rw[hlog];omega) (by rw[hlog];exact h0) (by rw[hlog];omega))
   go_wp2_with fail
   refine HLG.out.mono ?_
   rintro e W11 ⟨rfl,hs11,ho11⟩
   have HFI:Hid (ZeU K w pd p (Zdv (s,d)) (N+2*(s.log.pcs.length+1)) T (.returned (.int .i64 0)) W11):=ZZ (by
    rw[HRT.out]
    have hlog:s1.log=s.log:=HLOG.out
    rw[hlog,HFN.out.1,HBI.out] at hs11
    exact⟨rfl,hs11.mono (by have:=HBX.out;omega) zL,HO10.out.trans ho11 (fun _ _ h=>h)⟩)
   clear hs11 ho11 HLG
   go_wp2
   go_ret
   exact HFI.out
  obtain⟨g,hpa,d0,d1,d2⟩:=hcell i hlt
  subst hpa
  have HQN:=ZZ (Zja gp P i hlt)
  have HQM:=ZZ (Zja (fun q=>!gp q) P i hlt)
  obtain⟨q,hq⟩:∃ q,q=P.getD i Zcc:=⟨_,rfl⟩
  rw[<-hq] at d0 d1 d2 HQN HQM
  obtain⟨qn,qf,qs⟩:=q
  dsimp only at d0 d1 d2
  have HG:=ZZ (HGP.out ⟨qn,qf,qs⟩)
  have HLT:=ZZ hlt
  have HII:Hid (i<P.length):=ZZ hlt
  clear hcell hq
  go_upto_region 7 with fail
  obtain⟨WP,hWP⟩:∃ WP,WP=wr.alloc (.cells #[.int .i64 qn,.int .i64 qf,.int .i64 qs] 109):=⟨_,rfl⟩
  rw[<-hWP]
  have HPB:Hid (Below wr.heap.size wr WP):=ZZ (by rw[hWP];exact ZcY _ _)
  have HPK:Hid (Bk 109 WP wr.heap.size (pcC ⟨qn,qf,qs⟩)):=ZZ (by rw[hWP];exact heap_alloc_new wr _)
  have p0:WP.cell? ⟨wr.heap.size,0,none⟩=some (.int .i64 qn):=(HPK.out.cell 0 rfl).1
  have p1:WP.cell? ⟨wr.heap.size,1,none⟩=some (.int .i64 qf):=(HPK.out.cell 1 rfl).1
  have p2:WP.cell? ⟨wr.heap.size,2,none⟩=some (.int .i64 qs):=(HPK.out.cell 2 rfl).1
  obtain⟨r2,-,c13,-⟩:=HK1.out WP (HBW.out.trans (HPB.out.mono HBW.out.size))
  clear hWP r1 c3 c12 d0 d1 d2
  have HPD:Hid (∀ n,Below wr.heap.size wr (WP.drewN n)):=ZZ (fun n=>ZaM HPB.out n)
  have HLL:Hid (((P.take i).filter fun q=>!gp q).length<=10000000):=ZZ (Nat.le_trans (List.length_filter_le _ _) (by rw[List.length_take];have:=HPL.out;omega))
  have HLM:Hid ((bx.map (ZlJ w.heap.size)).length<=10000000):=ZZ (by
   rw[List.length_map,HI.out.len]
   exact Nat.le_trans (List.length_filter_le _ _) (by rw[List.length_take];have:=HPL.out;omega))
  by_cases hle:qs<=bi
  ·by_cases hne:qn=cu
   ·have hgq:gp ⟨qn,qf,qs⟩=false:=by rw[HG.out];simp[hne]
    have hnb:(qn != cu)=false:=by rw[bne_eq_false_iff_eq];exact hne
    rw[hgq,if_neg (by decide),List.append_nil] at HQN
    rw[hgq,if_pos (by decide)] at HQM
    clear hne hgq
    go_quiet(fail)
    go_wp2_with(at_builtin;refine(fun(h:True->_)=>h trivial) ?_)
    intro _
    refine Zcv _ rfl _ _ rfl (.slice a2 n2 k2) ((P.take i).filter fun q=>!gp q) rfl (HI.out.below (HPD.out _)).lrow (⟨qn,qf,qs⟩:Pce) rfl HLL.out ?_
    intro v9 W9 h1 h2 h3
    have HFIN:=ZZ (HI.out.leave ⟨qn,qf,qs⟩ (HPD.out _) h1 h2 h3)
    rw[<-HQM.out] at HFIN
    obtain⟨a9,c9,hv9⟩:=ZbU h1
    generalize (((P.take i).filter fun q=>!gp q)++[(⟨qn,qf,qs⟩:Pce)]).length=n9 at hv9
    subst hv9
    clear h1 h2 h3
    go_wp2
    go_roundw
    case rel=>exact⟨i+1,bx,a1,n1,k1,a9,n9,c9,by go_num,by have:=HLT.out;omega,rfl,rfl,by rw[HQN.out];exact HFIN⟩
    case measure=>have:=HLT.out;simp[intOf];omega
   ·have hgq:gp ⟨qn,qf,qs⟩=true:=by rw[HG.out];simp[hne,hle]
    have hnb:(qn != cu)=true:=by rw[bne_iff_ne];exact hne
    rw[hgq,if_pos rfl] at HQN
    rw[hgq,if_neg (by decide),List.append_nil] at HQM
    clear hne hgq
    go_quiet(fail)
    go_wp2_with(at_builtin;refine(fun(h:True->_)=>h trivial) ?_)
    intro _
    refine Zfv _ rfl _ _ rfl (.slice a1 n1 k1) (bx.map (ZlJ w.heap.size)) rfl (HI.out.below (HPD.out _)).row (ZlJ w.heap.size wr.heap.size) rfl HLM.out ?_
    intro v9 W9 h1 h2 h3
    have HFIN:=ZZ (HI.out.step ⟨qn,qf,qs⟩ (HPD.out _) (HPK.out.keep (by rw[World.heap_drewN])) h1 h2 h3)
    rw[<-HQN.out] at HFIN
    obtain⟨a9,c9,hv9⟩:=ZbU h1
    generalize (bx.map (ZlJ w.heap.size)++[ZlJ w.heap.size wr.heap.size]).length=n9 at hv9
    subst hv9
    clear h1 h2 h3
    go_wp2
    go_roundw
    case rel=>exact⟨i+1,bx++[wr.heap.size],a9,n9,c9,a2,n2,k2,by go_num,by have:=HLT.out;omega,rfl,rfl,by rw[HQM.out];exact HFIN⟩
    case measure=>have:=HLT.out;simp[intOf];omega
  ·have hgq:gp ⟨qn,qf,qs⟩=false:=by rw[HG.out];simp[hle]
   have hlb:decide (qs<=bi)=false:=decide_eq_false hle
   rw[hgq,if_neg (by decide),List.append_nil] at HQN
   rw[hgq,if_pos (by decide)] at HQM
   clear hle hgq
   go_quiet(fail)
   go_wp2_with(at_builtin;refine(fun(h:True->_)=>h trivial) ?_)
   intro _
   refine Zcv _ rfl _ _ rfl (.slice a2 n2 k2) ((P.take i).filter fun q=>!gp q) rfl (HI.out.below (HPD.out _)).lrow (⟨qn,qf,qs⟩:Pce) rfl HLL.out ?_
   intro v9 W9 h1 h2 h3
   have HFIN:=ZZ (HI.out.leave ⟨qn,qf,qs⟩ (HPD.out _) h1 h2 h3)
   rw[<-HQM.out] at HFIN
   obtain⟨a9,c9,hv9⟩:=ZbU h1
   generalize (((P.take i).filter fun q=>!gp q)++[(⟨qn,qf,qs⟩:Pce)]).length=n9 at hv9
   subst hv9
   clear h1 h2 h3
   go_wp2
   go_roundw
   case rel=>exact⟨i+1,bx,a1,n1,k1,a9,n9,c9,by go_num,by have:=HLT.out;omega,rfl,rfl,by rw[HQN.out];exact HFIN⟩
   case measure=>have:=HLT.out;simp[intOf];omega
end Go.Proofs.YtfiffndhehkapaaGreatDoor
