import Derived.Test.YtnahjngbneicaaaGreatDoorStoreR
namespace Go.Proofs.YtnahjngbneicaaaGreatDoor
open _root_.Go.Proofs.Tryz
set_option maxRecDepth 100000
open Go.RowKit
def ZyE (g:Lgb) (n:Int):Option (Nat × List Rec)->Lgb
 | none=>g
 | some (f,l)=>if g.pcs.length=0∨(f:Int)=g.next then(g.start n f).add l else g
set_option maxHeartbeats 4000000 in
theorem Zph {F:Nat->Prop} {p:Nat} {d:Dk} {N T:Nat} (kind:Int) (w:World) (h:Dsk F w p d N T) (hN:N<=1000000) (hT:T<=1000000000) (aZ:0<=kind) (a4:kind<6) (aP:∀ n,(Z1 d n).1.length<=90000)
 (aW:∀ n f l,Zvp (Z1 d n).1 kind=some (f,l)->f<4611686018427387904∧∀ r ∈ l,Qw r) (aN:∀ q,ZxP (Zt d kind (Xg (Ql d) 2) q)):
 Calls prog 35 #[ptr p,.int .i64 kind] w fun e w'=>ZuJ w (ZfS d kind) e w':=by
 have al:=ZZ (fun W (U:Below w.heap.size w W)=>Zci 2 W (h.below U) hN (by omega) (by omega))
 have ba:=ZZ (fun n (y:I64 n) W (U:Below w.heap.size w W)=>Zmk n y W (h.below U) hT)
 have a8:=ZZ (fun n vb W (hr:Rd W vb (Z1 d n).1)=>Zix vb _ kind W hr (aP n) aZ a4)
 have HI:Hid (∀ n ∈ Xg (Ql d) 2,I64 n):=ZZ (by
  obtain⟨L,g1,C,-⟩:=h
  exact fun n y=>by
   have:=ZaZ C n (List.mem_filter.1 y).1
   exact⟨by omega,by omega⟩)
 have ax:Hid ((Xg (Ql d) 2).length<=1000000):=ZZ (by
  obtain⟨L,g1,C,g3,-⟩:=h;have h3:=Zbn d d.waits.length;rw[ZcY] at h3;have:=g3.names;refine Nat.le_trans (List.length_filter_le _ _) ?_;unfold Ql;rw[List.length_map]
  omega)
 have bf:=ZZ aW;have ak:=ZZ aN;have aX:ZfS d kind=(Xg (Ql d) 2).foldl (logOne d kind) Zbv:=rfl;rw[aX];clear h aP aW aN aX aZ a4;obtain⟨l,hl⟩:∃ l,l=Xg (Ql d) 2:=⟨_,rfl⟩;rw[<-hl] at al HI ax ak ⊢;clear hl;obtain⟨t,V⟩:∃ t,t=(w.alloc (.cells #[.int .i64 0,.slice none 0 0,.slice none 0 0] 73)).alloc (.cells #[.int .i64 0,.slice none 0 0,.slice none 0 0] 73):=⟨_,rfl⟩;have ad:Hid (Below w.heap.size w t):=ZZ (by rw[V];exact((Below.refl _ _).alloc zL _).alloc (by simp) _)
 have HY:Hid (Bk 73 t w.heap.size #[.int .i64 0,.slice none 0 0,.slice none 0 0]):=ZZ (by rw[V];exact(Below.heap_alloc _ _ _ (by simp)).trans (heap_alloc_new w _))
 have HX:Hid (Bk 73 t (w.heap.size+1) #[.int .i64 0,.slice none 0 0,.slice none 0 0]):=ZZ (by rw[V];exact ZdM w _ _)
 have bj:Hid (∀ (a b c:Value) (W:World),Below w.heap.size w W->Below w.heap.size w (((W.setCell ⟨w.heap.size,0,none⟩ a).setCell ⟨w.heap.size,1,none⟩ b).setCell ⟨w.heap.size,2,none⟩ c)):=ZZ (fun a b c W U=>((U.setCell (p:=⟨w.heap.size,0,none⟩) zL a).setCell (p:=⟨w.heap.size,1,none⟩) zL b).setCell (p:=⟨w.heap.size,2,none⟩) zL c)
 go_enter func35,ntmps35
 go_upto_region 2 with fail
 rw[<-V];clear V
 go_wp2_with fail
 refine(al.o t ad.o).mono ?_;rintro e W1 ⟨v1,rfl,aB,ai⟩
 have aC:Hid (ZfE w t v1 l (.slice none 0 0) (.slice none 0 0) Zbv W1):=ZZ (by
  refine⟨(ZhY.mk HX.o rfl rfl rfl (Q9.nil _ _) (World.ownsRow_nil _ _ _ _)).below ai,fun k hk=>?_,HY.o.keep (ai.block _ HY.o.lt),aB,ad.o.trans (ai.mono ad.o.size)⟩
  rcases hk with hk | hk | hk
  ·omega
  ·cases hk
  ·cases hk)
 obtain⟨a1,K,bk⟩:∃ a c,v1=.slice a l.length c:=aB.shape;subst bk;obtain⟨m,aa⟩:∃ m,m=l.length:=⟨_,rfl⟩;rw[<-aa] at aC ax;rw[<-aa];have aM:=ZZ aa;clear aB ai al aa HX HY ad;have bD:=ax.o;have bv:(m:Int)<=1000000:=by omega
 have aY:Hid (∀ (g:Lgb) (rv pv:Value) (W:World),g=l.foldl (logOne d kind) Zbv->ZfE w t (.slice a1 m K) l rv pv g W->ZuJ w (l.foldl (logOne d kind) Zbv) (.returned (.agg #[.int .i64 g.first,rv,pv])) (((W.setCell ⟨w.heap.size,0,none⟩ (.int .i64 g.first)).setCell ⟨w.heap.size,1,none⟩ rv).setCell ⟨w.heap.size,2,none⟩ pv)):=ZZ (fun g rv pv W he u=>by
  rw[<-he]
  have hk:∀ k,Zjf (w.heap.size+1) rv pv k->(((W.setCell ⟨w.heap.size,0,none⟩ (.int .i64 g.first)).setCell ⟨w.heap.size,1,none⟩ rv).setCell ⟨w.heap.size,2,none⟩ pv).heap[k]?=W.heap[k]?:=fun k hk=>by
   have:=u.far k hk;rw[Below.heap_setCell _ _ _ _ (by show k≠w.heap.size;omega),Below.heap_setCell _ _ _ _ (by show k≠w.heap.size;omega),Below.heap_setCell _ _ _ _ (by show k≠w.heap.size;omega)]
  refine⟨rv,pv,rfl,Qh (ZaL u.log.recs fun k I=>?_) fun k I=>hk k (.inr (.inl I)),Qh (ZaL u.log.pcs fun k I=>?_) fun k I=>hk k (.inr (.inr I)),bj.o _ _ _ _ u.old⟩
  ·have:=u.far k (.inr (.inl I))
   omega
  ·have:=u.far k (.inr (.inr I))
   omega)
 go_wp2
 go_loopw[16] (fun vi wr=>∃ (q:Nat) (rv pv:Value),vi=.int .i64 (q:Int)∧q<=m∧Hid (ZfE w t (.slice a1 m K) l rv pv (Zt d kind l q) wr)) (fun vi _=>m-(intOf vi).toNat)
 case atStart=>exact⟨0,_,_,rfl,Nat.zero_le _,aC⟩
 case round=>
  obtain⟨q,rv,pv,rfl,hq,j⟩:=hrel;clear aC;by_cases a9:q<m
  case neg=>
   have e:q=m:=by omega
   have HF:=ZZ (aY.o _ rv pv wr (Ziy d kind l q (e.trans aM.o)) j.o);generalize Zt d kind l q=g at *;obtain⟨ra,rc,aA⟩:=j.o.log.recs.shape;obtain⟨pa,pc,aG⟩:=Zg j.o.log.pcs;subst aA aG;obtain⟨x0,-⟩:=j.o.log.blk.cell 0 rfl;obtain⟨x1,-⟩:=j.o.log.blk.cell 1 rfl;obtain⟨x2,-⟩:=j.o.log.blk.cell 2 rfl;obtain⟨z0,y0⟩:=j.o.out.cell 0 rfl;obtain⟨z1,y1⟩:=j.o.out.cell 1 rfl;obtain⟨z2,y2⟩:=j.o.out.cell 2 rfl;subst e;clear j aY;go_wp2;refine bodyPost_ret (v:=.agg #[.int .i64 g.first,.slice ra g.recs.length rc,.slice pa g.pcs.length pc]) (by simp[results,Tryz.results35,go_sem,z0,z1,z2]) rfl ?_
   exact HF.o
  have O:q<l.length:=by rw[<-aM.o];exact a9
  have bB:(q:Int)<(m:Int):=by omega
  have HS:Hid (Zt d kind l (q+1)=logOne d kind (Zt d kind l q) (l.getD q 0)):=ZZ (ZfD d kind l q O);have H:=ZZ (ak.o q);have aR:=ZZ (ak.o (q+1));obtain⟨nq,an⟩:∃ nq,nq=l.getD q 0:=⟨_,rfl⟩;obtain⟨ao,cap,bo,-,-,-,-,aK⟩:=j.o.row.rd HI.o
  injection bo with e1 e2 e3
  rcases aK with aK | ⟨bb,ac,br,hc⟩
  ·rw[aK] at O;simp at O
  subst e1;subst br;have cx:=hc q O;rw[<-an] at cx HS
  have be:Hid (I64 nq):=ZZ (HI.o nq (by
   rw[an,show l.getD q 0=l[q] by simp[List.getD,O]]
   exact List.getElem_mem _))
  clear hc e2 e3 an;have aQ:=ZZ (ba.o nq be.o wr j.o.old)
  go_wp2_with fail
  refine aQ.o.mono ?_;rintro e W2 ⟨v2,rfl,ar,aL⟩;have af:=ZZ (j.o.below aL);have a6:=ZZ ar.rd;obtain⟨a2,c2,bm,-⟩:=ar.rd;subst bm;clear ar aL aQ j cx;have aT:=ZZ (a8.o nq _ W2 a6.o);generalize (Z1 d nq).2=er at *;generalize bg:(Z1 d nq).1.length=bC at *;clear bg
  go_wp2_with fail
  refine aT.o.mono ?_;rintro e W3 ⟨x,S,Z,X,rfl,aO,aw⟩;have z:=ZZ (af.o.below aw);have ab:=ZZ aO;clear aO aT a6;obtain⟨sg,aD⟩:∃ sg,sg=Zvp (Z1 d nq).1 kind:=⟨_,rfl⟩;have ag:Hid (Zt d kind l (q+1)=ZyE (Zt d kind l q) nq sg):=ZZ (by rw[HS.o,aD];rfl)
  have am:=ZZ (bf.o nq);rw[<-aD] at am ab ⊢;generalize Zt d kind l q=g at *;obtain⟨C,Y⟩:∃ C,C=Zt d kind l (q+1):=⟨_,rfl⟩;have ae:=ZZ Y;rw[<-Y] at ag aR;clear aD HS Y
  cases sg with
  | none=>
   have J:Hid (Zt d kind l (q+1)=g):=ZZ (by rw[<-ae.o];exact ag.o)
   simp only [Option.isSome_none];clear aw ab af;go_wp2;go_roundw
   case rel=>exact⟨q+1,rv,pv,by go_num,by omega,ZZ (by rw[J.o];exact z.o)⟩
   case measure=>simp[intOf];omega
  | some fl=>
   obtain⟨f,i⟩:=fl;obtain⟨rfl,aV⟩:=ab.o f i rfl;obtain⟨bz,aS⟩:=am.o f i rfl;have a5:=ZZ aS;have aF:=ZZ aV;have a0:Hid (∀ k,Zjf (w.heap.size+1) rv pv k->k<W2.heap.size):=ZZ af.o.log.ltF;have aq:Hid (C=if g.pcs.length=0∨(f:Int)=g.next then(g.start nq f).add i else g):=ZZ ag.o
   simp only [Option.isSome_some];clear aS aV am ab ag aw
   have R:Hid (∀ W,ZfE w t (.slice (some ⟨bb,ac,none⟩) m K) l rv pv g W->Q9 W W2.heap.size (.slice S Z X) i->Calls prog 53 #[.pointer (some ⟨w.heap.size+1,0,none⟩),.int .i64 nq,.int .i64 (f:Int)] W fun e w'=>e=.returned (.tuple #[])∧∃ D G,Hid (ZfE w t (.slice (some ⟨bb,ac,none⟩) m K) l D G (g.start nq f) w')∧Hid (RdR w' (.slice S Z X) i)):=ZZ (fun W u ho=>by
    refine(ZjS 73 (by decide) (by decide) (w.heap.size+1) 0 _ rv pv g nq f W u.log (by have:=H.o.pl;omega)).mono ?_
    rintro e w' ⟨rfl,hd⟩;obtain⟨D,G,aj,bq⟩:=u.did hd;refine⟨rfl,D,G,ZZ aj,ZZ (Q9.rdF (B:=W2.heap.size) (Qh ho fun k hk=>?_) a5.o)⟩
    have bd:=World.ownsRow.lt ho k hk;refine bq.block k bd.2 fun hf=>?_
    have:=a0.o k hf
    omega)
   have A:Hid (C=(g.start nq f).add i->∀ D G W,ZfE w t (.slice (some ⟨bb,ac,none⟩) m K) l D G (g.start nq f) W->RdR W (.slice S Z X) i->Calls prog 54 #[.pointer (some ⟨w.heap.size+1,0,none⟩),.slice S Z X] W fun e w'=>e=.returned (.tuple #[])∧∃ aH aI,Hid (ZfE w t (.slice (some ⟨bb,ac,none⟩) m K) l aH aI ((g.start nq f).add i) w')):=ZZ (fun Y D G W u hr=>by
    have ay:=aR.o.rl;rw[Y] at ay
    have bu:(g.start nq f).recs.length+i.length<=9000000:=by
     have e:((g.start nq f).add i).recs=(g.start nq f).recs++i:=rfl;rw[e,List.length_append] at ay;exact ay
    have bt:(g.start nq f).pcs.length=g.pcs.length+1:=by
     show(g.pcs++[_]).length=_;simp
    refine(Zua 73 (by decide) (by decide) (w.heap.size+1) 0 _ D G (g.start nq f) (.slice S Z X) i W u.log hr (by omega) (by have:=H.o.pl;omega) (by omega) (fun p hp=>?_)).mono ?_
    ·have hp':p ∈ g.pcs++[(⟨nq,f,f⟩:Pce)]:=hp
     rcases List.mem_append.1 hp' with hp' | hp'
     ·exact H.o.st p hp'
     ·rw[List.mem_singleton.1 hp']
      show(0:Int)<=(f:Int)∧(f:Int)<=4611686018427387904;omega
    ·rintro e w' ⟨rfl,hd⟩
     obtain⟨aH,aI,aj,-⟩:=u.did hd
     exact⟨rfl,aH,aI,ZZ aj⟩)
   obtain⟨ra,rc,aA⟩:=z.o.log.recs.shape;obtain⟨pa,pc,aG⟩:=Zg z.o.log.pcs;subst aA aG;obtain⟨x0,-⟩:=z.o.log.blk.cell 0 rfl;obtain⟨x1,-⟩:=z.o.log.blk.cell 1 rfl;obtain⟨x2,-⟩:=z.o.log.blk.cell 2 rfl;have bi:=H.o.f0;have bA:=H.o.f1;have bw:=H.o.rl;have bx:(g.pcs.length:Int)<=900000:=by have:=H.o.pl;omega
   have bp:g.first+(g.recs.length:Int)<=9000000000000000000:=by omega
   have aU:=ZZ (ZkY (w.heap.size+1) 0 g.first ra g.recs.length rc W3 x0 x1 bi bp);clear af a0 a5;by_cases Q:g.pcs.length=0
   ·have bn:((g.pcs.length:Int) == 0)=true:=by rw[beq_iff_eq];omega
    have E:C=(g.start nq f).add i:=by rw[aq.o,if_pos (.inl Q)]
    have J:Hid (Zt d kind l (q+1)=(g.start nq f).add i):=ZZ (by rw[<-ae.o];exact E)
    replace A:=ZZ (A.o E)
    clear E Q
    go_wp2_with fail
    refine(R.o W3 z.o aF.o).mono ?_;rintro e W5 ⟨rfl,aE,av,M,P⟩;clear R
    go_wp2_with fail
    refine(A.o aE av W5 M.o P.o).mono ?_;rintro e W6 ⟨rfl,az,aJ,ap⟩;clear A P M;go_wp2;go_roundw
    case rel=>exact⟨q+1,az,aJ,by go_num,by omega,ZZ (by rw[J.o];exact ap.o)⟩
    case measure=>simp[intOf];omega
   have bn:((g.pcs.length:Int) == 0)=false:=beq_eq_false_iff_ne.2 (by omega)
   go_wp2_with fail
   refine aU.o.mono ?_;rintro e W4 ⟨rfl,au⟩;have a7:=ZZ (z.o.below au);have bl:=ZZ (aF.o.below au zL);clear au aU z aF x0 x1 x2;by_cases y:(f:Int)=g.first+(g.recs.length:Int)
   ·have bc:((f:Int) == g.first+(g.recs.length:Int))=true:=by rw[beq_iff_eq];exact y
    have E:C=(g.start nq f).add i:=by rw[aq.o,if_pos (.inr y)]
    have J:Hid (Zt d kind l (q+1)=(g.start nq f).add i):=ZZ (by rw[<-ae.o];exact E)
    replace A:=ZZ (A.o E)
    clear E Q y
    go_wp2_with fail
    refine(R.o W4 a7.o bl.o).mono ?_;rintro e W5 ⟨rfl,aE,av,M,P⟩;clear R
    go_wp2_with fail
    refine(A.o aE av W5 M.o P.o).mono ?_;rintro e W6 ⟨rfl,az,aJ,ap⟩;clear A P M;go_wp2;go_roundw
    case rel=>exact⟨q+1,az,aJ,by go_num,by omega,ZZ (by rw[J.o];exact ap.o)⟩
    case measure=>simp[intOf];omega
   ·have bc:((f:Int) == g.first+(g.recs.length:Int))=false:=beq_eq_false_iff_ne.2 y
    have J:Hid (Zt d kind l (q+1)=g):=ZZ (by
     rw[<-ae.o,aq.o,if_neg];rintro(h | h)
     ·exact Q h
     ·exact y h)
    clear Q y R A;go_wp2;go_roundw
    case rel=>exact⟨q+1,_,_,by go_num,by omega,ZZ (by rw[J.o];exact a7.o)⟩
    case measure=>simp[intOf];omega
end Go.Proofs.YtnahjngbneicaaaGreatDoor
