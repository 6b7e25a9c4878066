import Derived.Test.YtnahjngbneicaaaGreatDoorStoreR
namespace Go.Proofs.YtnahjngbneicaaaGreatDoor
open _root_.Go.Proofs.Tryz
set_option maxRecDepth 100000
open Go.RowKit
def ZyE (g:Lgb) (n:Int):Option (Nat × List Rec)->Lgb
 | none=>g
 | some (f,l)=>if g.pcs.length=0∨(f:Int)=g.next then(g.start n f).add l else g
set_option maxHeartbeats 4000000 in
theorem Zph {F:Nat->Prop} {p:Nat} {d:Dk} {N T:Nat} (kind:Int) (w:World) (h:Dsk F w p d N T) (hN:N<=1000000) (hT:T<=1000000000) (aY:0<=kind) (a0:kind<6) (aW:∀ n,(Z1 d n).1.length<=90000)
 (aR:∀ n f l,Zvp (Z1 d n).1 kind=some (f,l)->f<4611686018427387904∧∀ r ∈ l,Qw r) (aN:∀ q,ZxP (Zt d kind (Xg (Ql d) 2) q)):
 Calls prog 35 #[ptr p,.int .i64 kind] w fun e w'=>ZuJ w (ZfS d kind) e w':=by
 have aC:=ZZ (fun W (R:Below w.heap.size w W)=>Zci 2 W (h.below R) hN (by omega) (by omega))
 have bc:=ZZ (fun n (y:I64 n) W (R:Below w.heap.size w W)=>Zmk n y W (h.below R) hT)
 have br:=ZZ (fun n vb W (hr:Rd W vb (Z1 d n).1)=>Zix vb _ kind W hr (aW n) aY a0)
 have HI:Hid (∀ n ∈ Xg (Ql d) 2,I64 n):=ZZ (by
  obtain⟨L,g1,z,-⟩:=h
  exact fun n y=>by
   have:=ZaZ z n (List.mem_filter.1 y).1
   exact⟨by omega,by omega⟩)
 have av:Hid ((Xg (Ql d) 2).length<=1000000):=ZZ (by
  obtain⟨L,g1,z,g3,-⟩:=h;have h3:=Zbn d d.waits.length;rw[ZcY] at h3;have:=g3.names;refine Nat.le_trans (List.length_filter_le _ _) ?_;unfold Ql;rw[List.length_map]
  omega)
 have bg:=ZZ aR;have an:=ZZ aN;have a5:ZfS d kind=(Xg (Ql d) 2).foldl (logOne d kind) Zbv:=rfl;rw[a5];clear h aW aR aN a5 aY a0;obtain⟨l,hl⟩:∃ l,l=Xg (Ql d) 2:=⟨_,rfl⟩;rw[<-hl] at aC HI av an ⊢;clear hl;obtain⟨t,S⟩:∃ t,t=(w.alloc (.cells #[.int .i64 0,.slice none 0 0,.slice none 0 0] 73)).alloc (.cells #[.int .i64 0,.slice none 0 0,.slice none 0 0] 73):=⟨_,rfl⟩;have ae:Hid (Below w.heap.size w t):=ZZ (by rw[S];exact((Below.refl _ _).alloc zL _).alloc (by simp) _)
 have HY:Hid (Bk 73 t w.heap.size #[.int .i64 0,.slice none 0 0,.slice none 0 0]):=ZZ (by rw[S];exact(Below.heap_alloc _ _ _ (by simp)).trans (heap_alloc_new w _))
 have HX:Hid (Bk 73 t (w.heap.size+1) #[.int .i64 0,.slice none 0 0,.slice none 0 0]):=ZZ (by rw[S];exact ZdM w _ _)
 have bl:Hid (∀ (a b c:Value) (W:World),Below w.heap.size w W->Below w.heap.size w (((W.setCell ⟨w.heap.size,0,none⟩ a).setCell ⟨w.heap.size,1,none⟩ b).setCell ⟨w.heap.size,2,none⟩ c)):=ZZ (fun a b c W R=>((R.setCell (p:=⟨w.heap.size,0,none⟩) zL a).setCell (p:=⟨w.heap.size,1,none⟩) zL b).setCell (p:=⟨w.heap.size,2,none⟩) zL c)
 go_enter func35,ntmps35
 go_upto_region 2 with fail
 rw[<-S];clear S
 go_wp2_with fail
 refine(aC.o t ae.o).mono ?_;rintro e W1 ⟨v1,rfl,aH,af⟩
 have ar:Hid (ZfE w t v1 l (.slice none 0 0) (.slice none 0 0) Zbv W1):=ZZ (by
  refine⟨(ZhY.mk HX.o rfl rfl rfl (Q9.nil _ _) (World.ownsRow_nil _ _ _ _)).below af,fun k hk=>?_,HY.o.keep (af.block _ HY.o.lt),aH,ae.o.trans (af.mono ae.o.size)⟩
  rcases hk with hk | hk | hk
  ·omega
  ·cases hk
  ·cases hk)
 obtain⟨a1,K,bm⟩:∃ a c,v1=.slice a l.length c:=aH.shape;subst bm;obtain⟨m,aa⟩:∃ m,m=l.length:=⟨_,rfl⟩;rw[<-aa] at ar av;rw[<-aa];have aZ:=ZZ aa;clear aH af aC aa HX HY ae;have bA:=av.o;have bt:(m:Int)<=1000000:=by omega
 have aM:Hid (∀ (g:Lgb) (rv pv:Value) (W:World),g=l.foldl (logOne d kind) Zbv->ZfE w t (.slice a1 m K) l rv pv g W->ZuJ w (l.foldl (logOne d kind) Zbv) (.returned (.agg #[.int .i64 g.first,rv,pv])) (((W.setCell ⟨w.heap.size,0,none⟩ (.int .i64 g.first)).setCell ⟨w.heap.size,1,none⟩ rv).setCell ⟨w.heap.size,2,none⟩ pv)):=ZZ (fun g rv pv W he u=>by
  rw[<-he]
  have hk:∀ k,Zjf (w.heap.size+1) rv pv k->(((W.setCell ⟨w.heap.size,0,none⟩ (.int .i64 g.first)).setCell ⟨w.heap.size,1,none⟩ rv).setCell ⟨w.heap.size,2,none⟩ pv).heap[k]?=W.heap[k]?:=fun k hk=>by
   have:=u.far k hk;rw[Below.heap_setCell _ _ _ _ (by show k≠w.heap.size;omega),Below.heap_setCell _ _ _ _ (by show k≠w.heap.size;omega),Below.heap_setCell _ _ _ _ (by show k≠w.heap.size;omega)]
  refine⟨rv,pv,rfl,Qh (ZaL u.log.recs fun k I=>?_) fun k I=>hk k (.inr (.inl I)),Qh (ZaL u.log.pcs fun k I=>?_) fun k I=>hk k (.inr (.inr I)),bl.o _ _ _ _ u.old⟩
  ·have:=u.far k (.inr (.inl I))
   omega
  ·have:=u.far k (.inr (.inr I))
   omega)
 go_wp2
 go_loopw[16] (fun vi wr=>∃ (q:Nat) (rv pv:Value),vi=.int .i64 (q:Int)∧q<=m∧Hid (ZfE w t (.slice a1 m K) l rv pv (Zt d kind l q) wr)) (fun vi _=>m-(intOf vi).toNat)
 case atStart=>exact⟨0,_,_,rfl,Nat.zero_le _,ar⟩
 case round=>
  obtain⟨q,rv,pv,rfl,hq,j⟩:=hrel;clear ar;by_cases ba:q<m
  case neg=>
   have e:q=m:=by omega
   have HF:=ZZ (aM.o _ rv pv wr (Ziy d kind l q (e.trans aZ.o)) j.o);generalize Zt d kind l q=g at *;obtain⟨ra,rc,ay⟩:=j.o.log.recs.shape;obtain⟨pa,pc,aK⟩:=Zg j.o.log.pcs;subst ay aK;obtain⟨x0,-⟩:=j.o.log.blk.cell 0 rfl;obtain⟨x1,-⟩:=j.o.log.blk.cell 1 rfl;obtain⟨x2,-⟩:=j.o.log.blk.cell 2 rfl;obtain⟨z0,y0⟩:=j.o.out.cell 0 rfl;obtain⟨z1,y1⟩:=j.o.out.cell 1 rfl;obtain⟨z2,y2⟩:=j.o.out.cell 2 rfl;subst e;clear j aM;go_wp2;refine bodyPost_ret (v:=.agg #[.int .i64 g.first,.slice ra g.recs.length rc,.slice pa g.pcs.length pc]) (by simp[results,Tryz.results35,go_sem,z0,z1,z2]) rfl ?_
   exact HF.o
  have X:q<l.length:=by rw[<-aZ.o];exact ba
  have bz:(q:Int)<(m:Int):=by omega
  have HS:Hid (Zt d kind l (q+1)=logOne d kind (Zt d kind l q) (l.getD q 0)):=ZZ (ZfD d kind l q X);have D:=ZZ (an.o q);have a4:=ZZ (an.o (q+1));obtain⟨nq,ap⟩:∃ nq,nq=l.getD q 0:=⟨_,rfl⟩;obtain⟨ao,cap,a9,-,-,-,-,au⟩:=j.o.row.rd HI.o
  injection a9 with e1 e2 e3
  rcases au with au | ⟨bb,ag,bp,hc⟩
  ·rw[au] at X;simp at X
  subst e1;subst bp;have cx:=hc q X;rw[<-ap] at cx HS
  have bi:Hid (I64 nq):=ZZ (HI.o nq (by
   rw[ap,show l.getD q 0=l[q] by simp[List.getD,X]]
   exact List.getElem_mem _))
  clear hc e2 e3 ap;have aV:=ZZ (bc.o nq bi.o wr j.o.old)
  go_wp2_with fail
  refine aV.o.mono ?_;rintro e W2 ⟨v2,rfl,aE,aS⟩;have ad:=ZZ (j.o.below aS);have aL:=ZZ aE.rd;obtain⟨a2,c2,bk,-⟩:=aE.rd;subst bk;clear aE aS aV j cx;have a6:=ZZ (br.o nq _ W2 aL.o);generalize (Z1 d nq).2=er at *;generalize bq:(Z1 d nq).1.length=bC at *;clear bq
  go_wp2_with fail
  refine a6.o.mono ?_;rintro e W3 ⟨x,M,Z,P,rfl,aT,am⟩;have A:=ZZ (ad.o.below am);have ac:=ZZ aT;clear aT a6 aL;obtain⟨sg,aJ⟩:∃ sg,sg=Zvp (Z1 d nq).1 kind:=⟨_,rfl⟩;have ai:Hid (Zt d kind l (q+1)=ZyE (Zt d kind l q) nq sg):=ZZ (by rw[HS.o,aJ];rfl)
  have aq:=ZZ (bg.o nq);rw[<-aJ] at aq ac ⊢;generalize Zt d kind l q=g at *;obtain⟨z,Y⟩:∃ z,z=Zt d kind l (q+1):=⟨_,rfl⟩;have ab:=ZZ Y;rw[<-Y] at ai a4;clear aJ HS Y
  cases sg with
  | none=>
   have J:Hid (Zt d kind l (q+1)=g):=ZZ (by rw[<-ab.o];exact ai.o)
   simp only [Option.isSome_none];clear am ac ad;go_wp2;go_roundw
   case rel=>exact⟨q+1,rv,pv,by go_num,by omega,ZZ (by rw[J.o];exact A.o)⟩
   case measure=>simp[intOf];omega
  | some fl=>
   obtain⟨f,i⟩:=fl;obtain⟨rfl,aX⟩:=ac.o f i rfl;obtain⟨bv,aO⟩:=aq.o f i rfl;have aQ:=ZZ aO;have aB:=ZZ aX;have aU:Hid (∀ k,Zjf (w.heap.size+1) rv pv k->k<W2.heap.size):=ZZ ad.o.log.ltF;have aw:Hid (z=if g.pcs.length=0∨(f:Int)=g.next then(g.start nq f).add i else g):=ZZ ai.o
   simp only [Option.isSome_some];clear aO aX aq ac ai am
   have V:Hid (∀ W,ZfE w t (.slice (some ⟨bb,ag,none⟩) m K) l rv pv g W->Q9 W W2.heap.size (.slice M Z P) i->Calls prog 53 #[.pointer (some ⟨w.heap.size+1,0,none⟩),.int .i64 nq,.int .i64 (f:Int)] W fun e w'=>e=.returned (.tuple #[])∧∃ G H,Hid (ZfE w t (.slice (some ⟨bb,ag,none⟩) m K) l G H (g.start nq f) w')∧Hid (RdR w' (.slice M Z P) i)):=ZZ (fun W u ho=>by
    refine(ZjS 73 (by decide) (by decide) (w.heap.size+1) 0 _ rv pv g nq f W u.log (by have:=D.o.pl;omega)).mono ?_
    rintro e w' ⟨rfl,hd⟩;obtain⟨G,H,aI,be⟩:=u.did hd;refine⟨rfl,G,H,ZZ aI,ZZ (Q9.rdF (B:=W2.heap.size) (Qh ho fun k hk=>?_) aQ.o)⟩
    have a8:=World.ownsRow.lt ho k hk;refine be.block k a8.2 fun hf=>?_
    have:=aU.o k hf
    omega)
   have C:Hid (z=(g.start nq f).add i->∀ G H W,ZfE w t (.slice (some ⟨bb,ag,none⟩) m K) l G H (g.start nq f) W->RdR W (.slice M Z P) i->Calls prog 54 #[.pointer (some ⟨w.heap.size+1,0,none⟩),.slice M Z P] W fun e w'=>e=.returned (.tuple #[])∧∃ al aD,Hid (ZfE w t (.slice (some ⟨bb,ag,none⟩) m K) l al aD ((g.start nq f).add i) w')):=ZZ (fun Y G H W u hr=>by
    have ax:=a4.o.rl;rw[Y] at ax
    have bx:(g.start nq f).recs.length+i.length<=9000000:=by
     have e:((g.start nq f).add i).recs=(g.start nq f).recs++i:=rfl;rw[e,List.length_append] at ax;exact ax
    have bu:(g.start nq f).pcs.length=g.pcs.length+1:=by
     show(g.pcs++[_]).length=_;simp
    refine(Zua 73 (by decide) (by decide) (w.heap.size+1) 0 _ G H (g.start nq f) (.slice M Z P) i W u.log hr (by omega) (by have:=D.o.pl;omega) (by omega) (fun p hp=>?_)).mono ?_
    ·have hp':p ∈ g.pcs++[(⟨nq,f,f⟩:Pce)]:=hp
     rcases List.mem_append.1 hp' with hp' | hp'
     ·exact D.o.st p hp'
     ·rw[List.mem_singleton.1 hp']
      show(0:Int)<=(f:Int)∧(f:Int)<=4611686018427387904;omega
    ·rintro e w' ⟨rfl,hd⟩
     obtain⟨al,aD,aI,-⟩:=u.did hd
     exact⟨rfl,al,aD,ZZ aI⟩)
   obtain⟨ra,rc,ay⟩:=A.o.log.recs.shape;obtain⟨pa,pc,aK⟩:=Zg A.o.log.pcs;subst ay aK;obtain⟨x0,-⟩:=A.o.log.blk.cell 0 rfl;obtain⟨x1,-⟩:=A.o.log.blk.cell 1 rfl;obtain⟨x2,-⟩:=A.o.log.blk.cell 2 rfl;have bj:=D.o.f0;have bw:=D.o.f1;have bD:=D.o.rl;have bB:(g.pcs.length:Int)<=900000:=by have:=D.o.pl;omega
   have bn:g.first+(g.recs.length:Int)<=9000000000000000000:=by omega
   have aP:=ZZ (ZkY (w.heap.size+1) 0 g.first ra g.recs.length rc W3 x0 x1 bj bn);clear ad aU aQ;by_cases Q:g.pcs.length=0
   ·have bo:((g.pcs.length:Int) == 0)=true:=by rw[beq_iff_eq];omega
    have E:z=(g.start nq f).add i:=by rw[aw.o,if_pos (.inl Q)]
    have J:Hid (Zt d kind l (q+1)=(g.start nq f).add i):=ZZ (by rw[<-ab.o];exact E)
    replace C:=ZZ (C.o E)
    clear E Q
    go_wp2_with fail
    refine(V.o W3 A.o aB.o).mono ?_;rintro e W5 ⟨rfl,az,aA,U,O⟩;clear V
    go_wp2_with fail
    refine(C.o az aA W5 U.o O.o).mono ?_;rintro e W6 ⟨rfl,aG,ak,aF⟩;clear C O U;go_wp2;go_roundw
    case rel=>exact⟨q+1,aG,ak,by go_num,by omega,ZZ (by rw[J.o];exact aF.o)⟩
    case measure=>simp[intOf];omega
   have bo:((g.pcs.length:Int) == 0)=false:=beq_eq_false_iff_ne.2 (by omega)
   go_wp2_with fail
   refine aP.o.mono ?_;rintro e W4 ⟨rfl,aj⟩;have a7:=ZZ (A.o.below aj);have bf:=ZZ (aB.o.below aj zL);clear aj aP A aB x0 x1 x2;by_cases y:(f:Int)=g.first+(g.recs.length:Int)
   ·have bd:((f:Int) == g.first+(g.recs.length:Int))=true:=by rw[beq_iff_eq];exact y
    have E:z=(g.start nq f).add i:=by rw[aw.o,if_pos (.inr y)]
    have J:Hid (Zt d kind l (q+1)=(g.start nq f).add i):=ZZ (by rw[<-ab.o];exact E)
    replace C:=ZZ (C.o E)
    clear E Q y
    go_wp2_with fail
    refine(V.o W4 a7.o bf.o).mono ?_;rintro e W5 ⟨rfl,az,aA,U,O⟩;clear V
    go_wp2_with fail
    refine(C.o az aA W5 U.o O.o).mono ?_;rintro e W6 ⟨rfl,aG,ak,aF⟩;clear C O U;go_wp2;go_roundw
    case rel=>exact⟨q+1,aG,ak,by go_num,by omega,ZZ (by rw[J.o];exact aF.o)⟩
    case measure=>simp[intOf];omega
   ·have bd:((f:Int) == g.first+(g.recs.length:Int))=false:=beq_eq_false_iff_ne.2 y
    have J:Hid (Zt d kind l (q+1)=g):=ZZ (by
     rw[<-ab.o,aw.o,if_neg];rintro(h | h)
     ·exact Q h
     ·exact y h)
    clear Q y V C;go_wp2;go_roundw
    case rel=>exact⟨q+1,_,_,by go_num,by omega,ZZ (by rw[J.o];exact a7.o)⟩
    case measure=>simp[intOf];omega
end Go.Proofs.YtnahjngbneicaaaGreatDoor
