import Derived.Test.YtnahjngbneicaaaGreatDoorStoreR
import Derived.WalkMore
namespace Go.Proofs.YtnahjngbneicaaaGreatDoor
open _root_.Go.Proofs.Tryz
set_option maxRecDepth 100000
open Go.RowKit
def ZBU (g:Lgb) (n:Int):Option (Nat × List Rec)->Lgb
 | none=>g
 | some (f,l)=>if g.pcs.length=0∨(f:Int)=g.next then(g.start n f).add l else g
set_option maxHeartbeats 4000000 in
theorem Zsx {F:Nat->Prop} {p:Nat} {d:Dk} {N T:Nat} (kind:Int) (w:World) (h:Dsk F w p d N T) (hN:N<=1000000) (hT:T<=1000000000) (aV:0<=kind) (aU:kind<6) (aP:∀ n,(Zdc d n).1.length<=90000)
 (aO:∀ n f l,ZyF (Zdc d n).1 kind=some (f,l)->f<4611686018427387904∧∀ r ∈ l,ZaA r) (aR:∀ q,ZBf (ZcZ d kind (ZaY (Zak d) 2) q)):
 Calls prog 35 #[ptr p,.int .i64 kind] w fun e w'=>ZxZ w (Zji d kind) e w':=by
 have aF:=ZZ (fun W (Q:Below w.heap.size w W)=>Zfx 2 W (h.below Q) hN (by omega) (by omega))
 have a9:=ZZ (fun n (z:I64 n) W (Q:Below w.heap.size w W)=>ZpA n z W (h.below Q) hT)
 have ba:=ZZ (fun n vb W (hr:Rd W vb (Zdc d n).1)=>ZlN vb _ kind W hr (aP n) aV aU)
 have HI:Hid (∀ n ∈ ZaY (Zak d) 2,I64 n):=ZZ (by
  obtain⟨L,g1,C,-⟩:=h
  exact fun n z=>by
   have:=Zej C n (List.mem_filter.1 z).1
   exact⟨by omega,by omega⟩)
 have aC:Hid ((ZaY (Zak d) 2).length<=1000000):=ZZ (by
  obtain⟨L,g1,C,g3,-⟩:=h;have h3:=Zey d d.waits.length;rw[Zgo] at h3;have:=g3.names;refine Nat.le_trans (List.length_filter_le _ _) ?_;unfold Zak;rw[List.length_map]
  omega)
 have bl:=ZZ aO;have al:=ZZ aR;have aW:Zji d kind=(ZaY (Zak d) 2).foldl (logOne d kind) ZeI:=rfl;rw[aW];clear h aP aO aR aW aV aU;obtain⟨l,hl⟩:∃ l,l=ZaY (Zak d) 2:=⟨_,rfl⟩;rw[<-hl] at aF HI aC al ⊢;clear hl;obtain⟨u,S⟩:∃ u,u=(w.alloc (.cells #[.int .i64 0,.slice none 0 0,.slice none 0 0] 73)).alloc (.cells #[.int .i64 0,.slice none 0 0,.slice none 0 0] 73):=⟨_,rfl⟩;have ae:Hid (Below w.heap.size w u):=ZZ (by rw[S];exact((Below.refl _ _).alloc zL _).alloc (by simp) _)
 have HY:Hid (Bk 73 u w.heap.size #[.int .i64 0,.slice none 0 0,.slice none 0 0]):=ZZ (by rw[S];exact(Below.heap_alloc _ _ _ (by simp)).trans (heap_alloc_new w _))
 have HX:Hid (Bk 73 u (w.heap.size+1) #[.int .i64 0,.slice none 0 0,.slice none 0 0]):=ZZ (by rw[S];exact Zhc w _ _)
 have bg:Hid (∀ (a b c:Value) (W:World),Below w.heap.size w W->Below w.heap.size w (((W.setCell ⟨w.heap.size,0,none⟩ a).setCell ⟨w.heap.size,1,none⟩ b).setCell ⟨w.heap.size,2,none⟩ c)):=ZZ (fun a b c W Q=>((Q.setCell (p:=⟨w.heap.size,0,none⟩) zL a).setCell (p:=⟨w.heap.size,1,none⟩) zL b).setCell (p:=⟨w.heap.size,2,none⟩) zL c)
 go_enter func35,ntmps35
 go_upto_region 2 with fail
 rw[<-S];clear S
 go_wp2_with fail
 refine(aF.o u ae.o).mono ?_;rintro e W1 ⟨v1,rfl,ai,aa⟩
 have aj:Hid (ZiU w u v1 l (.slice none 0 0) (.slice none 0 0) ZeI W1):=ZZ (by
  refine⟨(Zlo.mk HX.o rfl rfl rfl (Zbq.nil _ _) (World.ownsRow_nil _ _ _ _)).below aa,fun k hk=>?_,HY.o.keep (aa.block _ HY.o.lt),ai,ae.o.trans (aa.mono ae.o.size)⟩
  rcases hk with hk | hk | hk
  ·omega
  ·cases hk
  ·cases hk)
 obtain⟨a1,M,bf⟩:∃ a c,v1=.slice a l.length c:=ai.shape;subst bf;obtain⟨m,ag⟩:∃ m,m=l.length:=⟨_,rfl⟩;rw[<-ag] at aj aC;rw[<-ag];have aX:=ZZ ag;clear ai aa aF ag HX HY ae;have bo:=aC.o;have bp:(m:Int)<=1000000:=by omega
 have a0:Hid (∀ (g:Lgb) (rv pv:Value) (W:World),g=l.foldl (logOne d kind) ZeI->ZiU w u (.slice a1 m M) l rv pv g W->ZxZ w (l.foldl (logOne d kind) ZeI) (.returned (.agg #[.int .i64 g.first,rv,pv])) (((W.setCell ⟨w.heap.size,0,none⟩ (.int .i64 g.first)).setCell ⟨w.heap.size,1,none⟩ rv).setCell ⟨w.heap.size,2,none⟩ pv)):=ZZ (fun g rv pv W he y=>by
  rw[<-he]
  have hk:∀ k,Zmv (w.heap.size+1) rv pv k->(((W.setCell ⟨w.heap.size,0,none⟩ (.int .i64 g.first)).setCell ⟨w.heap.size,1,none⟩ rv).setCell ⟨w.heap.size,2,none⟩ pv).heap[k]?=W.heap[k]?:=fun k hk=>by
   have:=y.far k hk;rw[Below.heap_setCell _ _ _ _ (by show k≠w.heap.size;omega),Below.heap_setCell _ _ _ _ (by show k≠w.heap.size;omega),Below.heap_setCell _ _ _ _ (by show k≠w.heap.size;omega)]
  refine⟨rv,pv,rfl,Zae (ZdT y.log.recs fun k E=>?_) fun k E=>hk k (.inr (.inl E)),Zae (ZdT y.log.pcs fun k E=>?_) fun k E=>hk k (.inr (.inr E)),bg.o _ _ _ _ y.old⟩
  ·have:=y.far k (.inr (.inl E))
   omega
  ·have:=y.far k (.inr (.inr E))
   omega)
 go_wp2
 go_loopw[16] (fun vi wr=>∃ (q:Nat) (rv pv:Value),vi=.int .i64 (q:Int)∧q<=m∧Hid (ZiU w u (.slice a1 m M) l rv pv (ZcZ d kind l q) wr)) (fun vi _=>m-(intOf vi).toNat)
 case atStart=>exact⟨0,_,_,rfl,Nat.zero_le _,aj⟩
 case round=>
  obtain⟨q,rv,pv,rfl,hq,t⟩:=hrel;clear aj;by_cases bj:q<m
  case neg=>
   have e:q=m:=by omega
   have HF:=ZZ (a0.o _ rv pv wr (ZlO d kind l q (e.trans aX.o)) t.o);generalize ZcZ d kind l q=g at *;obtain⟨ra,rc,ah⟩:=t.o.log.recs.shape;obtain⟨pa,pc,aw⟩:=ZbW t.o.log.pcs;subst ah aw;obtain⟨x0,-⟩:=t.o.log.blk.cell 0 rfl;obtain⟨x1,-⟩:=t.o.log.blk.cell 1 rfl;obtain⟨x2,-⟩:=t.o.log.blk.cell 2 rfl;obtain⟨z0,y0⟩:=t.o.o.cell 0 rfl;obtain⟨z1,y1⟩:=t.o.o.cell 1 rfl;obtain⟨z2,y2⟩:=t.o.o.cell 2 rfl;subst e;clear t a0;go_wp2;refine bodyPost_ret (v:=.agg #[.int .i64 g.first,.slice ra g.recs.length rc,.slice pa g.pcs.length pc]) (by simp[results,Tryz.results35,go_sem,z0,z1,z2]) rfl ?_
   exact HF.o
  have Y:q<l.length:=by rw[<-aX.o];exact bj
  have bt:(q:Int)<(m:Int):=by omega
  have HS:Hid (ZcZ d kind l (q+1)=logOne d kind (ZcZ d kind l q) (l.getD q 0)):=ZZ (ZiT d kind l q Y);have I:=ZZ (al.o q);have aM:=ZZ (al.o (q+1));obtain⟨i,ar⟩:∃ i,i=l.getD q 0:=⟨_,rfl⟩;obtain⟨ao,cap,bi,-,-,-,-,aE⟩:=t.o.row.rd HI.o
  injection bi with e1 e2 e3
  rcases aE with aE | ⟨bb,off,hae,hc⟩
  ·rw[aE] at Y;simp at Y
  subst e1;subst hae;have cx:=hc q Y;rw[<-ar] at cx HS
  have a8:Hid (I64 i):=ZZ (HI.o i (by
   rw[ar,show l.getD q 0=l[q] by simp[List.getD,Y]]
   exact List.getElem_mem _))
  clear hc e2 e3 ar;have aL:=ZZ (a9.o i a8.o wr t.o.old)
  go_wp2_with fail
  refine aL.o.mono ?_;rintro e W2 ⟨v2,rfl,am,aJ⟩;have af:=ZZ (t.o.below aJ);have aN:=ZZ am.rd;obtain⟨a2,c2,bn,-⟩:=am.rd;subst bn;clear am aJ aL t cx;have a4:=ZZ (ba.o i _ W2 aN.o);generalize (Zdc d i).2=er at *;generalize a6:(Zdc d i).1.length=bl2 at *;clear a6
  go_wp2_with fail
  refine a4.o.mono ?_;rintro e W3 ⟨x,a3,Z,V,rfl,aY,ay⟩;have A:=ZZ (af.o.below ay);have ad:=ZZ aY;clear aY a4 aN;obtain⟨sg,aI⟩:∃ sg,sg=ZyF (Zdc d i).1 kind:=⟨_,rfl⟩;have ab:Hid (ZcZ d kind l (q+1)=ZBU (ZcZ d kind l q) i sg):=ZZ (by rw[HS.o,aI];rfl)
  have aG:=ZZ (bl.o i);rw[<-aI] at aG ad ⊢;generalize ZcZ d kind l q=g at *;obtain⟨C,X⟩:∃ C,C=ZcZ d kind l (q+1):=⟨_,rfl⟩;have ac:=ZZ X;rw[<-X] at ab aM;clear aI HS X
  cases sg with
  | none=>
   have H:Hid (ZcZ d kind l (q+1)=g):=ZZ (by rw[<-ac.o];exact ab.o)
   simp only [Option.isSome_none];clear ay ad af;go_wp2;go_roundw
   case rel=>exact⟨q+1,rv,pv,by go_num,by omega,ZZ (by rw[H.o];exact A.o)⟩
   case measure=>simp[intOf];omega
  | some fl=>
   obtain⟨f,j⟩:=fl;obtain⟨rfl,a5⟩:=ad.o f j rfl;obtain⟨br,aT⟩:=aG.o f j rfl;have aZ:=ZZ aT;have ap:=ZZ a5;have aK:Hid (∀ k,Zmv (w.heap.size+1) rv pv k->k<W2.heap.size):=ZZ af.o.log.ltF;have an:Hid (C=if g.pcs.length=0∨(f:Int)=g.next then(g.start i f).add j else g):=ZZ ab.o
   simp only [Option.isSome_some];clear aT a5 aG ad ab ay
   have U:Hid (∀ W,ZiU w u (.slice (some ⟨bb,off,none⟩) m M) l rv pv g W->Zbq W W2.heap.size (.slice a3 Z V) j->Calls prog 53 #[.pointer (some ⟨w.heap.size+1,0,none⟩),.int .i64 i,.int .i64 (f:Int)] W fun e w'=>e=.returned (.tuple #[])∧∃ K G,Hid (ZiU w u (.slice (some ⟨bb,off,none⟩) m M) l K G (g.start i f) w')∧Hid (RdR w' (.slice a3 Z V) j)):=ZZ (fun W y ho=>by
    refine(Zni 73 (by decide) (by decide) (w.heap.size+1) 0 _ rv pv g i f W y.log (by have:=I.o.pl;omega)).mono ?_
    rintro e w' ⟨rfl,hd⟩;obtain⟨K,G,ak,bc⟩:=y.did hd;refine⟨rfl,K,G,ZZ ak,ZZ (Zbq.rdF (B:=W2.heap.size) (Zae ho fun k hk=>?_) aZ.o)⟩
    have bm:=World.ownsRow.lt ho k hk;refine bc.block k bm.2 fun hf=>?_
    have:=aK.o k hf
    omega)
   have D:Hid (C=(g.start i f).add j->∀ K G W,ZiU w u (.slice (some ⟨bb,off,none⟩) m M) l K G (g.start i f) W->RdR W (.slice a3 Z V) j->Calls prog 54 #[.pointer (some ⟨w.heap.size+1,0,none⟩),.slice a3 Z V] W fun e w'=>e=.returned (.tuple #[])∧∃ aA aB,Hid (ZiU w u (.slice (some ⟨bb,off,none⟩) m M) l aA aB ((g.start i f).add j) w')):=ZZ (fun X K G W y hr=>by
    have az:=aM.o.rl;rw[X] at az
    have bw:(g.start i f).recs.length+j.length<=9000000:=by
     have e:((g.start i f).add j).recs=(g.start i f).recs++j:=rfl;rw[e,List.length_append] at az;exact az
    have bu:(g.start i f).pcs.length=g.pcs.length+1:=by
     show(g.pcs++[_]).length=_;simp
    refine(Zxq 73 (by decide) (by decide) (w.heap.size+1) 0 _ K G (g.start i f) (.slice a3 Z V) j W y.log hr (by omega) (by have:=I.o.pl;omega) (by omega) (fun p hp=>?_)).mono ?_
    ·have hp':p ∈ g.pcs++[(⟨i,f,f⟩:Pce)]:=hp
     rcases List.mem_append.1 hp' with hp' | hp'
     ·exact I.o.st p hp'
     ·rw[List.mem_singleton.1 hp']
      show(0:Int)<=(f:Int)∧(f:Int)<=4611686018427387904;omega
    ·rintro e w' ⟨rfl,hd⟩
     obtain⟨aA,aB,ak,-⟩:=y.did hd
     exact⟨rfl,aA,aB,ZZ ak⟩)
   obtain⟨ra,rc,ah⟩:=A.o.log.recs.shape;obtain⟨pa,pc,aw⟩:=ZbW A.o.log.pcs;subst ah aw;obtain⟨x0,-⟩:=A.o.log.blk.cell 0 rfl;obtain⟨x1,-⟩:=A.o.log.blk.cell 1 rfl;obtain⟨x2,-⟩:=A.o.log.blk.cell 2 rfl;have bd:=I.o.f0;have bx:=I.o.f1;have bv:=I.o.rl;have bq:(g.pcs.length:Int)<=900000:=by have:=I.o.pl;omega
   have bh:g.first+(g.recs.length:Int)<=9000000000000000000:=by omega
   have aQ:=ZZ (Zoo (w.heap.size+1) 0 g.first ra g.recs.length rc W3 x0 x1 bd bh);clear af aK aZ;by_cases P:g.pcs.length=0
   ·have a7:((g.pcs.length:Int) == 0)=true:=by rw[beq_iff_eq];omega
    have J:C=(g.start i f).add j:=by rw[an.o,if_pos (.inl P)]
    have H:Hid (ZcZ d kind l (q+1)=(g.start i f).add j):=ZZ (by rw[<-ac.o];exact J)
    replace D:=ZZ (D.o J)
    clear J P
    go_wp2_with fail
    refine(U.o W3 A.o ap.o).mono ?_;rintro e W5 ⟨rfl,aH,aD,O,R⟩;clear U
    go_wp2_with fail
    refine(D.o aH aD W5 O.o R.o).mono ?_;rintro e W6 ⟨rfl,ax,au,av⟩;clear D R O;go_wp2;go_roundw
    case rel=>exact⟨q+1,ax,au,by go_num,by omega,ZZ (by rw[H.o];exact av.o)⟩
    case measure=>simp[intOf];omega
   have a7:((g.pcs.length:Int) == 0)=false:=beq_eq_false_iff_ne.2 (by omega)
   go_wp2_with fail
   refine aQ.o.mono ?_;rintro e W4 ⟨rfl,aq⟩;have aS:=ZZ (A.o.below aq);have bk:=ZZ (ap.o.below aq zL);clear aq aQ A ap x0 x1 x2;by_cases z:(f:Int)=g.first+(g.recs.length:Int)
   ·have be:((f:Int) == g.first+(g.recs.length:Int))=true:=by rw[beq_iff_eq];exact z
    have J:C=(g.start i f).add j:=by rw[an.o,if_pos (.inr z)]
    have H:Hid (ZcZ d kind l (q+1)=(g.start i f).add j):=ZZ (by rw[<-ac.o];exact J)
    replace D:=ZZ (D.o J)
    clear J P z
    go_wp2_with fail
    refine(U.o W4 aS.o bk.o).mono ?_;rintro e W5 ⟨rfl,aH,aD,O,R⟩;clear U
    go_wp2_with fail
    refine(D.o aH aD W5 O.o R.o).mono ?_;rintro e W6 ⟨rfl,ax,au,av⟩;clear D R O;go_wp2;go_roundw
    case rel=>exact⟨q+1,ax,au,by go_num,by omega,ZZ (by rw[H.o];exact av.o)⟩
    case measure=>simp[intOf];omega
   ·have be:((f:Int) == g.first+(g.recs.length:Int))=false:=beq_eq_false_iff_ne.2 z
    have H:Hid (ZcZ d kind l (q+1)=g):=ZZ (by
     rw[<-ac.o,an.o,if_neg];rintro(h | h)
     ·exact P h
     ·exact z h)
    clear P z U D;go_wp2;go_roundw
    case rel=>exact⟨q+1,_,_,by go_num,by omega,ZZ (by rw[H.o];exact aS.o)⟩
    case measure=>simp[intOf];omega
end Go.Proofs.YtnahjngbneicaaaGreatDoor
