import Derived.Test.YtnahjngbneicaaaGreatDoorStoreR
namespace Go.Proofs.YtnahjngbneicaaaGreatDoor
open _root_.Go.Proofs.Tryz
set_option maxRecDepth 100000
open Go.RowKit
def ZBU (g:Lgb) (n:Int):Option (Nat × List Rec)->Lgb
 | none=>g
 | some (f,l)=>if g.pcs.length=0∨(f:Int)=g.next then(g.start n f).add l else g
set_option maxHeartbeats 4000000 in
theorem Zsx {F:Nat->Prop} {p:Nat} {d:Dk} {N T:Nat} (kind:Int) (w:World) (h:Dsk F w p d N T) (hN:N<=1000000) (hT:T<=1000000000) (aP:0<=kind) (aU:kind<6) (aL:∀ n,(Zdc d n).1.length<=90000)
 (aT:∀ n f l,ZyF (Zdc d n).1 kind=some (f,l)->f<4611686018427387904∧∀ r ∈ l,ZaA r) (aR:∀ q,ZBf (ZcZ d kind (ZaY (Zak d) 2) q)):
 Calls prog 35 #[ptr p,.int .i64 kind] w fun e w'=>ZxZ w (Zji d kind) e w':=by
 have aJ:=ZZ (fun W (O:Below w.heap.size w W)=>Zfx 2 W (h.below O) hN (by omega) (by omega))
 have a9:=ZZ (fun n (y:I64 n) W (O:Below w.heap.size w W)=>ZpA n y W (h.below O) hT)
 have bg:=ZZ (fun n vb W (hr:Rd W vb (Zdc d n).1)=>ZlN vb _ kind W hr (aL n) aP aU)
 have HI:Hid (∀ n ∈ ZaY (Zak d) 2,I64 n):=ZZ (by
  obtain⟨L,g1,z,-⟩:=h
  exact fun n y=>by
   have:=Zej z n (List.mem_filter.1 y).1
   exact⟨by omega,by omega⟩)
 have aq:Hid ((ZaY (Zak d) 2).length<=1000000):=ZZ (by
  obtain⟨L,g1,z,g3,-⟩:=h;have h3:=Zey d d.waits.length;rw[Zgo] at h3;have:=g3.names;refine Nat.le_trans (List.length_filter_le _ _) ?_;unfold Zak;rw[List.length_map]
  omega)
 have be:=ZZ aT;have au:=ZZ aR;have a6:Zji d kind=(ZaY (Zak d) 2).foldl (logOne d kind) ZeI:=rfl;rw[a6];clear h aL aT aR a6 aP aU;obtain⟨l,hl⟩:∃ l,l=ZaY (Zak d) 2:=⟨_,rfl⟩;rw[<-hl] at aJ HI aq au ⊢;clear hl;obtain⟨t,P⟩:∃ t,t=(w.alloc (.cells #[.int .i64 0,.slice none 0 0,.slice none 0 0] 73)).alloc (.cells #[.int .i64 0,.slice none 0 0,.slice none 0 0] 73):=⟨_,rfl⟩;have ac:Hid (Below w.heap.size w t):=ZZ (by rw[P];exact((Below.refl _ _).alloc zL _).alloc (by simp) _)
 have HY:Hid (Bk 73 t w.heap.size #[.int .i64 0,.slice none 0 0,.slice none 0 0]):=ZZ (by rw[P];exact(Below.heap_alloc _ _ _ (by simp)).trans (heap_alloc_new w _))
 have HX:Hid (Bk 73 t (w.heap.size+1) #[.int .i64 0,.slice none 0 0,.slice none 0 0]):=ZZ (by rw[P];exact Zhc w _ _)
 have bk:Hid (∀ (a b c:Value) (W:World),Below w.heap.size w W->Below w.heap.size w (((W.setCell ⟨w.heap.size,0,none⟩ a).setCell ⟨w.heap.size,1,none⟩ b).setCell ⟨w.heap.size,2,none⟩ c)):=ZZ (fun a b c W O=>((O.setCell (p:=⟨w.heap.size,0,none⟩) zL a).setCell (p:=⟨w.heap.size,1,none⟩) zL b).setCell (p:=⟨w.heap.size,2,none⟩) zL c)
 go_enter func35,ntmps35
 go_upto_region 2 with fail
 rw[<-P];clear P
 go_wp2_with fail
 refine(aJ.o t ac.o).mono ?_;rintro e W1 ⟨v1,rfl,aI,ad⟩
 have aj:Hid (ZiU w t v1 l (.slice none 0 0) (.slice none 0 0) ZeI W1):=ZZ (by
  refine⟨(Zlo.mk HX.o rfl rfl rfl (Zbq.nil _ _) (World.ownsRow_nil _ _ _ _)).below ad,fun k hk=>?_,HY.o.keep (ad.block _ HY.o.lt),aI,ac.o.trans (ad.mono ac.o.size)⟩
  rcases hk with hk | hk | hk
  ·omega
  ·cases hk
  ·cases hk)
 obtain⟨a1,K,a8⟩:∃ a c,v1=.slice a l.length c:=aI.shape;subst a8;obtain⟨m,ag⟩:∃ m,m=l.length:=⟨_,rfl⟩;rw[<-ag] at aj aq;rw[<-ag];have aW:=ZZ ag;clear aI ad aJ ag HX HY ac;have bA:=aq.o;have bx:(m:Int)<=1000000:=by omega
 have aY:Hid (∀ (g:Lgb) (rv pv:Value) (W:World),g=l.foldl (logOne d kind) ZeI->ZiU w t (.slice a1 m K) l rv pv g W->ZxZ w (l.foldl (logOne d kind) ZeI) (.returned (.agg #[.int .i64 g.first,rv,pv])) (((W.setCell ⟨w.heap.size,0,none⟩ (.int .i64 g.first)).setCell ⟨w.heap.size,1,none⟩ rv).setCell ⟨w.heap.size,2,none⟩ pv)):=ZZ (fun g rv pv W he u=>by
  rw[<-he]
  have hk:∀ k,Zmv (w.heap.size+1) rv pv k->(((W.setCell ⟨w.heap.size,0,none⟩ (.int .i64 g.first)).setCell ⟨w.heap.size,1,none⟩ rv).setCell ⟨w.heap.size,2,none⟩ pv).heap[k]?=W.heap[k]?:=fun k hk=>by
   have:=u.far k hk;rw[Below.heap_setCell _ _ _ _ (by show k≠w.heap.size;omega),Below.heap_setCell _ _ _ _ (by show k≠w.heap.size;omega),Below.heap_setCell _ _ _ _ (by show k≠w.heap.size;omega)]
  refine⟨rv,pv,rfl,Zae (ZdT u.log.recs fun k I=>?_) fun k I=>hk k (.inr (.inl I)),Zae (ZdT u.log.pcs fun k I=>?_) fun k I=>hk k (.inr (.inr I)),bk.o _ _ _ _ u.old⟩
  ·have:=u.far k (.inr (.inl I))
   omega
  ·have:=u.far k (.inr (.inr I))
   omega)
 go_wp2
 go_loopw[16] (fun vi wr=>∃ (q:Nat) (rv pv:Value),vi=.int .i64 (q:Int)∧q<=m∧Hid (ZiU w t (.slice a1 m K) l rv pv (ZcZ d kind l q) wr)) (fun vi _=>m-(intOf vi).toNat)
 case atStart=>exact⟨0,_,_,rfl,Nat.zero_le _,aj⟩
 case round=>
  obtain⟨q,rv,pv,rfl,hq,j⟩:=hrel;clear aj;by_cases bh:q<m
  case neg=>
   have e:q=m:=by omega
   have HF:=ZZ (aY.o _ rv pv wr (ZlO d kind l q (e.trans aW.o)) j.o);generalize ZcZ d kind l q=g at *;obtain⟨ra,rc,ai⟩:=j.o.log.recs.shape;obtain⟨pa,pc,aB⟩:=ZbW j.o.log.pcs;subst ai aB;obtain⟨x0,-⟩:=j.o.log.blk.cell 0 rfl;obtain⟨x1,-⟩:=j.o.log.blk.cell 1 rfl;obtain⟨x2,-⟩:=j.o.log.blk.cell 2 rfl;obtain⟨z0,y0⟩:=j.o.out.cell 0 rfl;obtain⟨z1,y1⟩:=j.o.out.cell 1 rfl;obtain⟨z2,y2⟩:=j.o.out.cell 2 rfl;subst e;clear j aY;go_wp2;refine bodyPost_ret (v:=.agg #[.int .i64 g.first,.slice ra g.recs.length rc,.slice pa g.pcs.length pc]) (by simp[results,Tryz.results35,go_sem,z0,z1,z2]) rfl ?_
   exact HF.o
  have S:q<l.length:=by rw[<-aW.o];exact bh
  have bu:(q:Int)<(m:Int):=by omega
  have HS:Hid (ZcZ d kind l (q+1)=logOne d kind (ZcZ d kind l q) (l.getD q 0)):=ZZ (ZiT d kind l q S);have D:=ZZ (au.o q);have a5:=ZZ (au.o (q+1));obtain⟨nq,al⟩:∃ nq,nq=l.getD q 0:=⟨_,rfl⟩;obtain⟨ao,cap,bc,-,-,-,-,ar⟩:=j.o.row.rd HI.o
  injection bc with e1 e2 e3
  rcases ar with ar | ⟨bb,af,bm,hc⟩
  ·rw[ar] at S;simp at S
  subst e1;subst bm;have cx:=hc q S;rw[<-al] at cx HS
  have bi:Hid (I64 nq):=ZZ (HI.o nq (by
   rw[al,show l.getD q 0=l[q] by simp[List.getD,S]]
   exact List.getElem_mem _))
  clear hc e2 e3 al;have aO:=ZZ (a9.o nq bi.o wr j.o.old)
  go_wp2_with fail
  refine aO.o.mono ?_;rintro e W2 ⟨v2,rfl,av,a0⟩;have ah:=ZZ (j.o.below a0);have aX:=ZZ av.rd;obtain⟨a2,c2,bn,-⟩:=av.rd;subst bn;clear av a0 aO j cx;have aK:=ZZ (bg.o nq _ W2 aX.o);generalize (Zdc d nq).2=er at *;generalize bo:(Zdc d nq).1.length=bw at *;clear bo
  go_wp2_with fail
  refine aK.o.mono ?_;rintro e W3 ⟨x,V,Q,Y,rfl,aN,ak⟩;have A:=ZZ (ah.o.below ak);have ae:=ZZ aN;clear aN aK aX;obtain⟨sg,aD⟩:∃ sg,sg=ZyF (Zdc d nq).1 kind:=⟨_,rfl⟩;have ab:Hid (ZcZ d kind l (q+1)=ZBU (ZcZ d kind l q) nq sg):=ZZ (by rw[HS.o,aD];rfl)
  have aC:=ZZ (be.o nq);rw[<-aD] at aC ae ⊢;generalize ZcZ d kind l q=g at *;obtain⟨z,X⟩:∃ z,z=ZcZ d kind l (q+1):=⟨_,rfl⟩;have aa:=ZZ X;rw[<-X] at ab a5;clear aD HS X
  cases sg with
  | none=>
   have E:Hid (ZcZ d kind l (q+1)=g):=ZZ (by rw[<-aa.o];exact ab.o)
   simp only [Option.isSome_none];clear ak ae ah;go_wp2;go_roundw
   case rel=>exact⟨q+1,rv,pv,by go_num,by omega,ZZ (by rw[E.o];exact A.o)⟩
   case measure=>simp[intOf];omega
  | some fl=>
   obtain⟨f,i⟩:=fl;obtain⟨rfl,aQ⟩:=ae.o f i rfl;obtain⟨br,aM⟩:=aC.o f i rfl;have aS:=ZZ aM;have ax:=ZZ aQ;have aV:Hid (∀ k,Zmv (w.heap.size+1) rv pv k->k<W2.heap.size):=ZZ ah.o.log.ltF;have aG:Hid (z=if g.pcs.length=0∨(f:Int)=g.next then(g.start nq f).add i else g):=ZZ ab.o
   simp only [Option.isSome_some];clear aM aQ aC ae ab ak
   have Z:Hid (∀ W,ZiU w t (.slice (some ⟨bb,af,none⟩) m K) l rv pv g W->Zbq W W2.heap.size (.slice V Q Y) i->Calls prog 53 #[.pointer (some ⟨w.heap.size+1,0,none⟩),.int .i64 nq,.int .i64 (f:Int)] W fun e w'=>e=.returned (.tuple #[])∧∃ H J,Hid (ZiU w t (.slice (some ⟨bb,af,none⟩) m K) l H J (g.start nq f) w')∧Hid (RdR w' (.slice V Q Y) i)):=ZZ (fun W u ho=>by
    refine(Zni 73 (by decide) (by decide) (w.heap.size+1) 0 _ rv pv g nq f W u.log (by have:=D.o.pl;omega)).mono ?_
    rintro e w' ⟨rfl,hd⟩;obtain⟨H,J,aH,bj⟩:=u.did hd;refine⟨rfl,H,J,ZZ aH,ZZ (Zbq.rdF (B:=W2.heap.size) (Zae ho fun k hk=>?_) aS.o)⟩
    have ba:=World.ownsRow.lt ho k hk;refine bj.block k ba.2 fun hf=>?_
    have:=aV.o k hf
    omega)
   have C:Hid (z=(g.start nq f).add i->∀ H J W,ZiU w t (.slice (some ⟨bb,af,none⟩) m K) l H J (g.start nq f) W->RdR W (.slice V Q Y) i->Calls prog 54 #[.pointer (some ⟨w.heap.size+1,0,none⟩),.slice V Q Y] W fun e w'=>e=.returned (.tuple #[])∧∃ ay ap,Hid (ZiU w t (.slice (some ⟨bb,af,none⟩) m K) l ay ap ((g.start nq f).add i) w')):=ZZ (fun X H J W u hr=>by
    have az:=a5.o.rl;rw[X] at az
    have bz:(g.start nq f).recs.length+i.length<=9000000:=by
     have e:((g.start nq f).add i).recs=(g.start nq f).recs++i:=rfl;rw[e,List.length_append] at az;exact az
    have bq:(g.start nq f).pcs.length=g.pcs.length+1:=by
     show(g.pcs++[_]).length=_;simp
    refine(Zxq 73 (by decide) (by decide) (w.heap.size+1) 0 _ H J (g.start nq f) (.slice V Q Y) i W u.log hr (by omega) (by have:=D.o.pl;omega) (by omega) (fun p hp=>?_)).mono ?_
    ·have hp':p ∈ g.pcs++[(⟨nq,f,f⟩:Pce)]:=hp
     rcases List.mem_append.1 hp' with hp' | hp'
     ·exact D.o.st p hp'
     ·rw[List.mem_singleton.1 hp']
      show(0:Int)<=(f:Int)∧(f:Int)<=4611686018427387904;omega
    ·rintro e w' ⟨rfl,hd⟩
     obtain⟨ay,ap,aH,-⟩:=u.did hd
     exact⟨rfl,ay,ap,ZZ aH⟩)
   obtain⟨ra,rc,ai⟩:=A.o.log.recs.shape;obtain⟨pa,pc,aB⟩:=ZbW A.o.log.pcs;subst ai aB;obtain⟨x0,-⟩:=A.o.log.blk.cell 0 rfl;obtain⟨x1,-⟩:=A.o.log.blk.cell 1 rfl;obtain⟨x2,-⟩:=A.o.log.blk.cell 2 rfl;have bf:=D.o.f0;have bB:=D.o.f1;have bt:=D.o.rl;have bv:(g.pcs.length:Int)<=900000:=by have:=D.o.pl;omega
   have a7:g.first+(g.recs.length:Int)<=9000000000000000000:=by omega
   have aZ:=ZZ (Zoo (w.heap.size+1) 0 g.first ra g.recs.length rc W3 x0 x1 bf a7);clear ah aV aS;by_cases U:g.pcs.length=0
   ·have bl:((g.pcs.length:Int) == 0)=true:=by rw[beq_iff_eq];omega
    have G:z=(g.start nq f).add i:=by rw[aG.o,if_pos (.inl U)]
    have E:Hid (ZcZ d kind l (q+1)=(g.start nq f).add i):=ZZ (by rw[<-aa.o];exact G)
    replace C:=ZZ (C.o G)
    clear G U
    go_wp2_with fail
    refine(Z.o W3 A.o ax.o).mono ?_;rintro e W5 ⟨rfl,am,aw,M,R⟩;clear Z
    go_wp2_with fail
    refine(C.o am aw W5 M.o R.o).mono ?_;rintro e W6 ⟨rfl,aF,an,aA⟩;clear C R M;go_wp2;go_roundw
    case rel=>exact⟨q+1,aF,an,by go_num,by omega,ZZ (by rw[E.o];exact aA.o)⟩
    case measure=>simp[intOf];omega
   have bl:((g.pcs.length:Int) == 0)=false:=beq_eq_false_iff_ne.2 (by omega)
   go_wp2_with fail
   refine aZ.o.mono ?_;rintro e W4 ⟨rfl,aE⟩;have a4:=ZZ (A.o.below aE);have bp:=ZZ (ax.o.below aE zL);clear aE aZ A ax x0 x1 x2;by_cases y:(f:Int)=g.first+(g.recs.length:Int)
   ·have bd:((f:Int) == g.first+(g.recs.length:Int))=true:=by rw[beq_iff_eq];exact y
    have G:z=(g.start nq f).add i:=by rw[aG.o,if_pos (.inr y)]
    have E:Hid (ZcZ d kind l (q+1)=(g.start nq f).add i):=ZZ (by rw[<-aa.o];exact G)
    replace C:=ZZ (C.o G)
    clear G U y
    go_wp2_with fail
    refine(Z.o W4 a4.o bp.o).mono ?_;rintro e W5 ⟨rfl,am,aw,M,R⟩;clear Z
    go_wp2_with fail
    refine(C.o am aw W5 M.o R.o).mono ?_;rintro e W6 ⟨rfl,aF,an,aA⟩;clear C R M;go_wp2;go_roundw
    case rel=>exact⟨q+1,aF,an,by go_num,by omega,ZZ (by rw[E.o];exact aA.o)⟩
    case measure=>simp[intOf];omega
   ·have bd:((f:Int) == g.first+(g.recs.length:Int))=false:=beq_eq_false_iff_ne.2 y
    have E:Hid (ZcZ d kind l (q+1)=g):=ZZ (by
     rw[<-aa.o,aG.o,if_neg];rintro(h | h)
     ·exact U h
     ·exact y h)
    clear U y Z C;go_wp2;go_roundw
    case rel=>exact⟨q+1,_,_,by go_num,by omega,ZZ (by rw[E.o];exact a4.o)⟩
    case measure=>simp[intOf];omega
end Go.Proofs.YtnahjngbneicaaaGreatDoor
