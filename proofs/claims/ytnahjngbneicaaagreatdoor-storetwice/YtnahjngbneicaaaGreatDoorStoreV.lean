import Derived.Test.YtnahjngbneicaaaGreatDoorStoreU
import Derived.WalkMore
namespace Go.Proofs.YtnahjngbneicaaaGreatDoor
open _root_.Go.Proofs.Tryz
set_option maxRecDepth 100000
open Go.RowKit
def ZgB (d:Dk) (kind:Int) (l:List Int) (q:Nat):List ZaW:=(l.take q).foldl (Zdi d kind) [ZdG kind]
theorem Znx (d:Dk) (kind:Int) (l:List Int) (q:Nat) (a:q<l.length):ZgB d kind l (q+1)=Zdi d kind (ZgB d kind l q) (l.getD q 0):=by
 unfold ZgB;rw[List.take_add_one,List.foldl_append,show l.getD q 0=l[q] by simp[List.getD,a]]
 simp[a]
theorem ZqF (d:Dk) (kind:Int) (l:List Int) (q:Nat) (a:q=l.length):ZgB d kind l q=l.foldl (Zdi d kind) [ZdG kind]:=by
 subst a;unfold ZgB;rw[List.take_length]
theorem ZsD (d:Dk) (kind:Int) (l:List ZaW) (n:Int):(Zdi d kind l n).length<=l.length+1:=by
 unfold Zdi;split
 ·simp
 ·omega
theorem ZlT (d:Dk) (kind:Int) (l:List Int):∀ q,q<=l.length->(ZgB d kind l q).length<=q+1
 | 0,_=>by simp[ZgB]
 | q+1,h=>by
  rw[Znx d kind l q (by omega)]
  have:=ZsD d kind (ZgB d kind l q) (l.getD q 0);have:=ZlT d kind l q (by omega)
  omega
def ZqG (w:World) (l:List ZaW) (e:Ending) (w':World):Prop:=
 ∃ bv bs I v0 l0,e=.returned bv∧bs.map Prod.fst=l∧Zdb w I v0 l0 bv bs w'
set_option maxHeartbeats 4000000 in
theorem ZoN {F:Nat->Prop} {p:Nat} {d:Dk} {N T:Nat} (kind:Int) (w:World) (h:Dsk F w p d N T) (hN:N<=1000000) (hT:T<=1000000000) (aw:∀ n,(Zdc d n).1.length<=90000):
 Calls prog 34 #[ptr p,.int .i64 kind] w fun e w'=>ZqG w (Zbr d kind) e w':=by
 have am:=ZZ (fun W (hb:Below w.heap.size w W)=>Zfx 3 W (h.below hb) hN (by omega) (by omega))
 have aU:=ZZ (fun n (H:I64 n) W (hb:Below w.heap.size w W)=>ZpA n H W (h.below hb) hT)
 have aQ:=ZZ (fun n vb W (hr:Rd W vb (Zdc d n).1)=>Zsu vb _ W hr (by have:=aw n;omega))
 have HI:Hid (∀ n ∈ ZaY (Zak d) 3,I64 n):=ZZ (by
  obtain⟨L,g1,K,-⟩:=h
  exact fun n H=>by
   have:=Zej K n (List.mem_filter.1 H).1
   exact⟨by omega,by omega⟩)
 have ak:Hid ((ZaY (Zak d) 3).length<=1000000):=ZZ (by
  obtain⟨L,g1,K,g3,-⟩:=h;have h3:=Zey d d.waits.length;rw[Zgo] at h3;have:=g3.names;refine Nat.le_trans (List.length_filter_le _ _) ?_;unfold Zak;rw[List.length_map]
  omega)
 have aC:Zbr d kind=(ZaY (Zak d) 3).foldl (Zdi d kind) [ZdG kind]:=rfl;rw[aC];clear h aw aC;obtain⟨l,hl⟩:∃ l,l=ZaY (Zak d) 3:=⟨_,rfl⟩;rw[<-hl] at am HI ak ⊢;clear hl;have aJ:=ZZ (ZvH kind w)
 go_enter func34,ntmps34
 go_wp2_with fail
 refine aJ.o.mono ?_;rintro e f ⟨vl,rfl,ab,aM,aK,av,B⟩;obtain⟨la,lc,aW,-⟩:=id ab;subst aW;obtain⟨j,Q⟩:∃ j:ZaW × Value × Value,j=(ZdG kind,.slice la (Zdd kind).L.length lc,.slice none 0 0):=⟨_,rfl⟩;obtain⟨z,E⟩:∃ z,z=f.alloc (.cells #[.int .i64 0,.int .i64 (Zdd kind).kind,.slice la (Zdd kind).L.length lc,.bool (Zdd kind).shut,.int .i64 (Zdd kind).eng,.slice none 0 0] 41):=⟨_,rfl⟩;have M:Hid (Below w.heap.size w z):=ZZ (by rw[E];exact B.alloc B.size _)
 have au:Hid (Below f.heap.size f z):=ZZ (by rw[E];exact ZcW _ _)
 have a0:z.heap.size=f.heap.size+1:=by rw[E];simp
 have aG:Hid (z.ownsRow 0 41 6 (.slice (some ⟨f.heap.size,0,none⟩) 1 1) [j].length (ZaN [j])):=ZZ (by
  have y:=World.ownsRow_lit (base:=0) (e:=41) f (snC j) 1 (Nat.zero_le _) (by unfold maxLen;omega) (size:=6) rfl
  rw[E];have h8:ZaN [j]=(snC j).toList:=by simp[ZaN]
  rw[h8];rw[Q] at y ⊢
  exact y)
 have ax:Hid (SnR f j):=ZZ (by rw[Q];exact⟨ab,RdE.nil _,aM,aK,(Zai (by decide) (by decide):I64 0)⟩)
 have aE:Hid (ZoR (fun k=>w.heap.size<=k∧k<f.heap.size) j):=ZZ (by
  rw[Q];refine⟨?_,.inl rfl⟩;rcases ab.block with hb0 | ⟨-,k,b,R⟩
  ·exact .inl hb0
  ·refine .inr fun g u=>⟨av g u,?_⟩
   have af:(Value.slice la (Zdd kind).L.length lc).ownBlock=some g:=u;rw[af] at b;obtain rfl:=Option.some.inj b
   exact R)
 have aB:Hid (j.1=ZdG kind):=ZZ (by rw[Q])
 have C:Hid (w.heap.size<=f.heap.size):=ZZ B.size;clear ab aM aK av B aJ Q;generalize (Zdd kind).kind=sk at *;generalize (Zdd kind).L.length=sl at *;generalize (Zdd kind).shut=ss at *;generalize (Zdd kind).eng=se at *
 go_upto_region 2 with fail
 rw[<-E];clear E
 go_wp2_with fail
 refine(am.o z M.o).mono ?_;rintro e W3 ⟨v3,rfl,an,P⟩
 have ae:Hid (Zdb w (fun k=>w.heap.size<=k∧k<f.heap.size) v3 l (.slice (some ⟨f.heap.size,0,none⟩) 1 1) [j] W3):=ZZ (by
  have a8:=P.size;have a2:=C.o;refine⟨Zae aG.o fun k b=>P.block k ?_,fun k b=>?_,fun x t=>?_,fun x t=>?_,fun k b=>b.1,fun k b=>by omega,fun k b e=>?_,an.mono M.o.size,M.o.trans (P.mono M.o.size)⟩
  ·have y:f.heap.size=k:=Option.some.inj b
   omega
  ·have y:f.heap.size=k:=Option.some.inj b
   omega
  ·rw[List.mem_singleton.1 t]
   exact(ax.o.below au.o zL).below P zL
  ·rw[List.mem_singleton.1 t]
   exact aE.o
  ·have y:f.heap.size=k:=Option.some.inj e
   omega)
 obtain⟨a3,c3,aR⟩:∃ a c,v3=.slice a l.length c:=an.shape;subst aR;obtain⟨m,ac⟩:∃ m,m=l.length:=⟨_,rfl⟩;rw[<-ac] at ae ak;rw[<-ac];have aF:=ZZ ac;have a5:=ak.o;have a6:(m:Int)<=1000000:=by omega
 clear an P am ac ax aE aG au M C a0;go_wp2
 go_loopw[5,19] (fun vb vi wr=>∃ (q:Nat) (a:Option Addr) (n c:Nat) (I:Nat->Prop) (bs:List (ZaW × Value × Value)),vi=.int .i64 (q:Int)∧q<=m∧vb=.slice a n c∧Hid (bs.map Prod.fst=ZgB d kind l q)∧Hid (Zdb w I (.slice a3 m c3) l (.slice a n c) bs wr)) (fun _ vi _=>m-(intOf vi).toNat)
 case atStart=>exact⟨0,_,_,_,_,_,rfl,Nat.zero_le _,rfl,ZZ (by rw[List.map_cons,aB.o];rfl),ae⟩
 case round=>
  obtain⟨q,a,n,c,I,bs,rfl,hq,rfl,O,G⟩:=hrel;clear ae aB;by_cases R:q<m
  case neg=>
   have e:q=m:=by omega
   have HF:Hid (ZqG w (l.foldl (Zdi d kind) [ZdG kind]) (.returned (.slice a n c)) wr):=ZZ ⟨_,bs,I,_,_,rfl,O.o.trans (ZqF d kind l q (e.trans aF.o)),G.o⟩;subst e;clear G O;go_wp2
   try rw[Exit.noGoto_ret]
   go_ret;exact HF.o
  have U:q<l.length:=by rw[<-aF.o];exact R
  have a7:(q:Int)<(m:Int):=by omega
  have HS:Hid (ZgB d kind l (q+1)=Zdi d kind (ZgB d kind l q) (l.getD q 0)):=ZZ (Znx d kind l q U)
  have aY:Hid (bs.length<=10000000):=ZZ (by
   have y:=ZlT d kind l q (by omega)
   rw[<-O.o,List.length_map] at y
   omega)
  obtain⟨i,ag⟩:∃ i,i=l.getD q 0:=⟨_,rfl⟩;obtain⟨ao,cap,aZ,-,-,-,-,al⟩:=G.o.nms.rd HI.o
  injection aZ with e1 e2 e3
  rcases al with al | ⟨bb,off,hae,hc⟩
  ·rw[al] at U;simp at U
  subst e1;subst hae;have cx:=hc q U;rw[<-ag] at cx HS
  have aT:Hid (I64 i):=ZZ (HI.o i (by
   rw[ag,show l.getD q 0=l[q] by simp[List.getD,U]]
   exact List.getElem_mem _))
  clear hc e2 e3 ag;have ar:=ZZ (aU.o i aT.o wr G.o.old)
  go_wp2_with fail
  refine ar.o.mono ?_;rintro e W4 ⟨v4,rfl,aj,aD⟩;have az:=ZZ (G.o.below aD);have ay:=ZZ aj.rd;obtain⟨a4,c4,aX,-⟩:=aj.rd;subst aX;clear aj aD ar G cx;have aq:=ZZ (aQ.o i _ W4 ay.o);have C:Hid (ZgB d kind l (q+1)=if(Zrg (Zdc d i).1).2=0∧(Zrg (Zdc d i).1).1.st.kind=kind then ZgB d kind l q++[(Zrg (Zdc d i).1).1] else ZgB d kind l q):=ZZ (by rw[HS.o];rfl)
  generalize (Zdc d i).2=er at *;generalize Zrg (Zdc d i).1=dn at *;generalize aS:(Zdc d i).1.length=bl2 at *;obtain⟨⟨ix,⟨kd,L,sh,eg⟩,Y⟩,Z⟩:=dn;clear aS
  dsimp only at C
  go_wp2_with fail
  refine aq.o.mono ?_;rintro e A ⟨vx,vu,rfl,J,r2,r3,S,r5,g1,K,ai⟩
  dsimp only at J r2 r3 S r5 ⊢
  have aH:Hid (SnR A (⟨ix,⟨kd,L,sh,eg⟩,Y⟩,vx,vu)):=ZZ ⟨J,S,r2,r3,r5⟩
  have aO:Hid (ZoR (fun k=>W4.heap.size<=k∧k<A.heap.size) (⟨ix,⟨kd,L,sh,eg⟩,Y⟩,vx,vu)):=ZZ (by
   refine⟨?_,?_⟩
   ·rcases J.block with hb0 | ⟨-,k,b,R⟩
    ·exact .inl hb0
    ·refine .inr fun g u=>⟨g1 g u,?_⟩
     have af:vx.ownBlock=some g:=u;rw[af] at b;obtain rfl:=Option.some.inj b;exact R
   ·rcases S.block with hb0 | hb0
    ·exact .inl hb0
    ·exact .inr fun g u=>⟨K g u,hb0 g u⟩)
  have aL:=ZZ ai;have aP:=ZZ (az.o.below ai);obtain⟨xa,xc,t,-⟩:=id J;obtain⟨ua,uc,hu⟩:=S.shape;subst t hu;clear aq ay J r2 r3 S r5 g1 K ai;generalize L.length=xl at *;generalize Y.length=ul at *;obtain⟨x,t⟩:∃ x:ZaW × Value × Value,x=(⟨ix,⟨kd,L,sh,eg⟩,Y⟩,.slice xa xl xc,.slice ua ul uc):=⟨_,rfl⟩;have HX:=ZZ t;rw[<-t] at aH aO;clear t;have aa:Hid (∀ X,Zdb w I (.slice (some ⟨bb,off,none⟩) m c3) l (.slice a n c) bs (A.alloc X)):=ZZ (fun X=>aP.o.below (ZcW _ _))
  have ad:Hid (¬ (Z=0∧kd=kind)->bs.map Prod.fst=ZgB d kind l (q+1)):=ZZ (fun H=>by rw[O.o,C.o,if_neg H])
  by_cases v:Z=0
  case neg=>
   have hb0:(Z == 0)=false:=beq_eq_false_iff_ne.2 v;have V:=ZZ (ad.o fun hh=>v hh.1)
   clear v;go_wp2;go_roundw
   case rel=>exact⟨q+1,a,n,c,I,bs,by go_num,by omega,rfl,V,ZZ (aa.o _)⟩
   case measure=>simp[intOf];omega
  have hb0:(Z == 0)=true:=by rw[beq_iff_eq];exact v
  by_cases D:kd=kind
  case neg=>
   have B:(kd == kind)=false:=beq_eq_false_iff_ne.2 D;have V:=ZZ (ad.o fun hh=>D hh.2)
   clear v D;go_wp2;go_roundw
   case rel=>exact⟨q+1,a,n,c,I,bs,by go_num,by omega,rfl,V,ZZ (aa.o _)⟩
   case measure=>simp[intOf];omega
  have B:(kd == kind)=true:=by rw[beq_iff_eq];exact D
  have V:Hid ((bs++[x]).map Prod.fst=ZgB d kind l (q+1)):=ZZ (by
   rw[C.o,if_pos ⟨v,D⟩,List.map_append,O.o,HX.o]
   rfl)
  have aV:Hid (SlX x):=ZZ (by rw[HX.o];exact⟨_,_,_,_,_,_,rfl,rfl⟩)
  have ap:Hid (snC x=#[.int .i64 ix,.int .i64 kd,.slice xa xl xc,.bool sh,.int .i64 eg,.slice ua ul uc]):=ZZ (by rw[HX.o];rfl)
  clear v D
  go_wp2_with(at_builtin;refine(fun(h:True->_)=>h trivial) ?_)
  intro _;rw[<-ap.o];have aN:Hid (Value.slice (some ⟨A.heap.size+1,0,none⟩) 1 1=.slice (some ⟨(A.alloc (.cells (snC x) 41)).heap.size,0,none⟩) 1 1):=ZZ (by simp)
  refine ZjM (A.alloc (.cells (snC x) 41)) rfl _ _ rfl (.slice a n c) bs rfl (aa.o _).row x aV.o (by exact aN.o) aY.o ?_
  intro v7 W7 ah aI aA;have a1:=ZZ (az.o.add (aL.o.trans ((ZcW _ _).mono aL.o.size)) x (aH.o.below (ZcW A (.cells (snC x) 41)) zL) (aO.o.mono fun k b=>⟨b.1,by simp;omega⟩) ah aI aA)
  obtain⟨y1,y3,hy⟩:=ZbW ah;generalize (bs++[x]).length=y2 at hy;subst hy;clear ah aI aA aN ap aa ad;go_wp2;go_roundw
  case rel=>exact⟨q+1,y1,y2,y3,_,bs++[x],by go_num,by omega,rfl,V,a1⟩
  case measure=>simp[intOf];omega
end Go.Proofs.YtnahjngbneicaaaGreatDoor
