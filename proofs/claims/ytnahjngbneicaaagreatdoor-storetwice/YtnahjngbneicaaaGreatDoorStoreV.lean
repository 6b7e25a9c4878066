import Derived.Test.YtnahjngbneicaaaGreatDoorStoreU
namespace Go.Proofs.YtnahjngbneicaaaGreatDoor
open _root_.Go.Proofs.Tryz
set_option maxRecDepth 100000
open Go.RowKit
def Zdl (d:Dk) (kind:Int) (l:List Int) (q:Nat):List Qv:=(l.take q).foldl (Zao d kind) [ZaC kind]
theorem Zkh (d:Dk) (kind:Int) (l:List Int) (q:Nat) (a:q<l.length):Zdl d kind l (q+1)=Zao d kind (Zdl d kind l q) (l.getD q 0):=by
 unfold Zdl;rw[List.take_add_one,List.foldl_append,show l.getD q 0=l[q] by simp[List.getD,a]]
 simp[a]
theorem Znp (d:Dk) (kind:Int) (l:List Int) (q:Nat) (a:q=l.length):Zdl d kind l q=l.foldl (Zao d kind) [ZaC kind]:=by
 subst a;unfold Zdl;rw[List.take_length]
theorem Zpn (d:Dk) (kind:Int) (l:List Qv) (n:Int):(Zao d kind l n).length<=l.length+1:=by
 unfold Zao;split
 ·simp
 ·omega
theorem ZiD (d:Dk) (kind:Int) (l:List Int):∀ q,q<=l.length->(Zdl d kind l q).length<=q+1
 | 0,_=>by simp[Zdl]
 | q+1,h=>by
  rw[Zkh d kind l q (by omega)]
  have:=Zpn d kind (Zdl d kind l q) (l.getD q 0);have:=ZiD d kind l q (by omega)
  omega
def Znq (w:World) (l:List Qv) (e:Ending) (w':World):Prop:=
 ∃ bv bs I v0 l0,e=.returned bv∧bs.map Prod.fst=l∧Jr w I v0 l0 bv bs w'
set_option maxHeartbeats 4000000 in
theorem Zlx {F:Nat->Prop} {p:Nat} {d:Dk} {N T:Nat} (kind:Int) (w:World) (h:Dsk F w p d N T) (hN:N<=1000000) (hT:T<=1000000000) (aw:∀ n,(Z1 d n).1.length<=90000):
 Calls prog 34 #[ptr p,.int .i64 kind] w fun e w'=>Znq w (Yd d kind) e w':=by
 have ad:=ZZ (fun W (hb:Below w.heap.size w W)=>Zci 3 W (h.below hb) hN (by omega) (by omega))
 have aT:=ZZ (fun n (U:I64 n) W (hb:Below w.heap.size w W)=>Zmk n U W (h.below hb) hT)
 have aQ:=ZZ (fun n vb W (hr:Rd W vb (Z1 d n).1)=>Zpe vb _ W hr (by have:=aw n;omega))
 have HI:Hid (∀ n ∈ Xg (Ql d) 3,I64 n):=ZZ (by
  obtain⟨L,Z,S,-⟩:=h
  exact fun n U=>by
   have:=ZaZ S n (List.mem_filter.1 U).1
   exact⟨by omega,by omega⟩)
 have ak:Hid ((Xg (Ql d) 3).length<=1000000):=ZZ (by
  obtain⟨L,Z,S,g3,-⟩:=h;have h3:=Zbn d d.waits.length;rw[ZcY] at h3;have:=g3.names;refine Nat.le_trans (List.length_filter_le _ _) ?_;unfold Ql;rw[List.length_map]
  omega)
 have aD:Yd d kind=(Xg (Ql d) 3).foldl (Zao d kind) [ZaC kind]:=rfl;rw[aD];clear h aw aD;obtain⟨l,hl⟩:∃ l,l=Xg (Ql d) 3:=⟨_,rfl⟩;rw[<-hl] at ad HI ak ⊢;clear hl;have aJ:=ZZ (Zsr kind w)
 go_enter func34,ntmps34
 go_wp2_with fail
 refine aJ.o.mono ?_;rintro e f ⟨vl,rfl,ab,ay,aK,az,E⟩;obtain⟨la,lc,aW,-⟩:=id ab;subst aW;obtain⟨i,J⟩:∃ i:Qv × Value × Value,i=(ZaC kind,.slice la (Jo kind).L.length lc,.slice none 0 0):=⟨_,rfl⟩;obtain⟨z,C⟩:∃ z,z=f.alloc (.cells #[.int .i64 0,.int .i64 (Jo kind).kind,.slice la (Jo kind).L.length lc,.bool (Jo kind).shut,.int .i64 (Jo kind).eng,.slice none 0 0] 41):=⟨_,rfl⟩;have M:Hid (Below w.heap.size w z):=ZZ (by rw[C];exact E.alloc E.size _)
 have av:Hid (Below f.heap.size f z):=ZZ (by rw[C];exact Jc _ _)
 have aZ:z.heap.size=f.heap.size+1:=by rw[C];simp
 have aL:Hid (z.ownsRow 0 41 6 (.slice (some ⟨f.heap.size,0,none⟩) 1 1) [i].length (Xh [i])):=ZZ (by
  have y:=World.ownsRow_lit (base:=0) (e:=41) f (snC i) 1 (Nat.zero_le _) (by unfold maxLen;omega) (size:=6) rfl
  rw[C];have h8:Xh [i]=(snC i).toList:=by simp[Xh]
  rw[h8];rw[J] at y ⊢
  exact y)
 have aH:Hid (SnR f i):=ZZ (by rw[J];exact⟨ab,RdE.nil _,ay,aK,(Qk (by decide) (by decide):I64 0)⟩)
 have aN:Hid (ZlB (fun k=>w.heap.size<=k∧k<f.heap.size) i):=ZZ (by
  rw[J];refine⟨?_,.inl rfl⟩;rcases ab.block with hb0 | ⟨-,k,b,H⟩
  ·exact .inl hb0
  ·refine .inr fun g t=>⟨az g t,?_⟩
   have al:(Value.slice la (Jo kind).L.length lc).ownBlock=some g:=t;rw[al] at b;obtain rfl:=Option.some.inj b
   exact H)
 have aF:Hid (i.1=ZaC kind):=ZZ (by rw[J])
 have D:Hid (w.heap.size<=f.heap.size):=ZZ E.size;clear ab ay aK az E aJ J;generalize (Jo kind).kind=sk at *;generalize (Jo kind).L.length=sl at *;generalize (Jo kind).shut=ss at *;generalize (Jo kind).eng=se at *
 go_upto_region 2 with fail
 rw[<-C];clear C
 go_wp2_with fail
 refine(ad.o z M.o).mono ?_;rintro e W3 ⟨v3,rfl,aj,O⟩
 have an:Hid (Jr w (fun k=>w.heap.size<=k∧k<f.heap.size) v3 l (.slice (some ⟨f.heap.size,0,none⟩) 1 1) [i] W3):=ZZ (by
  have a7:=O.size;have a9:=D.o;refine⟨Qh aL.o fun k b=>O.block k ?_,fun k b=>?_,fun x m=>?_,fun x m=>?_,fun k b=>b.1,fun k b=>by omega,fun k b e=>?_,aj.mono M.o.size,M.o.trans (O.mono M.o.size)⟩
  ·have y:f.heap.size=k:=Option.some.inj b
   omega
  ·have y:f.heap.size=k:=Option.some.inj b
   omega
  ·rw[List.mem_singleton.1 m]
   exact(aH.o.below av.o zL).below O zL
  ·rw[List.mem_singleton.1 m]
   exact aN.o
  ·have y:f.heap.size=k:=Option.some.inj e
   omega)
 obtain⟨a3,c3,aU⟩:∃ a c,v3=.slice a l.length c:=aj.shape;subst aU;obtain⟨j,aa⟩:∃ j,j=l.length:=⟨_,rfl⟩;rw[<-aa] at an ak;rw[<-aa];have aq:=ZZ aa;have bd:=ak.o;have a8:(j:Int)<=1000000:=by omega
 clear aj O ad aa aH aN aL av M D aZ;go_wp2
 go_loopw[5,19] (fun vb vi wr=>∃ (q:Nat) (a:Option Addr) (n c:Nat) (I:Nat->Prop) (bs:List (Qv × Value × Value)),vi=.int .i64 (q:Int)∧q<=j∧vb=.slice a n c∧Hid (bs.map Prod.fst=Zdl d kind l q)∧Hid (Jr w I (.slice a3 j c3) l (.slice a n c) bs wr)) (fun _ vi _=>j-(intOf vi).toNat)
 case atStart=>exact⟨0,_,_,_,_,_,rfl,Nat.zero_le _,rfl,ZZ (by rw[List.map_cons,aF.o];rfl),an⟩
 case round=>
  obtain⟨q,a,n,c,I,bs,rfl,hq,rfl,P,A⟩:=hrel;clear an aF;by_cases H:q<j
  case neg=>
   have e:q=j:=by omega
   have HF:Hid (Znq w (l.foldl (Zao d kind) [ZaC kind]) (.returned (.slice a n c)) wr):=ZZ ⟨_,bs,I,_,_,rfl,P.o.trans (Znp d kind l q (e.trans aq.o)),A.o⟩;subst e;clear A P;go_wp2
   try rw[Exit.noGoto_ret]
   go_ret;exact HF.o
  have K:q<l.length:=by rw[<-aq.o];exact H
  have ba:(q:Int)<(j:Int):=by omega
  have HS:Hid (Zdl d kind l (q+1)=Zao d kind (Zdl d kind l q) (l.getD q 0)):=ZZ (Zkh d kind l q K)
  have a5:Hid (bs.length<=10000000):=ZZ (by
   have y:=ZiD d kind l q (by omega)
   rw[<-P.o,List.length_map] at y
   omega)
  obtain⟨nq,af⟩:∃ nq,nq=l.getD q 0:=⟨_,rfl⟩;obtain⟨ao,cap,a2,-,-,-,-,ap⟩:=A.o.nms.rd HI.o
  injection a2 with e1 e2 e3
  rcases ap with ap | ⟨bb,aV,a6,hc⟩
  ·rw[ap] at K;simp at K
  subst e1;subst a6;have cx:=hc q K;rw[<-af] at cx HS
  have aX:Hid (I64 nq):=ZZ (HI.o nq (by
   rw[af,show l.getD q 0=l[q] by simp[List.getD,K]]
   exact List.getElem_mem _))
  clear hc e2 e3 af;have ax:=ZZ (aT.o nq aX.o wr A.o.old)
  go_wp2_with fail
  refine ax.o.mono ?_;rintro e W4 ⟨v4,rfl,ag,aA⟩;have aP:=ZZ (A.o.below aA);have ar:=ZZ ag.rd;obtain⟨a4,c4,aS,-⟩:=ag.rd;subst aS;clear ag aA ax A cx;have aM:=ZZ (aQ.o nq _ W4 ar.o);have D:Hid (Zdl d kind l (q+1)=if(ZnQ (Z1 d nq).1).2=0∧(ZnQ (Z1 d nq).1).1.st.kind=kind then Zdl d kind l q++[(ZnQ (Z1 d nq).1).1] else Zdl d kind l q):=ZZ (by rw[HS.o];rfl)
  generalize (Z1 d nq).2=er at *;generalize ZnQ (Z1 d nq).1=dn at *;generalize aY:(Z1 d nq).1.length=bc at *;obtain⟨⟨ix,⟨kd,L,Y,eg⟩,tb⟩,ac⟩:=dn;clear aY
  dsimp only at D
  go_wp2_with fail
  refine aM.o.mono ?_;rintro e v ⟨vx,vu,rfl,R,r2,r3,Q,r5,Z,S,ae⟩
  dsimp only at R r2 r3 Q r5 ⊢
  have aG:Hid (SnR v (⟨ix,⟨kd,L,Y,eg⟩,tb⟩,vx,vu)):=ZZ ⟨R,Q,r2,r3,r5⟩
  have au:Hid (ZlB (fun k=>W4.heap.size<=k∧k<v.heap.size) (⟨ix,⟨kd,L,Y,eg⟩,tb⟩,vx,vu)):=ZZ (by
   refine⟨?_,?_⟩
   ·rcases R.block with hb0 | ⟨-,k,b,H⟩
    ·exact .inl hb0
    ·refine .inr fun g t=>⟨Z g t,?_⟩
     have al:vx.ownBlock=some g:=t;rw[al] at b;obtain rfl:=Option.some.inj b;exact H
   ·rcases Q.block with hb0 | hb0
    ·exact .inl hb0
    ·exact .inr fun g t=>⟨S g t,hb0 g t⟩)
  have aE:=ZZ ae;have aR:=ZZ (aP.o.below ae);obtain⟨xa,xc,m,-⟩:=id R;obtain⟨ua,uc,hu⟩:=Q.shape;subst m hu;clear aM ar R r2 r3 Q r5 Z S ae;generalize L.length=xl at *;generalize tb.length=ul at *;obtain⟨x,m⟩:∃ x:Qv × Value × Value,x=(⟨ix,⟨kd,L,Y,eg⟩,tb⟩,.slice xa xl xc,.slice ua ul uc):=⟨_,rfl⟩;have HX:=ZZ m;rw[<-m] at aG au;clear m;have V:Hid (∀ X,Jr w I (.slice (some ⟨bb,aV,none⟩) j c3) l (.slice a n c) bs (v.alloc X)):=ZZ (fun X=>aR.o.below (Jc _ _))
  have ai:Hid (¬ (ac=0∧kd=kind)->bs.map Prod.fst=Zdl d kind l (q+1)):=ZZ (fun U=>by rw[P.o,D.o,if_neg U])
  by_cases u:ac=0
  case neg=>
   have hb0:(ac == 0)=false:=beq_eq_false_iff_ne.2 u;have G:=ZZ (ai.o fun hh=>u hh.1)
   clear u;go_wp2;go_roundw
   case rel=>exact⟨q+1,a,n,c,I,bs,by go_num,by omega,rfl,G,ZZ (V.o _)⟩
   case measure=>simp[intOf];omega
  have hb0:(ac == 0)=true:=by rw[beq_iff_eq];exact u
  by_cases B:kd=kind
  case neg=>
   have E:(kd == kind)=false:=beq_eq_false_iff_ne.2 B;have G:=ZZ (ai.o fun hh=>B hh.2)
   clear u B;go_wp2;go_roundw
   case rel=>exact⟨q+1,a,n,c,I,bs,by go_num,by omega,rfl,G,ZZ (V.o _)⟩
   case measure=>simp[intOf];omega
  have E:(kd == kind)=true:=by rw[beq_iff_eq];exact B
  have G:Hid ((bs++[x]).map Prod.fst=Zdl d kind l (q+1)):=ZZ (by
   rw[D.o,if_pos ⟨u,B⟩,List.map_append,P.o,HX.o]
   rfl)
  have a0:Hid (SlX x):=ZZ (by rw[HX.o];exact⟨_,_,_,_,_,_,rfl,rfl⟩)
  have aO:Hid (snC x=#[.int .i64 ix,.int .i64 kd,.slice xa xl xc,.bool Y,.int .i64 eg,.slice ua ul uc]):=ZZ (by rw[HX.o];rfl)
  clear u B
  go_wp2_with(at_builtin;refine(fun(h:True->_)=>h trivial) ?_)
  intro _;rw[<-aO.o];have aC:Hid (Value.slice (some ⟨v.heap.size+1,0,none⟩) 1 1=.slice (some ⟨(v.alloc (.cells (snC x) 41)).heap.size,0,none⟩) 1 1):=ZZ (by simp)
  refine Zgw (v.alloc (.cells (snC x) 41)) rfl _ _ rfl (.slice a n c) bs rfl (V.o _).row x a0.o (by exact aC.o) a5.o ?_
  intro v7 W7 am aB aI;have a1:=ZZ (aP.o.add (aE.o.trans ((Jc _ _).mono aE.o.size)) x (aG.o.below (Jc v (.cells (snC x) 41)) zL) (au.o.mono fun k b=>⟨b.1,by simp;omega⟩) am aB aI)
  obtain⟨y1,y3,hy⟩:=Zg am;generalize (bs++[x]).length=y2 at hy;subst hy;clear am aB aI aC aO V ai;go_wp2;go_roundw
  case rel=>exact⟨q+1,y1,y2,y3,_,bs++[x],by go_num,by omega,rfl,G,a1⟩
  case measure=>simp[intOf];omega
end Go.Proofs.YtnahjngbneicaaaGreatDoor
