import Derived.Test.YtnahjngbneicaaaGreatDoorStoreU
namespace Go.Proofs.YtnahjngbneicaaaGreatDoor
open _root_.Go.Proofs.Tryz
set_option maxRecDepth 100000
open Go.RowKit
def Zdl (d:Dk) (kind:Int) (l:List Int) (q:Nat):List Qv:=(l.take q).foldl (Zao d kind) [ZaC kind]
theorem Zkh (d:Dk) (kind:Int) (l:List Int) (q:Nat) (a:q<l.length):Zdl d kind l (q+1)=Zao d kind (Zdl d kind l q) (l.getD q 0):=by
 unfold Zdl;rw[List.take_add_one,List.foldl_append,show l.getD q 0=l[q] by simp[List.getD,a]]
 simp[a]
theorem Znp (d:Dk) (kind:Int) (l:List Int) (q:Nat) (a:q=l.length):Zdl d kind l q=l.foldl (Zao d kind) [ZaC kind]:=by
 subst a;unfold Zdl;rw[List.take_length]
theorem Zpn (d:Dk) (kind:Int) (l:List Qv) (n:Int):(Zao d kind l n).length<=l.length+1:=by
 unfold Zao;split
 ·simp
 ·omega
theorem ZiD (d:Dk) (kind:Int) (l:List Int):∀ q,q<=l.length->(Zdl d kind l q).length<=q+1
 | 0,_=>by simp[Zdl]
 | q+1,h=>by
  rw[Zkh d kind l q (by omega)]
  have:=Zpn d kind (Zdl d kind l q) (l.getD q 0);have:=ZiD d kind l q (by omega)
  omega
def Znq (w:World) (l:List Qv) (e:Ending) (w':World):Prop:=
 ∃ bv bs I v0 l0,e=.returned bv∧bs.map Prod.fst=l∧Jr w I v0 l0 bv bs w'
set_option maxHeartbeats 4000000 in
theorem Zlx {F:Nat->Prop} {p:Nat} {d:Dk} {N T:Nat} (kind:Int) (w:World) (h:Dsk F w p d N T) (hN:N<=1000000) (hT:T<=1000000000) (aA:∀ n,(Z1 d n).1.length<=90000):
 Calls prog 34 #[ptr p,.int .i64 kind] w fun e w'=>Znq w (Yd d kind) e w':=by
 have an:=ZZ (fun W (hb:Below w.heap.size w W)=>Zci 3 W (h.below hb) hN (by omega) (by omega))
 have aT:=ZZ (fun n (M:I64 n) W (hb:Below w.heap.size w W)=>Zmk n M W (h.below hb) hT)
 have a5:=ZZ (fun n vb W (hr:Rd W vb (Z1 d n).1)=>Zpe vb _ W hr (by have:=aA n;omega))
 have HI:Hid (∀ n ∈ Xg (Ql d) 3,I64 n):=ZZ (by
  obtain⟨L,Y,J,-⟩:=h
  exact fun n M=>by
   have:=ZaZ J n (List.mem_filter.1 M).1
   exact⟨by omega,by omega⟩)
 have al:Hid ((Xg (Ql d) 3).length<=1000000):=ZZ (by
  obtain⟨L,Y,J,g3,-⟩:=h;have h3:=Zbn d d.waits.length;rw[ZcY] at h3;have:=g3.names;refine Nat.le_trans (List.length_filter_le _ _) ?_;unfold Ql;rw[List.length_map]
  omega)
 have aN:Yd d kind=(Xg (Ql d) 3).foldl (Zao d kind) [ZaC kind]:=rfl;rw[aN];clear h aA aN;obtain⟨l,hl⟩:∃ l,l=Xg (Ql d) 3:=⟨_,rfl⟩;rw[<-hl] at an HI al ⊢;clear hl;have aC:=ZZ (Zsr kind w)
 go_enter func34,ntmps34
 go_wp2_with fail
 refine aC.o.mono ?_;rintro e f ⟨vl,rfl,ab,aH,aJ,ay,D⟩;obtain⟨la,lc,aR,-⟩:=id ab;subst aR;obtain⟨i,S⟩:∃ i:Qv × Value × Value,i=(ZaC kind,.slice la (Jo kind).L.length lc,.slice none 0 0):=⟨_,rfl⟩;obtain⟨y,C⟩:∃ y,y=f.alloc (.cells #[.int .i64 0,.int .i64 (Jo kind).kind,.slice la (Jo kind).L.length lc,.bool (Jo kind).shut,.int .i64 (Jo kind).eng,.slice none 0 0] 41):=⟨_,rfl⟩;have O:Hid (Below w.heap.size w y):=ZZ (by rw[C];exact D.alloc D.size _)
 have aL:Hid (Below f.heap.size f y):=ZZ (by rw[C];exact Jc _ _)
 have a0:y.heap.size=f.heap.size+1:=by rw[C];simp
 have aD:Hid (y.ownsRow 0 41 6 (.slice (some ⟨f.heap.size,0,none⟩) 1 1) [i].length (Xh [i])):=ZZ (by
  have u:=World.ownsRow_lit (base:=0) (e:=41) f (snC i) 1 (Nat.zero_le _) (by unfold maxLen;omega) (size:=6) rfl
  rw[C];have h8:Xh [i]=(snC i).toList:=by simp[Xh]
  rw[h8];rw[S] at u ⊢
  exact u)
 have ar:Hid (SnR f i):=ZZ (by rw[S];exact⟨ab,RdE.nil _,aH,aJ,(Qk (by decide) (by decide):I64 0)⟩)
 have aw:Hid (ZlB (fun k=>w.heap.size<=k∧k<f.heap.size) i):=ZZ (by
  rw[S];refine⟨?_,.inl rfl⟩;rcases ab.block with hb0 | ⟨-,k,b,K⟩
  ·exact .inl hb0
  ·refine .inr fun g t=>⟨ay g t,?_⟩
   have am:(Value.slice la (Jo kind).L.length lc).ownBlock=some g:=t;rw[am] at b;obtain rfl:=Option.some.inj b
   exact K)
 have aI:Hid (i.1=ZaC kind):=ZZ (by rw[S])
 have E:Hid (w.heap.size<=f.heap.size):=ZZ D.size;clear ab aH aJ ay D aC S;generalize (Jo kind).kind=sk at *;generalize (Jo kind).L.length=sl at *;generalize (Jo kind).shut=ss at *;generalize (Jo kind).eng=se at *
 go_upto_region 2 with fail
 rw[<-C];clear C
 go_wp2_with fail
 refine(an.o y O.o).mono ?_;rintro e W3 ⟨v3,rfl,ak,H⟩
 have ad:Hid (Jr w (fun k=>w.heap.size<=k∧k<f.heap.size) v3 l (.slice (some ⟨f.heap.size,0,none⟩) 1 1) [i] W3):=ZZ (by
  have bc:=H.size;have ba:=E.o;refine⟨Qh aD.o fun k b=>H.block k ?_,fun k b=>?_,fun x m=>?_,fun x m=>?_,fun k b=>b.1,fun k b=>by omega,fun k b e=>?_,ak.mono O.o.size,O.o.trans (H.mono O.o.size)⟩
  ·have u:f.heap.size=k:=Option.some.inj b
   omega
  ·have u:f.heap.size=k:=Option.some.inj b
   omega
  ·rw[List.mem_singleton.1 m]
   exact(ar.o.below aL.o zL).below H zL
  ·rw[List.mem_singleton.1 m]
   exact aw.o
  ·have u:f.heap.size=k:=Option.some.inj e
   omega)
 obtain⟨a3,c3,aP⟩:∃ a c,v3=.slice a l.length c:=ak.shape;subst aP;obtain⟨j,Z⟩:∃ j,j=l.length:=⟨_,rfl⟩;rw[<-Z] at ad al;rw[<-Z];have aF:=ZZ Z;have a8:=al.o;have a6:(j:Int)<=1000000:=by omega
 clear ak H an Z ar aw aD aL O E a0;go_wp2
 go_loopw[5,19] (fun vb vi wr=>∃ (q:Nat) (a:Option Addr) (n c:Nat) (I:Nat->Prop) (bs:List (Qv × Value × Value)),vi=.int .i64 (q:Int)∧q<=j∧vb=.slice a n c∧Hid (bs.map Prod.fst=Zdl d kind l q)∧Hid (Jr w I (.slice a3 j c3) l (.slice a n c) bs wr)) (fun _ vi _=>j-(intOf vi).toNat)
 case atStart=>exact⟨0,_,_,_,_,_,rfl,Nat.zero_le _,rfl,ZZ (by rw[List.map_cons,aI.o];rfl),ad⟩
 case round=>
  obtain⟨q,a,n,c,I,bs,rfl,hq,rfl,G,A⟩:=hrel;clear ad aI;by_cases K:q<j
  case neg=>
   have e:q=j:=by omega
   have HF:Hid (Znq w (l.foldl (Zao d kind) [ZaC kind]) (.returned (.slice a n c)) wr):=ZZ ⟨_,bs,I,_,_,rfl,G.o.trans (Znp d kind l q (e.trans aF.o)),A.o⟩;subst e;clear A G;go_wp2
   try rw[Exit.noGoto_ret]
   go_ret;exact HF.o
  have Q:q<l.length:=by rw[<-aF.o];exact K
  have a7:(q:Int)<(j:Int):=by omega
  have HS:Hid (Zdl d kind l (q+1)=Zao d kind (Zdl d kind l q) (l.getD q 0)):=ZZ (Zkh d kind l q Q)
  have aX:Hid (bs.length<=10000000):=ZZ (by
   have u:=ZiD d kind l q (by omega)
   rw[<-G.o,List.length_map] at u
   omega)
  obtain⟨nq,ac⟩:∃ nq,nq=l.getD q 0:=⟨_,rfl⟩;obtain⟨ao,cap,aQ,-,-,-,-,ae⟩:=A.o.nms.rd HI.o
  injection aQ with e1 e2 e3
  rcases ae with ae | ⟨bb,aZ,a1,hc⟩
  ·rw[ae] at Q;simp at Q
  subst e1;subst a1;have cx:=hc q Q;rw[<-ac] at cx HS
  have aU:Hid (I64 nq):=ZZ (HI.o nq (by
   rw[ac,show l.getD q 0=l[q] by simp[List.getD,Q]]
   exact List.getElem_mem _))
  clear hc e2 e3 ac;have ax:=ZZ (aT.o nq aU.o wr A.o.old)
  go_wp2_with fail
  refine ax.o.mono ?_;rintro e W4 ⟨v4,rfl,ag,ap⟩;have aO:=ZZ (A.o.below ap);have aG:=ZZ ag.rd;obtain⟨a4,c4,aW,-⟩:=ag.rd;subst aW;clear ag ap ax A cx;have av:=ZZ (a5.o nq _ W4 aG.o);have E:Hid (Zdl d kind l (q+1)=if(ZnQ (Z1 d nq).1).2=0∧(ZnQ (Z1 d nq).1).1.st.kind=kind then Zdl d kind l q++[(ZnQ (Z1 d nq).1).1] else Zdl d kind l q):=ZZ (by rw[HS.o];rfl)
  generalize (Z1 d nq).2=er at *;generalize ZnQ (Z1 d nq).1=dn at *;generalize a2:(Z1 d nq).1.length=a9 at *;obtain⟨⟨ix,⟨kd,L,sh,eg⟩,tb⟩,aa⟩:=dn;clear a2
  dsimp only at E
  go_wp2_with fail
  refine av.o.mono ?_;rintro e z ⟨vx,vu,rfl,U,r2,r3,P,r5,Y,J,aj⟩
  dsimp only at U r2 r3 P r5 ⊢
  have aB:Hid (SnR z (⟨ix,⟨kd,L,sh,eg⟩,tb⟩,vx,vu)):=ZZ ⟨U,P,r2,r3,r5⟩
  have aq:Hid (ZlB (fun k=>W4.heap.size<=k∧k<z.heap.size) (⟨ix,⟨kd,L,sh,eg⟩,tb⟩,vx,vu)):=ZZ (by
   refine⟨?_,?_⟩
   ·rcases U.block with hb0 | ⟨-,k,b,K⟩
    ·exact .inl hb0
    ·refine .inr fun g t=>⟨Y g t,?_⟩
     have am:vx.ownBlock=some g:=t;rw[am] at b;obtain rfl:=Option.some.inj b;exact K
   ·rcases P.block with hb0 | hb0
    ·exact .inl hb0
    ·exact .inr fun g t=>⟨J g t,hb0 g t⟩)
  have aK:=ZZ aj;have aY:=ZZ (aO.o.below aj);obtain⟨xa,xc,m,-⟩:=id U;obtain⟨ua,uc,hu⟩:=P.shape;subst m hu;clear av aG U r2 r3 P r5 Y J aj;generalize L.length=xl at *;generalize tb.length=ul at *;obtain⟨x,m⟩:∃ x:Qv × Value × Value,x=(⟨ix,⟨kd,L,sh,eg⟩,tb⟩,.slice xa xl xc,.slice ua ul uc):=⟨_,rfl⟩;have HX:=ZZ m;rw[<-m] at aB aq;clear m;have V:Hid (∀ X,Jr w I (.slice (some ⟨bb,aZ,none⟩) j c3) l (.slice a n c) bs (z.alloc X)):=ZZ (fun X=>aY.o.below (Jc _ _))
  have af:Hid (¬ (aa=0∧kd=kind)->bs.map Prod.fst=Zdl d kind l (q+1)):=ZZ (fun M=>by rw[G.o,E.o,if_neg M])
  by_cases v:aa=0
  case neg=>
   have hb0:(aa == 0)=false:=beq_eq_false_iff_ne.2 v;have R:=ZZ (af.o fun hh=>v hh.1)
   clear v;go_wp2;go_roundw
   case rel=>exact⟨q+1,a,n,c,I,bs,by go_num,by omega,rfl,R,ZZ (V.o _)⟩
   case measure=>simp[intOf];omega
  have hb0:(aa == 0)=true:=by rw[beq_iff_eq];exact v
  by_cases B:kd=kind
  case neg=>
   have D:(kd == kind)=false:=beq_eq_false_iff_ne.2 B;have R:=ZZ (af.o fun hh=>B hh.2)
   clear v B;go_wp2;go_roundw
   case rel=>exact⟨q+1,a,n,c,I,bs,by go_num,by omega,rfl,R,ZZ (V.o _)⟩
   case measure=>simp[intOf];omega
  have D:(kd == kind)=true:=by rw[beq_iff_eq];exact B
  have R:Hid ((bs++[x]).map Prod.fst=Zdl d kind l (q+1)):=ZZ (by
   rw[E.o,if_pos ⟨v,B⟩,List.map_append,G.o,HX.o]
   rfl)
  have aS:Hid (SlX x):=ZZ (by rw[HX.o];exact⟨_,_,_,_,_,_,rfl,rfl⟩)
  have aE:Hid (snC x=#[.int .i64 ix,.int .i64 kd,.slice xa xl xc,.bool sh,.int .i64 eg,.slice ua ul uc]):=ZZ (by rw[HX.o];rfl)
  clear v B
  go_wp2_with(at_builtin;refine(fun(h:True->_)=>h trivial) ?_)
  intro _;rw[<-aE.o];have aM:Hid (Value.slice (some ⟨z.heap.size+1,0,none⟩) 1 1=.slice (some ⟨(z.alloc (.cells (snC x) 41)).heap.size,0,none⟩) 1 1):=ZZ (by simp)
  refine Zgw (z.alloc (.cells (snC x) 41)) rfl _ _ rfl (.slice a n c) bs rfl (V.o _).row x aS.o (by exact aM.o) aX.o ?_
  intro v7 W7 ai au az;have aV:=ZZ (aO.o.add (aK.o.trans ((Jc _ _).mono aK.o.size)) x (aB.o.below (Jc z (.cells (snC x) 41)) zL) (aq.o.mono fun k b=>⟨b.1,by simp;omega⟩) ai au az)
  obtain⟨y1,y3,hy⟩:=Zg ai;generalize (bs++[x]).length=y2 at hy;subst hy;clear ai au az aM aE V af;go_wp2;go_roundw
  case rel=>exact⟨q+1,y1,y2,y3,_,bs++[x],by go_num,by omega,rfl,R,aV⟩
  case measure=>simp[intOf];omega
end Go.Proofs.YtnahjngbneicaaaGreatDoor
