import Derived.Test.YtnahjngbneicaaaGreatDoorStoreU
namespace Go.Proofs.YtnahjngbneicaaaGreatDoor
open _root_.Go.Proofs.Tryz
set_option maxRecDepth 100000
open Go.RowKit
def ZgB (d:Dk) (kind:Int) (l:List Int) (q:Nat):List ZaW:=(l.take q).foldl (Zdi d kind) [ZdG kind]
theorem Znx (d:Dk) (kind:Int) (l:List Int) (q:Nat) (a:q<l.length):ZgB d kind l (q+1)=Zdi d kind (ZgB d kind l q) (l.getD q 0):=by
 unfold ZgB;rw[List.take_add_one,List.foldl_append,show l.getD q 0=l[q] by simp[List.getD,a]]
 simp[a]
theorem ZqF (d:Dk) (kind:Int) (l:List Int) (q:Nat) (a:q=l.length):ZgB d kind l q=l.foldl (Zdi d kind) [ZdG kind]:=by
 subst a;unfold ZgB;rw[List.take_length]
theorem ZsD (d:Dk) (kind:Int) (l:List ZaW) (n:Int):(Zdi d kind l n).length<=l.length+1:=by
 unfold Zdi;split
 ·simp
 ·omega
theorem ZlT (d:Dk) (kind:Int) (l:List Int):∀ q,q<=l.length->(ZgB d kind l q).length<=q+1
 | 0,_=>by simp[ZgB]
 | q+1,h=>by
  rw[Znx d kind l q (by omega)]
  have:=ZsD d kind (ZgB d kind l q) (l.getD q 0);have:=ZlT d kind l q (by omega)
  omega
def ZqG (w:World) (l:List ZaW) (e:Ending) (w':World):Prop:=
 ∃ bv bs I v0 l0,e=.returned bv∧bs.map Prod.fst=l∧Zdb w I v0 l0 bv bs w'
set_option maxHeartbeats 4000000 in
theorem ZoN {F:Nat->Prop} {p:Nat} {d:Dk} {N T:Nat} (kind:Int) (w:World) (h:Dsk F w p d N T) (hN:N<=1000000) (hT:T<=1000000000) (ar:∀ n,(Zdc d n).1.length<=90000):
 Calls prog 34 #[ptr p,.int .i64 kind] w fun e w'=>ZqG w (Zbr d kind) e w':=by
 have am:=ZZ (fun W (hb:Below w.heap.size w W)=>Zfx 3 W (h.below hb) hN (by omega) (by omega))
 have aP:=ZZ (fun n (H:I64 n) W (hb:Below w.heap.size w W)=>ZpA n H W (h.below hb) hT)
 have aU:=ZZ (fun n vb W (hr:Rd W vb (Zdc d n).1)=>Zsu vb _ W hr (by have:=ar n;omega))
 have HI:Hid (∀ n ∈ ZaY (Zak d) 3,I64 n):=ZZ (by
  obtain⟨L,Z,K,-⟩:=h
  exact fun n H=>by
   have:=Zej K n (List.mem_filter.1 H).1
   exact⟨by omega,by omega⟩)
 have ah:Hid ((ZaY (Zak d) 3).length<=1000000):=ZZ (by
  obtain⟨L,Z,K,g3,-⟩:=h;have h3:=Zey d d.waits.length;rw[Zgo] at h3;have:=g3.names;refine Nat.le_trans (List.length_filter_le _ _) ?_;unfold Zak;rw[List.length_map]
  omega)
 have aN:Zbr d kind=(ZaY (Zak d) 3).foldl (Zdi d kind) [ZdG kind]:=rfl;rw[aN];clear h ar aN;obtain⟨l,hl⟩:∃ l,l=ZaY (Zak d) 3:=⟨_,rfl⟩;rw[<-hl] at am HI ah ⊢;clear hl;have ap:=ZZ (ZvH kind w)
 go_enter func34,ntmps34
 go_wp2_with fail
 refine ap.o.mono ?_;rintro e f ⟨vl,rfl,aa,aq,aM,az,D⟩;obtain⟨la,lc,aQ,-⟩:=id aa;subst aQ;obtain⟨i,M⟩:∃ i:ZaW × Value × Value,i=(ZdG kind,.slice la (Zdd kind).L.length lc,.slice none 0 0):=⟨_,rfl⟩;obtain⟨v,E⟩:∃ v,v=f.alloc (.cells #[.int .i64 0,.int .i64 (Zdd kind).kind,.slice la (Zdd kind).L.length lc,.bool (Zdd kind).shut,.int .i64 (Zdd kind).eng,.slice none 0 0] 41):=⟨_,rfl⟩;have U:Hid (Below w.heap.size w v):=ZZ (by rw[E];exact D.alloc D.size _)
 have aI:Hid (Below f.heap.size f v):=ZZ (by rw[E];exact ZcW _ _)
 have aY:v.heap.size=f.heap.size+1:=by rw[E];simp
 have ax:Hid (v.ownsRow 0 41 6 (.slice (some ⟨f.heap.size,0,none⟩) 1 1) [i].length (ZaN [i])):=ZZ (by
  have u:=World.ownsRow_lit (base:=0) (e:=41) f (snC i) 1 (Nat.zero_le _) (by unfold maxLen;omega) (size:=6) rfl
  rw[E];have h8:ZaN [i]=(snC i).toList:=by simp[ZaN]
  rw[h8];rw[M] at u ⊢
  exact u)
 have aG:Hid (SnR f i):=ZZ (by rw[M];exact⟨aa,RdE.nil _,aq,aM,(Zai (by decide) (by decide):I64 0)⟩)
 have aK:Hid (ZoR (fun k=>w.heap.size<=k∧k<f.heap.size) i):=ZZ (by
  rw[M];refine⟨?_,.inl rfl⟩;rcases aa.block with hb0 | ⟨-,k,b,O⟩
  ·exact .inl hb0
  ·refine .inr fun g t=>⟨az g t,?_⟩
   have al:(Value.slice la (Zdd kind).L.length lc).ownBlock=some g:=t;rw[al] at b;obtain rfl:=Option.some.inj b
   exact O)
 have aB:Hid (i.1=ZdG kind):=ZZ (by rw[M])
 have A:Hid (w.heap.size<=f.heap.size):=ZZ D.size;clear aa aq aM az D ap M;generalize (Zdd kind).kind=sk at *;generalize (Zdd kind).L.length=sl at *;generalize (Zdd kind).shut=ss at *;generalize (Zdd kind).eng=se at *
 go_upto_region 2 with fail
 rw[<-E];clear E
 go_wp2_with fail
 refine(am.o v U.o).mono ?_;rintro e W3 ⟨v3,rfl,ak,G⟩
 have ae:Hid (Zdb w (fun k=>w.heap.size<=k∧k<f.heap.size) v3 l (.slice (some ⟨f.heap.size,0,none⟩) 1 1) [i] W3):=ZZ (by
  have ba:=G.size;have a9:=A.o;refine⟨Zae ax.o fun k b=>G.block k ?_,fun k b=>?_,fun x m=>?_,fun x m=>?_,fun k b=>b.1,fun k b=>by omega,fun k b e=>?_,ak.mono U.o.size,U.o.trans (G.mono U.o.size)⟩
  ·have u:f.heap.size=k:=Option.some.inj b
   omega
  ·have u:f.heap.size=k:=Option.some.inj b
   omega
  ·rw[List.mem_singleton.1 m]
   exact(aG.o.below aI.o zL).below G zL
  ·rw[List.mem_singleton.1 m]
   exact aK.o
  ·have u:f.heap.size=k:=Option.some.inj e
   omega)
 obtain⟨a3,c3,aV⟩:∃ a c,v3=.slice a l.length c:=ak.shape;subst aV;obtain⟨j,ac⟩:∃ j,j=l.length:=⟨_,rfl⟩;rw[<-ac] at ae ah;rw[<-ac];have aO:=ZZ ac;have bc:=ah.o;have a8:(j:Int)<=1000000:=by omega
 clear ak G am ac aG aK ax aI U A aY;go_wp2
 go_loopw[5,19] (fun vb vi wr=>∃ (q:Nat) (a:Option Addr) (n c:Nat) (I:Nat->Prop) (bs:List (ZaW × Value × Value)),vi=.int .i64 (q:Int)∧q<=j∧vb=.slice a n c∧Hid (bs.map Prod.fst=ZgB d kind l q)∧Hid (Zdb w I (.slice a3 j c3) l (.slice a n c) bs wr)) (fun _ vi _=>j-(intOf vi).toNat)
 case atStart=>exact⟨0,_,_,_,_,_,rfl,Nat.zero_le _,rfl,ZZ (by rw[List.map_cons,aB.o];rfl),ae⟩
 case round=>
  obtain⟨q,a,n,c,I,bs,rfl,hq,rfl,J,C⟩:=hrel;clear ae aB;by_cases O:q<j
  case neg=>
   have e:q=j:=by omega
   have HF:Hid (ZqG w (l.foldl (Zdi d kind) [ZdG kind]) (.returned (.slice a n c)) wr):=ZZ ⟨_,bs,I,_,_,rfl,J.o.trans (ZqF d kind l q (e.trans aO.o)),C.o⟩;subst e;clear C J;go_wp2
   try rw[Exit.noGoto_ret]
   go_ret;exact HF.o
  have Q:q<l.length:=by rw[<-aO.o];exact O
  have a6:(q:Int)<(j:Int):=by omega
  have HS:Hid (ZgB d kind l (q+1)=Zdi d kind (ZgB d kind l q) (l.getD q 0)):=ZZ (Znx d kind l q Q)
  have aZ:Hid (bs.length<=10000000):=ZZ (by
   have u:=ZlT d kind l q (by omega)
   rw[<-J.o,List.length_map] at u
   omega)
  obtain⟨nq,ag⟩:∃ nq,nq=l.getD q 0:=⟨_,rfl⟩;obtain⟨ao,cap,aR,-,-,-,-,ai⟩:=C.o.nms.rd HI.o
  injection aR with e1 e2 e3
  rcases ai with ai | ⟨bb,a1,a0,hc⟩
  ·rw[ai] at Q;simp at Q
  subst e1;subst a0;have cx:=hc q Q;rw[<-ag] at cx HS
  have aX:Hid (I64 nq):=ZZ (HI.o nq (by
   rw[ag,show l.getD q 0=l[q] by simp[List.getD,Q]]
   exact List.getElem_mem _))
  clear hc e2 e3 ag;have ay:=ZZ (aP.o nq aX.o wr C.o.old)
  go_wp2_with fail
  refine ay.o.mono ?_;rintro e W4 ⟨v4,rfl,aj,aE⟩;have aH:=ZZ (C.o.below aE);have aJ:=ZZ aj.rd;obtain⟨a4,c4,aW,-⟩:=aj.rd;subst aW;clear aj aE ay C cx;have aC:=ZZ (aU.o nq _ W4 aJ.o);have A:Hid (ZgB d kind l (q+1)=if(Zrg (Zdc d nq).1).2=0∧(Zrg (Zdc d nq).1).1.st.kind=kind then ZgB d kind l q++[(Zrg (Zdc d nq).1).1] else ZgB d kind l q):=ZZ (by rw[HS.o];rfl)
  generalize (Zdc d nq).2=er at *;generalize Zrg (Zdc d nq).1=dn at *;generalize a5:(Zdc d nq).1.length=a7 at *;obtain⟨⟨ix,⟨kd,L,Y,eg⟩,tb⟩,ab⟩:=dn;clear a5
  dsimp only at A
  go_wp2_with fail
  refine aC.o.mono ?_;rintro e z ⟨vx,vu,rfl,R,r2,r3,P,r5,Z,K,af⟩
  dsimp only at R r2 r3 P r5 ⊢
  have aA:Hid (SnR z (⟨ix,⟨kd,L,Y,eg⟩,tb⟩,vx,vu)):=ZZ ⟨R,P,r2,r3,r5⟩
  have au:Hid (ZoR (fun k=>W4.heap.size<=k∧k<z.heap.size) (⟨ix,⟨kd,L,Y,eg⟩,tb⟩,vx,vu)):=ZZ (by
   refine⟨?_,?_⟩
   ·rcases R.block with hb0 | ⟨-,k,b,O⟩
    ·exact .inl hb0
    ·refine .inr fun g t=>⟨Z g t,?_⟩
     have al:vx.ownBlock=some g:=t;rw[al] at b;obtain rfl:=Option.some.inj b;exact O
   ·rcases P.block with hb0 | hb0
    ·exact .inl hb0
    ·exact .inr fun g t=>⟨K g t,hb0 g t⟩)
  have aF:=ZZ af;have aS:=ZZ (aH.o.below af);obtain⟨xa,xc,m,-⟩:=id R;obtain⟨ua,uc,hu⟩:=P.shape;subst m hu;clear aC aJ R r2 r3 P r5 Z K af;generalize L.length=xl at *;generalize tb.length=ul at *;obtain⟨x,m⟩:∃ x:ZaW × Value × Value,x=(⟨ix,⟨kd,L,Y,eg⟩,tb⟩,.slice xa xl xc,.slice ua ul uc):=⟨_,rfl⟩;have HX:=ZZ m;rw[<-m] at aA au;clear m;have V:Hid (∀ X,Zdb w I (.slice (some ⟨bb,a1,none⟩) j c3) l (.slice a n c) bs (z.alloc X)):=ZZ (fun X=>aS.o.below (ZcW _ _))
  have an:Hid (¬ (ab=0∧kd=kind)->bs.map Prod.fst=ZgB d kind l (q+1)):=ZZ (fun H=>by rw[J.o,A.o,if_neg H])
  by_cases y:ab=0
  case neg=>
   have hb0:(ab == 0)=false:=beq_eq_false_iff_ne.2 y;have S:=ZZ (an.o fun hh=>y hh.1)
   clear y;go_wp2;go_roundw
   case rel=>exact⟨q+1,a,n,c,I,bs,by go_num,by omega,rfl,S,ZZ (V.o _)⟩
   case measure=>simp[intOf];omega
  have hb0:(ab == 0)=true:=by rw[beq_iff_eq];exact y
  by_cases B:kd=kind
  case neg=>
   have D:(kd == kind)=false:=beq_eq_false_iff_ne.2 B;have S:=ZZ (an.o fun hh=>B hh.2)
   clear y B;go_wp2;go_roundw
   case rel=>exact⟨q+1,a,n,c,I,bs,by go_num,by omega,rfl,S,ZZ (V.o _)⟩
   case measure=>simp[intOf];omega
  have D:(kd == kind)=true:=by rw[beq_iff_eq];exact B
  have S:Hid ((bs++[x]).map Prod.fst=ZgB d kind l (q+1)):=ZZ (by
   rw[A.o,if_pos ⟨y,B⟩,List.map_append,J.o,HX.o]
   rfl)
  have aT:Hid (SlX x):=ZZ (by rw[HX.o];exact⟨_,_,_,_,_,_,rfl,rfl⟩)
  have aL:Hid (snC x=#[.int .i64 ix,.int .i64 kd,.slice xa xl xc,.bool Y,.int .i64 eg,.slice ua ul uc]):=ZZ (by rw[HX.o];rfl)
  clear y B
  go_wp2_with(at_builtin;refine(fun(h:True->_)=>h trivial) ?_)
  intro _;rw[<-aL.o];have aD:Hid (Value.slice (some ⟨z.heap.size+1,0,none⟩) 1 1=.slice (some ⟨(z.alloc (.cells (snC x) 41)).heap.size,0,none⟩) 1 1):=ZZ (by simp)
  refine ZjM (z.alloc (.cells (snC x) 41)) rfl _ _ rfl (.slice a n c) bs rfl (V.o _).row x aT.o (by exact aD.o) aZ.o ?_
  intro v7 W7 ad aw av;have a2:=ZZ (aH.o.add (aF.o.trans ((ZcW _ _).mono aF.o.size)) x (aA.o.below (ZcW z (.cells (snC x) 41)) zL) (au.o.mono fun k b=>⟨b.1,by simp;omega⟩) ad aw av)
  obtain⟨y1,y3,hy⟩:=ZbW ad;generalize (bs++[x]).length=y2 at hy;subst hy;clear ad aw av aD aL V an;go_wp2;go_roundw
  case rel=>exact⟨q+1,y1,y2,y3,_,bs++[x],by go_num,by omega,rfl,S,a2⟩
  case measure=>simp[intOf];omega
end Go.Proofs.YtnahjngbneicaaaGreatDoor
