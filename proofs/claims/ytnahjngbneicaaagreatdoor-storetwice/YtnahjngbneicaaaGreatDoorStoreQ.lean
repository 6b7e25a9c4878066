import Derived.Test.YtnahjngbneicaaaGreatDoorStoreP
namespace Go.Proofs.YtnahjngbneicaaaGreatDoor
open _root_.Go.Proofs.Tryz
set_option maxRecDepth 100000
open Go.RowKit
variable {l:List Rec}
theorem ZjL (w:World) (ty:TypeId) (B:Nat) (v:Value) (b:List Rec) (c:Zbq w B v b) (f:Value) (l:List Rec) (q:RdR w f l)
 (A:b.length+l.length<=10000000) (e:B<=w.heap.size):
 ∃ v' w',(Builtin.append_ #[29,29] ty #[v,f]).run prog w=.ok v' w'∧Zbq w' B v' (b++l)∧Below B w w':=by
 obtain⟨h,g,z,i,m⟩:=info_parts Zgs;obtain⟨ao,cap,rfl,D,C,y,_,p⟩:=q
 cases ao with
 | none=>
  have x:=y rfl;subst x;have t:l=[]:=List.eq_nil_of_length_eq_zero (by omega)
  subst t;have d:=run_append_owned_none (P:=prog) w B 29 ty 62 h 7 underlying29 g v b.length (Zan b) c;exact⟨v,w,d,by rw[List.append_nil];exact c,Below.refl _ _⟩
 | some a=>
  obtain⟨v',w',d,u,j,_⟩:=run_append_own (P:=prog) w B 29 ty 62 h _ 7 56 underlying29 g z i m rfl (by decide) v b.length (Zan b) c a l.length cap (Zan l)
   (Zbo l) (RdR.cells p a rfl) (ZeB l) (by unfold maxLen;omega) (by omega) e
  refine⟨v',w',d,?_,?_⟩
  ·unfold Zbq
   rw[List.length_append,Zdv];exact u
  ·exact(Below.refl _ _).grown j e (fun k n=>(World.ownsRow.lt c k n).1)
theorem Zhi (w:World) {d:Array Oper} {rest:List Oper} {o:Oper} {a:Act} {Q:Exit->Act->World->Prop} (p:o.guard=none) (s x:Operand)
 (u:o.op=.call { callee:=.builtin .append,args:=#[s,x],argTypes:=#[29,29] })
 (B:Nat) (v:Value) (b:List Rec) (g:a.eval s=v) (q:Zbq w B v b) (c:Value) (l:List Rec) (k:a.eval x=c) (t:RdR w c l)
 (e:b.length+l.length<=10000000) (m:B<=w.heap.size)
 (h:∀ v' w',Zbq w' B v' (b++l)->Below B w w'->wpList prog d Q rest (a.put o.dst v') w'):wpList prog d Q (o::rest) a w:=
 wpList_plain p fun _ f=>by
  obtain⟨v',w',j,n,i⟩:=ZjL w o.type B v b q c l t e m;unfold Oper.wp execOp;simp only [u,resolve,invoke,builtin,Sem.run_bind,Sem.run_pure,Result.andThen_ok,List.map_toArray,List.map_cons,List.map_nil,g,k,j];exact f _ _ (h v' w' n i)
theorem ZxW {L:List (List UInt8)} {q:Nat} (h:q<L.length):L.getD q [] ∈ L:=by
 rw[show L.getD q []=L[q] by simp[List.getD,h]]
 exact List.getElem_mem _
theorem ZzS {d:List UInt8} {n:Int} (h:DecB d l n):(n=0∧ZgU d=some l∧ZbE l)∨(n=3∧ZgU d=none):=by
 rcases h with ⟨c,b,a⟩ | ⟨c,b,a⟩
 ·exact .inl ⟨c,by rw[<-a];exact Zww b,b⟩
 ·refine .inr ⟨c,?_⟩
  unfold ZgU;rw[if_neg fun e=>a _ e.1 e.2]
theorem ZeE (first:Int) (d:List UInt8) (t:List (List UInt8)) (a:List Rec):Zby first (d::t) a=match ZgU d with
 | none=>a
 | some l=>if(l.headD Zaj).idx=first+a.length then Zby first t (a++l) else a:=by
 rw[Zby]
 cases ZgU d <;> rfl
def ZxX (L:List (List UInt8)) (kind:Int):Option (Nat × List Rec):=
 match L with
 | []=>none
 | H::B=>(Zfp H kind).map fun f=>(f,Zby f B [])
theorem Zsw (b:List UInt8) (kind:Int):ZyF b kind=ZxX (Zao b).1 kind:=by
 unfold ZyF ZxX
 cases (Zao b).1 <;> rfl
def ZxY (w:World) (o:Option (Nat × List Rec)) (e:Ending) (w':World):Prop:=
 ∃ (x:Int) (a:Option Addr) (n c:Nat),e=.returned (.tuple #[.int .i64 x,.slice a n c,.bool o.isSome])∧(∀ f l,o=some (f,l)->x=(f:Int)∧Zbq w' w.heap.size (.slice a n c) l)∧Below w.heap.size w w'
theorem Zbq.rdF {w:World} {B:Nat} {v:Value} (h:Zbq w B v l) (b:∀ r ∈ l,ZaA r):RdR w v l:=h.rd fun r a=>ZfA (b r a)
set_option maxHeartbeats 4000000 in
theorem ZlN (vb:Value) (b:List UInt8) (kind:Int) (w:World) (hr:Rd w vb b) (hb:b.length<=90000) (a2:0<=kind) (ba:kind<6):
 Calls prog 77 #[vb,.int .i64 kind] w fun e w'=>ZxY w (ZyF b kind) e w':=by
 have aq:=ZZ (Znq vb b w hr (by omega))
 obtain⟨R,az⟩:=ZhX b;rw[Zsw];obtain⟨va,vc,rfl,-⟩:=hr;generalize (Zao b).2.1=tk at *;generalize (Zao b).1=L at *;obtain⟨u,ak⟩:∃ u:Option (Nat × List Rec),u=ZxX L kind:=⟨_,rfl⟩;rw[<-ak];have Y:=ZZ ak;clear ak;have bv:(L.length:Int)<=100000:=by omega
 by_cases V:L.length=0
 ·have e:L=[]:=List.eq_nil_of_length_eq_zero V
  have A:Hid (u=none):=ZZ (by rw[Y.o,e];rfl)
  have aR:((L.length:Int) == 0)=true:=by rw[beq_iff_eq];omega
  clear V e R az Y
  go_enter func77,ntmps77
  go_wp2;go_step3
  go_wp2_with fail
  refine aq.o.mono ?_;rintro e N ⟨v1,rfl,E,M⟩;have O:=ZZ M;obtain⟨a1,c1,ab,-⟩:=E.rd;subst ab;clear E M;go_wp2
  try rw[Exit.noGoto_ret]
  go_ret3
  rw[A.o];exact⟨0,_,_,_,rfl,(fun f l i=>by cases i),O.o⟩
 have aF:L≠[]:=fun e=>V (by rw[e];rfl)
 have aR:((L.length:Int) == 0)=false:=beq_eq_false_iff_ne.2 (by omega)
 have bt:(0:Int)<(L.length:Int):=by omega
 have aa:L.getD 0 []=L.headD []:=by cases L <;> rfl
 have aw:Hid (u=(Zfp (L.headD []) kind).map fun(f:Nat)=>(f,Zby (f:Int) L.tail [])):=ZZ (by
  rw[Y.o]
  cases L with
  | nil=>exact absurd rfl aF
  | cons H B=>rfl)
 have aJ:(L.headD []).length<=90000:=by
  rw[<-aa];have:=(R (L.getD 0 []) (by rw[show L.getD 0 []=L[0]'(by omega) by simp[List.getD,show 0<L.length by omega]];exact List.getElem_mem _)).2
  omega
 have aE:=ZZ (fun Q W (h:Rd W Q (L.headD []))=>ZqB Q (L.headD []) kind W h aJ a2 ba)
 have a6:=ZZ (fun(q:Nat) (hq:q<L.tail.length) Q W (h:Rd W Q (L.tail.getD q []))=>ZjK Q (L.tail.getD q []) W h (by
  have hm:L.tail.getD q [] ∈ L:=List.mem_of_mem_tail (ZxW hq);have:=(R _ hm).2
  omega))
 have bd:L.tail.length<=20000:=by rw[List.length_tail];omega
 clear R az Y V
 go_enter func77,ntmps77
 go_wp2;go_step3
 go_wp2_with fail
 refine aq.o.mono ?_;rintro e N ⟨v1,rfl,E,M⟩;have O:=ZZ M;have ar:=ZZ E.rd;obtain⟨a1,c1,ab,-⟩:=E.rd;subst ab;clear E M;obtain⟨b0,o0,x0,rfl,aB,U⟩:=ar.o.at 0 (by omega)
 obtain⟨am,cm,ah,al⟩:=ZxM N _ L L.length c1 rfl ar.o 1 (by omega)
 rw[List.drop_one] at ah al;rw[aa] at U;have km:=al 1 rfl;have aP:=ZZ ah;have aH:=aB N (Below.refl _ _);have aG:=ZZ (U N (Below.refl _ _));obtain⟨a0,q0,aS,-⟩:=U N (Below.refl _ _);subst aS;rw[Nat.add_zero] at aH;clear ah al aB U aa ar aq aF;generalize L.tail=B at *;generalize L.headD []=H at *;generalize aU:H.length=hl at *;clear aU aJ
 go_wp2_with fail
 refine(aE.o _ _ aG.o).mono ?_;rintro e p ⟨x,rfl,aC,au⟩;have C:=ZZ (O.o.trans (au.mono O.o.size));have aN:=ZZ (aP.o.below au zL);have aO:=ZZ aC;clear aC au aH aG aP aE O
 cases i:Zfp H kind with
 | none=>
  have A:Hid (u=none):=ZZ (by rw[aw.o,i];rfl)
  clear i;simp only [Option.isSome_none];go_wp2
  try rw[Exit.noGoto_ret]
  go_ret3
  rw[A.o];exact⟨0,_,_,_,rfl,(fun f l h'=>by cases h'),C.o⟩
 | some f=>
  obtain rfl:=aO.o f i
  have aX:f<4611686018427387904:=by
   unfold Zfp at i;split at i
   ·rename_i v k f' bi
    split at i
    ·have:=(Zfz bi).2.2.2.2
     rw[<-Option.some.inj i];exact this
    ·cases i
   ·cases i
  have A:Hid (u=some (f,Zby f B [])):=ZZ (by rw[aw.o,i];rfl)
  simp only [Option.isSome_some];obtain⟨j,an⟩:∃ j:Int,j=(f:Int):=⟨_,rfl⟩;have ae:=ZZ an;have bq:0<=j:=by omega
  have bB:j<4611686018427387904:=by omega
  rw[<-an];clear i aO aw an aX;obtain⟨t,av⟩:∃ t,t=B.length:=⟨_,rfl⟩;rw[<-av] at km aN bd;have aK:=ZZ av;clear av;have bu:(t:Int)<=20000:=by omega
  have ap:Hid (∀ (wr:World) (P:Value) d,Zbq wr w.heap.size P d->Zby f B []=d->Below w.heap.size w wr->ZxY w u (.returned (.tuple #[.int .i64 j,P,.bool true])) wr):=ZZ (fun wr P d ho hk bk=>by
   obtain⟨a,c,rfl⟩:=ho.shape;refine⟨j,a,_,c,by rw[A.o];rfl,fun f' l' T=>?_,bk⟩
   rw[A.o] at T;have T:=Option.some.inj T
   injection T with e1 e2
   rw[<-e1,<-e2,hk]
   exact⟨ae.o,ho⟩)
  go_wp2;go_step3;go_wp2
  go_loopw[11,37] (fun P vi wr=>∃ (q:Nat) (d:List Rec) (a:Option Addr) (n c:Nat),vi=.int .i64 (q:Int)∧q<=t∧P=.slice a n c∧Hid (Zbq wr p.heap.size (.slice a n c) d)∧Hid (∀ r ∈ d,ZaA r)∧Hid (d.length<=256*q)∧Hid (Zby f B []=Zby f (B.drop q) d)∧Hid (Below p.heap.size p wr)) (fun _ vi _=>t-(intOf vi).toNat)
  case atStart=>exact⟨0,[],none,0,0,rfl,Nat.zero_le _,rfl,ZZ (Zbq.nil _ _),ZZ (fun r hr=>by cases hr),ZZ (Nat.zero_le _),ZZ rfl,ZZ (Below.refl _ _)⟩
  case round=>
   obtain⟨q,d,a,n,c,rfl,hq,rfl,HO,bj,bf,aj,Z⟩:=hrel;have ag:Hid (Below w.heap.size w wr):=ZZ (C.o.trans (Z.o.mono C.o.size));by_cases bc:q<t
   case neg=>
    have e:q=t:=by omega
    have G:=ZZ (ap.o wr _ d (HO.o.mono C.o.size) (by
     rw[aj.o,e,aK.o,List.drop_length]
     rfl) ag.o)
    clear e;go_wp2
    try rw[Exit.noGoto_ret]
    go_ret3
    exact G.o
   have ao:q<B.length:=by rw[<-aK.o];exact bc
   have bo:(q:Int)<(t:Int):=by omega
   have bp:=bf.o;obtain⟨bb,ob,xb,be,ay,aQ⟩:=(aN.o.below Z.o zL).at q ao;subst be;have cx:=ay wr (Below.refl _ _);have ax:=aQ wr (Below.refl _ _);have K:=ZZ (a6.o q ao _ wr ax);unfold ZdR at K;have m:Hid (Zby f B []=Zby f (B.getD q []::B.drop (q+1)) d):=ZZ (by rw[aj.o,drop_one ao])
   rw[ZeE] at m;obtain⟨xa,xc,bg,-⟩:=ax;subst bg;generalize B.getD q []=dq at *;generalize aA:dq.length=dl at *;have bx:=ZZ aA;clear aA ay aQ aj
   go_wp2_with fail
   refine K.o.mono ?_;rintro e I ⟨v3,g,n3,rfl,J,X,y⟩;have aI:Hid (Below p.heap.size p I):=ZZ (Z.o.trans (y.mono Z.o.size));have aD:Hid (Below w.heap.size w I):=ZZ (ag.o.trans (y.mono ag.o.size));have S:=ZZ (HO.o.below y zL);have a4:=ZZ J;rcases ZzS X with ⟨rfl,D,F⟩ | ⟨rfl,D⟩
   case inr=>
    have G:=ZZ (ap.o I _ d (S.o.mono C.o.size) (by rw[m.o,D]) aD.o)
    clear D X J y m K cx;go_wp2
    try rw[Exit.noGoto_ret]
    go_ret3
    exact G.o
   have aL:1<=g.length:=F.1;have bm:g.length<=256:=F.2.1;obtain⟨ra,rc,aT,-,-,-,-,aZ⟩:=id J;subst aT;rcases aZ with aV | ⟨rb,ro,rfl,ac⟩
   ·rw[aV] at aL;simp at aL
   have af:g.getD 0 Zaj=g.headD Zaj:=by cases g <;> rfl
   have ci:=(ac 0 (by omega)).1
   rw[af,Nat.zero_mul,Nat.add_zero] at ci;rw[D] at m
   dsimp only at m
   have br:(d.length:Int)<=6000000:=by omega
   have ad:Hid (n=d.length):=ZZ (by
    obtain⟨a9,c9,e9⟩:=S.o.shape
    injection e9 with _ e9 _)
   have bA:n<=6000000:=by rw[ad.o];omega
   have bz:(n:Int)<=6000000:=by omega
   have bn:IntKind.i64.wrap (j+(n:Int))=j+n:=by rw[IntKind.wrap_i64];omega
   have bw:(0:Int)<(g.length:Int):=by omega
   by_cases z:(g.headD Zaj).idx=j+n
   case neg=>
    have G:=ZZ (ap.o I _ d (S.o.mono C.o.size) (by rw[m.o,if_neg (by rw[<-ae.o,<-ad.o];exact z)]) aD.o)
    have aW:((g.headD Zaj).idx != j+(n:Int))=true:=by rw[bne_iff_ne];exact z
    generalize (g.headD Zaj).idx=ix at *;clear D X J y m K cx ac af F z;go_wp2
    try rw[Exit.noGoto_ret]
    go_ret3
    exact G.o
   have aW:((g.headD Zaj).idx != j+(n:Int))=false:=by rw[z];simp
   have aY:Hid (Zby f B []=Zby f (B.drop (q+1)) (d++g)):=ZZ (by rw[m.o,if_pos (by rw[<-ae.o,<-ad.o];exact z)])
   have bh:Hid (∀ r ∈ d++g,ZaA r):=ZZ (fun r hr=>by
    rcases List.mem_append.1 hr with hr | hr
    ·exact bj.o r hr
    ·exact F.2.2.1 r hr)
   have a7:Hid ((d++g).length<=256*(q+1)):=ZZ (by rw[List.length_append];omega)
   have a8:Hid (d.length+g.length<=10000000):=ZZ (by omega)
   have a5:Hid (p.heap.size<=I.heap.size):=ZZ aI.o.size;generalize (g.headD Zaj).idx=ix at *;clear D X J y m K cx ac af F z
   go_wp2_with(at_builtin;refine Zhi _ rfl _ _ rfl p.heap.size _ d rfl S.o _ g rfl a4.o (by have:=a8.o;omega) a5.o ?_)
   intro v4 W4 ai aM;have bl:=ZZ ai
   obtain⟨y1,y2,y3,hy⟩:∃ a n c,v4=Value.slice a n c:=by
    obtain⟨a,c,i⟩:=ai.shape;exact⟨a,_,c,i⟩
   subst hy;have a3:Hid (Below p.heap.size p W4):=ZZ (aI.o.trans aM);clear ai aM;go_wp2;go_roundw
   case rel=>exact⟨q+1,d++g,y1,y2,y3,by go_num,by omega,rfl,bl,bh,a7,aY,a3⟩
   case measure=>simp[intOf];omega
end Go.Proofs.YtnahjngbneicaaaGreatDoor
