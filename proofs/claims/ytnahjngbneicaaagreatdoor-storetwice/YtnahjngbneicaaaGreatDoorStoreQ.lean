import Derived.Test.YtnahjngbneicaaaGreatDoorStoreP
import Derived.WalkMore
namespace Go.Proofs.YtnahjngbneicaaaGreatDoor
open _root_.Go.Proofs.Tryz
set_option maxRecDepth 100000
open Go.RowKit
theorem ZjL (w:World) (ty:TypeId) (B:Nat) (v:Value) (b:List Rec) (c:Zbq w B v b) (e:Value) (l:List Rec) (x:RdR w e l)
 (D:b.length+l.length<=10000000) (h:B<=w.heap.size):
 ∃ v' w',(Builtin.append_ #[29,29] ty #[v,e]).run prog w=.ok v' w'∧Zbq w' B v' (b++l)∧Below B w w':=by
 obtain⟨f,g,t,m,n⟩:=info_parts Zgs;obtain⟨ao,cap,rfl,C,A,y,_,j⟩:=x
 cases ao with
 | none=>
  have p:=y rfl;subst p;have q:l=[]:=List.eq_nil_of_length_eq_zero (by omega)
  subst q;have d:=run_append_owned_none (P:=prog) w B 29 ty 62 f 7 underlying29 g v b.length (Zan b) c;exact⟨v,w,d,by rw[List.append_nil];exact c,Below.refl _ _⟩
 | some a=>
  obtain⟨v',w',d,i,u,_⟩:=run_append_own (P:=prog) w B 29 ty 62 f _ 7 56 underlying29 g t m n rfl (by decide) v b.length (Zan b) c a l.length cap (Zan l)
   (Zbo l) (RdR.cells j a rfl) (ZeB l) (by unfold maxLen;omega) (by omega) h
  refine⟨v',w',d,?_,?_⟩
  ·unfold Zbq
   rw[List.length_append,Zdv];exact i
  ·exact(Below.refl _ _).grown u h (fun k z=>(World.ownsRow.lt c k z).1)
theorem Zhi (w:World) {d:Array Oper} {rest:List Oper} {o:Oper} {a:Act} {Q:Exit->Act->World->Prop} (p:o.guard=none) (s x:Operand)
 (f:o.op=.call { callee:=.builtin .append,args:=#[s,x],argTypes:=#[29,29] })
 (B:Nat) (v:Value) (b:List Rec) (m:a.eval s=v) (e:Zbq w B v b) (c:Value) (l:List Rec) (g:a.eval x=c) (u:RdR w c l)
 (t:b.length+l.length<=10000000) (n:B<=w.heap.size)
 (h:∀ v' w',Zbq w' B v' (b++l)->Below B w w'->wpList prog d Q rest (a.put o.dst v') w'):wpList prog d Q (o::rest) a w:=
 wpList_plain p fun _ j=>by
  obtain⟨v',w',i,q,k⟩:=ZjL w o.type B v b e c l u t n;unfold Oper.wp execOp;simp only [f,resolve,invoke,builtin,Sem.run_bind,Sem.run_pure,Result.andThen_ok,List.map_toArray,List.map_cons,List.map_nil,m,g,i];exact j _ _ (h v' w' q k)
theorem ZxW {L:List (List UInt8)} {q:Nat} (h:q<L.length):L.getD q [] ∈ L:=by
 rw[show L.getD q []=L[q] by simp[List.getD,h]]
 exact List.getElem_mem _
theorem ZzS {d:List UInt8} {l:List Rec} {n:Int} (h:DecB d l n):(n=0∧ZgU d=some l∧ZbE l)∨(n=3∧ZgU d=none):=by
 rcases h with ⟨c,a,b⟩ | ⟨c,a,b⟩
 ·exact .inl ⟨c,by rw[<-b];exact Zww a,a⟩
 ·refine .inr ⟨c,?_⟩
  unfold ZgU;rw[if_neg fun e=>b _ e.1 e.2]
theorem ZeE (first:Int) (d:List UInt8) (t:List (List UInt8)) (a:List Rec):Zby first (d::t) a=match ZgU d with
 | none=>a
 | some l=>if(l.headD Zaj).idx=first+a.length then Zby first t (a++l) else a:=by
 rw[Zby]
 cases ZgU d <;> rfl
def ZxX (L:List (List UInt8)) (kind:Int):Option (Nat × List Rec):=
 match L with
 | []=>none
 | H::B=>(Zfp H kind).map fun f=>(f,Zby f B [])
theorem Zsw (b:List UInt8) (kind:Int):ZyF b kind=ZxX (Zao b).1 kind:=by
 unfold ZyF ZxX
 cases (Zao b).1 <;> rfl
def ZxY (w:World) (o:Option (Nat × List Rec)) (e:Ending) (w':World):Prop:=
 ∃ (x:Int) (a:Option Addr) (n c:Nat),e=.returned (.tuple #[.int .i64 x,.slice a n c,.bool o.isSome])∧(∀ f l,o=some (f,l)->x=(f:Int)∧Zbq w' w.heap.size (.slice a n c) l)∧Below w.heap.size w w'
theorem Zbq.rdF {w:World} {B:Nat} {v:Value} {l:List Rec} (h:Zbq w B v l) (b:∀ r ∈ l,ZaA r):RdR w v l:=h.rd fun r a=>ZfA (b r a)
set_option maxHeartbeats 4000000 in
theorem ZlN (vb:Value) (b:List UInt8) (kind:Int) (w:World) (hr:Rd w vb b) (hb:b.length<=90000) (a4:0<=kind) (a2:kind<6):
 Calls prog 77 #[vb,.int .i64 kind] w fun e w'=>ZxY w (ZyF b kind) e w':=by
 have ah:=ZZ (Znq vb b w hr (by omega))
 obtain⟨Y,aP⟩:=ZhX b;rw[Zsw];obtain⟨va,vc,rfl,-⟩:=hr;generalize (Zao b).2.1=tk at *;generalize (Zao b).1=L at *;obtain⟨y,ae⟩:∃ y:Option (Nat × List Rec),y=ZxX L kind:=⟨_,rfl⟩;rw[<-ae];have X:=ZZ ae;clear ae;have bv:(L.length:Int)<=100000:=by omega
 by_cases S:L.length=0
 ·have e:L=[]:=List.eq_nil_of_length_eq_zero S
  have D:Hid (y=none):=ZZ (by rw[X.o,e];rfl)
  have a8:((L.length:Int) == 0)=true:=by rw[beq_iff_eq];omega
  clear S e Y aP X
  go_enter func77,ntmps77
  go_wp2;go_step3
  go_wp2_with fail
  refine ah.o.mono ?_;rintro e J ⟨v1,rfl,A,I⟩;have R:=ZZ I;obtain⟨a1,c1,aj,-⟩:=A.rd;subst aj;clear A I;go_wp2
  try rw[Exit.noGoto_ret]
  go_ret3
  rw[D.o];exact⟨0,_,_,_,rfl,(fun f l i=>by cases i),R.o⟩
 have aE:L≠[]:=fun e=>S (by rw[e];rfl)
 have a8:((L.length:Int) == 0)=false:=beq_eq_false_iff_ne.2 (by omega)
 have bz:(0:Int)<(L.length:Int):=by omega
 have ai:L.getD 0 []=L.headD []:=by cases L <;> rfl
 have aq:Hid (y=(Zfp (L.headD []) kind).map fun(f:Nat)=>(f,Zby (f:Int) L.tail [])):=ZZ (by
  rw[X.o]
  cases L with
  | nil=>exact absurd rfl aE
  | cons H B=>rfl)
 have ay:(L.headD []).length<=90000:=by
  rw[<-ai];have:=(Y (L.getD 0 []) (by rw[show L.getD 0 []=L[0]'(by omega) by simp[List.getD,show 0<L.length by omega]];exact List.getElem_mem _)).2
  omega
 have aN:=ZZ (fun N W (h:Rd W N (L.headD []))=>ZqB N (L.headD []) kind W h ay a4 a2)
 have aR:=ZZ (fun(q:Nat) (hq:q<L.tail.length) N W (h:Rd W N (L.tail.getD q []))=>ZjK N (L.tail.getD q []) W h (by
  have hm:L.tail.getD q [] ∈ L:=List.mem_of_mem_tail (ZxW hq);have:=(Y _ hm).2
  omega))
 have bh:L.tail.length<=20000:=by rw[List.length_tail];omega
 clear Y aP X S
 go_enter func77,ntmps77
 go_wp2;go_step3
 go_wp2_with fail
 refine ah.o.mono ?_;rintro e J ⟨v1,rfl,A,I⟩;have R:=ZZ I;have ad:=ZZ A.rd;obtain⟨a1,c1,aj,-⟩:=A.rd;subst aj;clear A I;obtain⟨b0,o0,x0,rfl,aB,V⟩:=ad.o.at 0 (by omega)
 obtain⟨am,cm,af,av⟩:=ZxM J _ L L.length c1 rfl ad.o 1 (by omega)
 rw[List.drop_one] at af av;rw[ai] at V;have km:=av 1 rfl;have aD:=ZZ af;have aO:=aB J (Below.refl _ _);have aJ:=ZZ (V J (Below.refl _ _));obtain⟨a0,q0,bj,-⟩:=V J (Below.refl _ _);subst bj;rw[Nat.add_zero] at aO;clear af av aB V ai ad ah aE;generalize L.tail=B at *;generalize L.headD []=H at *;generalize aU:H.length=hl at *;clear aU ay
 go_wp2_with fail
 refine(aN.o _ _ aJ.o).mono ?_;rintro e p ⟨x,rfl,aL,ab⟩;have C:=ZZ (R.o.trans (ab.mono R.o.size));have ax:=ZZ (aD.o.below ab zL);have aK:=ZZ aL;clear aL ab aO aJ aD aN R
 cases i:Zfp H kind with
 | none=>
  have D:Hid (y=none):=ZZ (by rw[aq.o,i];rfl)
  clear i;simp only [Option.isSome_none];go_wp2
  try rw[Exit.noGoto_ret]
  go_ret3
  rw[D.o];exact⟨0,_,_,_,rfl,(fun f l h'=>by cases h'),C.o⟩
 | some f=>
  obtain rfl:=aK.o f i
  have a5:f<4611686018427387904:=by
   unfold Zfp at i;split at i
   ·rename_i v k f' bk
    split at i
    ·have:=(Zfz bk).2.2.2.2
     rw[<-Option.some.inj i];exact this
    ·cases i
   ·cases i
  have D:Hid (y=some (f,Zby f B [])):=ZZ (by rw[aq.o,i];rfl)
  simp only [Option.isSome_some];obtain⟨m,al⟩:∃ m:Int,m=(f:Int):=⟨_,rfl⟩;have ag:=ZZ al;have bu:0<=m:=by omega
  have bm:m<4611686018427387904:=by omega
  rw[<-al];clear i aK aq al a5;obtain⟨u,aw⟩:∃ u,u=B.length:=⟨_,rfl⟩;rw[<-aw] at km ax bh;have aI:=ZZ aw;clear aw;have bo:(u:Int)<=20000:=by omega
  have an:Hid (∀ (j:World) (O:Value) d,Zbq j w.heap.size O d->Zby f B []=d->Below w.heap.size w j->ZxY w y (.returned (.tuple #[.int .i64 m,O,.bool true])) j):=ZZ (fun j O d ho hk a6=>by
   obtain⟨a,c,rfl⟩:=ho.shape;refine⟨m,a,_,c,by rw[D.o];rfl,fun f' l' T=>?_,a6⟩
   rw[D.o] at T;have T:=Option.some.inj T
   injection T with e1 e2
   rw[<-e1,<-e2,hk]
   exact⟨ag.o,ho⟩)
  go_wp2;go_step3;go_wp2
  go_loopw[11,37] (fun O vi j=>∃ (q:Nat) (d:List Rec) (a:Option Addr) (n c:Nat),vi=.int .i64 (q:Int)∧q<=u∧O=.slice a n c∧Hid (Zbq j p.heap.size (.slice a n c) d)∧Hid (∀ r ∈ d,ZaA r)∧Hid (d.length<=256*q)∧Hid (Zby f B []=Zby f (B.drop q) d)∧Hid (Below p.heap.size p j)) (fun _ vi _=>u-(intOf vi).toNat)
  case atStart=>exact⟨0,[],none,0,0,rfl,Nat.zero_le _,rfl,ZZ (Zbq.nil _ _),ZZ (fun r hr=>by cases hr),ZZ (Nat.zero_le _),ZZ rfl,ZZ (Below.refl _ _)⟩
  case round=>
   obtain⟨q,d,a,n,c,rfl,hq,rfl,HO,bc,aS,ap,aa⟩:=hrel;have ar:Hid (Below w.heap.size w j):=ZZ (C.o.trans (aa.o.mono C.o.size));by_cases bd:q<u
   case neg=>
    have e:q=u:=by omega
    have P:=ZZ (an.o j _ d (HO.o.mono C.o.size) (by
     rw[ap.o,e,aI.o,List.drop_length]
     rfl) ar.o)
    clear e;go_wp2
    try rw[Exit.noGoto_ret]
    go_ret3
    exact P.o
   have au:q<B.length:=by rw[<-aI.o];exact bd
   have bt:(q:Int)<(u:Int):=by omega
   have bx:=aS.o;obtain⟨bb,ob,xb,bg,aM,az⟩:=(ax.o.below aa.o zL).at q au;subst bg;have cx:=aM j (Below.refl _ _);have aF:=az j (Below.refl _ _);have G:=ZZ (aR.o q au _ j aF);unfold ZdR at G;have t:Hid (Zby f B []=Zby f (B.getD q []::B.drop (q+1)) d):=ZZ (by rw[ap.o,drop_one au])
   rw[ZeE] at t;obtain⟨xa,xc,aV,-⟩:=aF;subst aV;generalize B.getD q []=dq at *;generalize aC:dq.length=dl at *;have br:=ZZ aC;clear aC aM az ap
   go_wp2_with fail
   refine G.o.mono ?_;rintro e Q ⟨v3,g,n3,rfl,K,Z,E⟩;have aQ:Hid (Below p.heap.size p Q):=ZZ (aa.o.trans (E.mono aa.o.size));have aH:Hid (Below w.heap.size w Q):=ZZ (ar.o.trans (E.mono ar.o.size));have U:=ZZ (HO.o.below E zL);have aX:=ZZ K;rcases ZzS Z with ⟨rfl,z,M⟩ | ⟨rfl,z⟩
   case inr=>
    have P:=ZZ (an.o Q _ d (U.o.mono C.o.size) (by rw[t.o,z]) aH.o)
    clear z Z K E t G cx;go_wp2
    try rw[Exit.noGoto_ret]
    go_ret3
    exact P.o
   have aA:1<=g.length:=M.1;have bw:g.length<=256:=M.2.1;obtain⟨ra,rc,aT,-,-,-,-,bi⟩:=id K;subst aT;rcases bi with hr0 | ⟨rb,ro,rfl,hcell⟩
   ·rw[hr0] at aA;simp at aA
   have ak:g.getD 0 Zaj=g.headD Zaj:=by cases g <;> rfl
   have ci:=(hcell 0 (by omega)).1
   rw[ak,Nat.zero_mul,Nat.add_zero] at ci;rw[z] at t
   dsimp only at t
   have bn:(d.length:Int)<=6000000:=by omega
   have ac:Hid (n=d.length):=ZZ (by
    obtain⟨a9,c9,e9⟩:=U.o.shape
    injection e9 with _ e9 _)
   have bA:n<=6000000:=by rw[ac.o];omega
   have bq:(n:Int)<=6000000:=by omega
   have bp:IntKind.i64.wrap (m+(n:Int))=m+n:=by rw[IntKind.wrap_i64];omega
   have bl:(0:Int)<(g.length:Int):=by omega
   by_cases F:(g.headD Zaj).idx=m+n
   case neg=>
    have P:=ZZ (an.o Q _ d (U.o.mono C.o.size) (by rw[t.o,if_neg (by rw[<-ag.o,<-ac.o];exact F)]) aH.o)
    have aY:((g.headD Zaj).idx != m+(n:Int))=true:=by rw[bne_iff_ne];exact F
    generalize (g.headD Zaj).idx=ix at *;clear z Z K E t G cx hcell ak M F;go_wp2
    try rw[Exit.noGoto_ret]
    go_ret3
    exact P.o
   have aY:((g.headD Zaj).idx != m+(n:Int))=false:=by rw[F];simp
   have a3:Hid (Zby f B []=Zby f (B.drop (q+1)) (d++g)):=ZZ (by rw[t.o,if_pos (by rw[<-ag.o,<-ac.o];exact F)])
   have a7:Hid (∀ r ∈ d++g,ZaA r):=ZZ (fun r hr=>by
    rcases List.mem_append.1 hr with hr | hr
    ·exact bc.o r hr
    ·exact M.2.2.1 r hr)
   have ba:Hid ((d++g).length<=256*(q+1)):=ZZ (by rw[List.length_append];omega)
   have aW:Hid (d.length+g.length<=10000000):=ZZ (by omega)
   have bf:Hid (p.heap.size<=Q.heap.size):=ZZ aQ.o.size;generalize (g.headD Zaj).idx=ix at *;clear z Z K E t G cx hcell ak M F
   go_wp2_with(at_builtin;refine Zhi _ rfl _ _ rfl p.heap.size _ d rfl U.o _ g rfl aX.o (by have:=aW.o;omega) bf.o ?_)
   intro v4 W4 ao aG;have be:=ZZ ao
   obtain⟨y1,y2,y3,hy⟩:∃ a n c,v4=Value.slice a n c:=by
    obtain⟨a,c,i⟩:=ao.shape;exact⟨a,_,c,i⟩
   subst hy;have aZ:Hid (Below p.heap.size p W4):=ZZ (aQ.o.trans aG);clear ao aG;go_wp2;go_roundw
   case rel=>exact⟨q+1,d++g,y1,y2,y3,by go_num,by omega,rfl,be,a7,ba,a3,aZ⟩
   case measure=>simp[intOf];omega
end Go.Proofs.YtnahjngbneicaaaGreatDoor
