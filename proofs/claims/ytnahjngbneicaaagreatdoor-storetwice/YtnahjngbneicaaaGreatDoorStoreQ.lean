import Derived.Test.YtnahjngbneicaaaGreatDoorStoreP
namespace Go.Proofs.YtnahjngbneicaaaGreatDoor
open _root_.Go.Proofs.Tryz
set_option maxRecDepth 100000
open Go.RowKit
variable {l:List Rec}
theorem Zgv (w:World) (ty:TypeId) (B:Nat) (v:Value) (b:List Rec) (c:Q9 w B v b) (g:Value) (l:List Rec) (t:RdR w g l)
 (C:b.length+l.length<=10000000) (f:B<=w.heap.size):
 ∃ v' w',(Builtin.append_ #[29,29] ty #[v,g]).run prog w=.ok v' w'∧Q9 w' B v' (b++l)∧Below B w w':=by
 obtain⟨i,e,z,q,m⟩:=info_parts Zdc;obtain⟨ao,cap,rfl,E,D,y,_,u⟩:=t
 cases ao with
 | none=>
  have n:=y rfl;subst n;have p:l=[]:=List.eq_nil_of_length_eq_zero (by omega)
  subst p;have d:=run_append_owned_none (P:=prog) w B 29 ty 62 i 7 underlying29 e v b.length (Qq b) c;exact⟨v,w,d,by rw[List.append_nil];exact c,Below.refl _ _⟩
 | some a=>
  obtain⟨v',w',d,A,x,_⟩:=run_append_own (P:=prog) w B 29 ty 62 i _ 7 56 underlying29 e z q m rfl (by decide) v b.length (Qq b) c a l.length cap (Qq l)
   (Yx l) (RdR.cells u a rfl) (Zbq l) (by unfold maxLen;omega) (by omega) f
  refine⟨v',w',d,?_,?_⟩
  ·unfold Q9
   rw[List.length_append,Zax];exact A
  ·exact(Below.refl _ _).grown x f (fun k j=>(World.ownsRow.lt c k j).1)
theorem ZdS (w:World) {d:Array Oper} {rest:List Oper} {o:Oper} {a:Act} {Q:Exit->Act->World->Prop} (n:o.guard=none) (s x:Operand)
 (u:o.op=.call { callee:=.builtin .append,args:=#[s,x],argTypes:=#[29,29] })
 (B:Nat) (v:Value) (b:List Rec) (k:a.eval s=v) (g:Q9 w B v b) (c:Value) (l:List Rec) (p:a.eval x=c) (j:RdR w c l)
 (i:b.length+l.length<=10000000) (q:B<=w.heap.size)
 (h:∀ v' w',Q9 w' B v' (b++l)->Below B w w'->wpList prog d Q rest (a.put o.dst v') w'):wpList prog d Q (o::rest) a w:=
 wpList_plain n fun _ f=>by
  obtain⟨v',w',t,e,m⟩:=Zgv w o.type B v b g c l j i q;unfold Oper.wp execOp;simp only [u,resolve,invoke,builtin,Sem.run_bind,Sem.run_pure,Result.andThen_ok,List.map_toArray,List.map_cons,List.map_nil,k,p,t];exact f _ _ (h v' w' e m)
theorem ZuG {L:List (List UInt8)} {q:Nat} (h:q<L.length):L.getD q [] ∈ L:=by
 rw[show L.getD q []=L[q] by simp[List.getD,h]]
 exact List.getElem_mem _
theorem ZwC {d:List UInt8} {n:Int} (h:DecB d l n):(n=0∧ZdE d=some l∧Yc l)∨(n=3∧ZdE d=none):=by
 rcases h with ⟨a,b,c⟩ | ⟨a,b,c⟩
 ·exact .inl ⟨a,by rw[<-c];exact Ztg b,b⟩
 ·refine .inr ⟨a,?_⟩
  unfold ZdE;rw[if_neg fun e=>c _ e.1 e.2]
theorem Zbt (first:Int) (d:List UInt8) (t:List (List UInt8)) (a:List Rec):Ym first (d::t) a=match ZdE d with
 | none=>a
 | some l=>if(l.headD Qi).idx=first+a.length then Ym first t (a++l) else a:=by
 rw[Ym]
 cases ZdE d <;> rfl
def ZuH (L:List (List UInt8)) (kind:Int):Option (Nat × List Rec):=
 match L with
 | []=>none
 | H::B=>(Zca H kind).map fun f=>(f,Ym f B [])
theorem Zpg (b:List UInt8) (kind:Int):Zvp b kind=ZuH (Qm b).1 kind:=by
 unfold Zvp ZuH
 cases (Qm b).1 <;> rfl
def ZuI (w:World) (o:Option (Nat × List Rec)) (e:Ending) (w':World):Prop:=
 ∃ (x:Int) (a:Option Addr) (n c:Nat),e=.returned (.tuple #[.int .i64 x,.slice a n c,.bool o.isSome])∧(∀ f l,o=some (f,l)->x=(f:Int)∧Q9 w' w.heap.size (.slice a n c) l)∧Below w.heap.size w w'
theorem Q9.rdF {w:World} {B:Nat} {v:Value} (h:Q9 w B v l) (a:∀ r ∈ l,Qw r):RdR w v l:=h.rd fun r b=>Zcl (a r b)
set_option maxHeartbeats 4000000 in
theorem Zix (vb:Value) (b:List UInt8) (kind:Int) (w:World) (hr:Rd w vb b) (hb:b.length<=90000) (bd:0<=kind) (bl:kind<6):
 Calls prog 77 #[vb,.int .i64 kind] w fun e w'=>ZuI w (Zvp b kind) e w':=by
 have av:=ZZ (Zka vb b w hr (by omega))
 obtain⟨S,aI⟩:=ZeH b;rw[Zpg];obtain⟨va,vc,rfl,-⟩:=hr;generalize (Qm b).2.1=tk at *;generalize (Qm b).1=L at *;obtain⟨u,ab⟩:∃ u:Option (Nat × List Rec),u=ZuH L kind:=⟨_,rfl⟩;rw[<-ab];have R:=ZZ ab;clear ab;have bp:(L.length:Int)<=100000:=by omega
 by_cases U:L.length=0
 ·have e:L=[]:=List.eq_nil_of_length_eq_zero U
  have C:Hid (u=none):=ZZ (by rw[R.o,e];rfl)
  have ba:((L.length:Int) == 0)=true:=by rw[beq_iff_eq];omega
  clear U e S aI R
  go_enter func77,ntmps77
  go_wp2;go_step3
  go_wp2_with fail
  refine av.o.mono ?_;rintro e M ⟨v1,rfl,E,K⟩;have J:=ZZ K;obtain⟨a1,c1,ap,-⟩:=E.rd;subst ap;clear E K;go_wp2
  try rw[Exit.noGoto_ret]
  go_ret3
  rw[C.o];exact⟨0,_,_,_,rfl,(fun f l i=>by cases i),J.o⟩
 have aL:L≠[]:=fun e=>U (by rw[e];rfl)
 have ba:((L.length:Int) == 0)=false:=beq_eq_false_iff_ne.2 (by omega)
 have bD:(0:Int)<(L.length:Int):=by omega
 have ai:L.getD 0 []=L.headD []:=by cases L <;> rfl
 have ae:Hid (u=(Zca (L.headD []) kind).map fun(f:Nat)=>(f,Ym (f:Int) L.tail [])):=ZZ (by
  rw[R.o]
  cases L with
  | nil=>exact absurd rfl aL
  | cons H B=>rfl)
 have aR:(L.headD []).length<=90000:=by
  rw[<-ai];have:=(S (L.getD 0 []) (by rw[show L.getD 0 []=L[0]'(by omega) by simp[List.getD,show 0<L.length by omega]];exact List.getElem_mem _)).2
  omega
 have aG:=ZZ (fun O W (h:Rd W O (L.headD []))=>Znl O (L.headD []) kind W h aR bd bl)
 have bm:=ZZ (fun(q:Nat) (hq:q<L.tail.length) O W (h:Rd W O (L.tail.getD q []))=>Zgu O (L.tail.getD q []) W h (by
  have hm:L.tail.getD q [] ∈ L:=List.mem_of_mem_tail (ZuG hq);have:=(S _ hm).2
  omega))
 have a6:L.tail.length<=20000:=by rw[List.length_tail];omega
 clear S aI R U
 go_enter func77,ntmps77
 go_wp2;go_step3
 go_wp2_with fail
 refine av.o.mono ?_;rintro e M ⟨v1,rfl,E,K⟩;have J:=ZZ K;have aw:=ZZ E.rd;obtain⟨a1,c1,ap,-⟩:=E.rd;subst ap;clear E K;obtain⟨b0,o0,x0,rfl,aJ,Y⟩:=aw.o.at 0 (by omega)
 obtain⟨am,cm,al,aq⟩:=Zuw M _ L L.length c1 rfl aw.o 1 (by omega)
 rw[List.drop_one] at al aq;rw[ai] at Y;have km:=aq 1 rfl;have aO:=ZZ al;have aB:=aJ M (Below.refl _ _);have aQ:=ZZ (Y M (Below.refl _ _));obtain⟨a0,q0,aX,-⟩:=Y M (Below.refl _ _);subst aX;rw[Nat.add_zero] at aB;clear al aq aJ Y ai aw av aL;generalize L.tail=B at *;generalize L.headD []=H at *;generalize bc:H.length=hl at *;clear bc aR
 go_wp2_with fail
 refine(aG.o _ _ aQ.o).mono ?_;rintro e m ⟨x,rfl,aF,ag⟩;have D:=ZZ (J.o.trans (ag.mono J.o.size));have aM:=ZZ (aO.o.below ag zL);have aC:=ZZ aF;clear aF ag aB aQ aO aG J
 cases i:Zca H kind with
 | none=>
  have C:Hid (u=none):=ZZ (by rw[ae.o,i];rfl)
  clear i;simp only [Option.isSome_none];go_wp2
  try rw[Exit.noGoto_ret]
  go_ret3
  rw[C.o];exact⟨0,_,_,_,rfl,(fun f l h'=>by cases h'),D.o⟩
 | some f=>
  obtain rfl:=aC.o f i
  have aV:f<4611686018427387904:=by
   unfold Zca at i;split at i
   ·rename_i v k f' aT
    split at i
    ·have:=(Zck aT).2.2.2.2
     rw[<-Option.some.inj i];exact this
    ·cases i
   ·cases i
  have C:Hid (u=some (f,Ym f B [])):=ZZ (by rw[ae.o,i];rfl)
  simp only [Option.isSome_some];obtain⟨j,an⟩:∃ j:Int,j=(f:Int):=⟨_,rfl⟩;have af:=ZZ an;have bw:0<=j:=by omega
  have br:j<4611686018427387904:=by omega
  rw[<-an];clear i aC ae an aV;obtain⟨t,ac⟩:∃ t,t=B.length:=⟨_,rfl⟩;rw[<-ac] at km aM a6;have aN:=ZZ ac;clear ac;have bo:(t:Int)<=20000:=by omega
  have ad:Hid (∀ (wr:World) (G:Value) d,Q9 wr w.heap.size G d->Ym f B []=d->Below w.heap.size w wr->ZuI w u (.returned (.tuple #[.int .i64 j,G,.bool true])) wr):=ZZ (fun wr G d ho hk a4=>by
   obtain⟨a,c,rfl⟩:=ho.shape;refine⟨j,a,_,c,by rw[C.o];rfl,fun f' l' V=>?_,a4⟩
   rw[C.o] at V;have V:=Option.some.inj V
   injection V with e1 e2
   rw[<-e1,<-e2,hk]
   exact⟨af.o,ho⟩)
  go_wp2;go_step3;go_wp2
  go_loopw[11,37] (fun G vi wr=>∃ (q:Nat) (d:List Rec) (a:Option Addr) (n c:Nat),vi=.int .i64 (q:Int)∧q<=t∧G=.slice a n c∧Hid (Q9 wr m.heap.size (.slice a n c) d)∧Hid (∀ r ∈ d,Qw r)∧Hid (d.length<=256*q)∧Hid (Ym f B []=Ym f (B.drop q) d)∧Hid (Below m.heap.size m wr)) (fun _ vi _=>t-(intOf vi).toNat)
  case atStart=>exact⟨0,[],none,0,0,rfl,Nat.zero_le _,rfl,ZZ (Q9.nil _ _),ZZ (fun r hr=>by cases hr),ZZ (Nat.zero_le _),ZZ rfl,ZZ (Below.refl _ _)⟩
  case round=>
   obtain⟨q,d,a,n,c,rfl,hq,rfl,HO,aS,be,aa,T⟩:=hrel;have ar:Hid (Below w.heap.size w wr):=ZZ (D.o.trans (T.o.mono D.o.size));by_cases aY:q<t
   case neg=>
    have e:q=t:=by omega
    have F:=ZZ (ad.o wr _ d (HO.o.mono D.o.size) (by
     rw[aa.o,e,aN.o,List.drop_length]
     rfl) ar.o)
    clear e;go_wp2
    try rw[Exit.noGoto_ret]
    go_ret3
    exact F.o
   have au:q<B.length:=by rw[<-aN.o];exact aY
   have bu:(q:Int)<(t:Int):=by omega
   have bt:=be.o;obtain⟨bb,ob,xb,bn,aP,az⟩:=(aM.o.below T.o zL).at q au;subst bn;have cx:=aP wr (Below.refl _ _);have aA:=az wr (Below.refl _ _);have I:=ZZ (bm.o q au _ wr aA);unfold ZaJ at I;have p:Hid (Ym f B []=Ym f (B.getD q []::B.drop (q+1)) d):=ZZ (by rw[aa.o,drop_one au])
   rw[Zbt] at p;obtain⟨xa,xc,bf,-⟩:=aA;subst bf;generalize B.getD q []=dq at *;generalize aH:dq.length=dl at *;have bC:=ZZ aH;clear aH aP az aa
   go_wp2_with fail
   refine I.o.mono ?_;rintro e N ⟨v3,g,n3,rfl,Q,X,y⟩;have aE:Hid (Below m.heap.size m N):=ZZ (T.o.trans (y.mono T.o.size));have aD:Hid (Below w.heap.size w N):=ZZ (ar.o.trans (y.mono ar.o.size));have Z:=ZZ (HO.o.below y zL);have aZ:=ZZ Q;rcases ZwC X with ⟨rfl,z,P⟩ | ⟨rfl,z⟩
   case inr=>
    have F:=ZZ (ad.o N _ d (Z.o.mono D.o.size) (by rw[p.o,z]) aD.o)
    clear z X Q y p I cx;go_wp2
    try rw[Exit.noGoto_ret]
    go_ret3
    exact F.o
   have aK:1<=g.length:=P.1;have bx:g.length<=256:=P.2.1;obtain⟨ra,rc,bi,-,-,-,-,bk⟩:=id Q;subst bi;rcases bk with a7 | ⟨rb,ro,rfl,aj⟩
   ·rw[a7] at aK;simp at aK
   have ao:g.getD 0 Qi=g.headD Qi:=by cases g <;> rfl
   have ci:=(aj 0 (by omega)).1
   rw[ao,Nat.zero_mul,Nat.add_zero] at ci;rw[z] at p
   dsimp only at p
   have bA:(d.length:Int)<=6000000:=by omega
   have ax:Hid (n=d.length):=ZZ (by
    obtain⟨a9,c9,e9⟩:=Z.o.shape
    injection e9 with _ e9 _)
   have bq:n<=6000000:=by rw[ax.o];omega
   have bB:(n:Int)<=6000000:=by omega
   have bz:IntKind.i64.wrap (j+(n:Int))=j+n:=by rw[IntKind.wrap_i64];omega
   have bv:(0:Int)<(g.length:Int):=by omega
   by_cases A:(g.headD Qi).idx=j+n
   case neg=>
    have F:=ZZ (ad.o N _ d (Z.o.mono D.o.size) (by rw[p.o,if_neg (by rw[<-af.o,<-ax.o];exact A)]) aD.o)
    have bg:((g.headD Qi).idx != j+(n:Int))=true:=by rw[bne_iff_ne];exact A
    generalize (g.headD Qi).idx=ix at *;clear z X Q y p I cx aj ao P A;go_wp2
    try rw[Exit.noGoto_ret]
    go_ret3
    exact F.o
   have bg:((g.headD Qi).idx != j+(n:Int))=false:=by rw[A];simp
   have aU:Hid (Ym f B []=Ym f (B.drop (q+1)) (d++g)):=ZZ (by rw[p.o,if_pos (by rw[<-af.o,<-ax.o];exact A)])
   have bj:Hid (∀ r ∈ d++g,Qw r):=ZZ (fun r hr=>by
    rcases List.mem_append.1 hr with hr | hr
    ·exact aS.o r hr
    ·exact P.2.2.1 r hr)
   have aW:Hid ((d++g).length<=256*(q+1)):=ZZ (by rw[List.length_append];omega)
   have a3:Hid (d.length+g.length<=10000000):=ZZ (by omega)
   have a8:Hid (m.heap.size<=N.heap.size):=ZZ aE.o.size;generalize (g.headD Qi).idx=ix at *;clear z X Q y p I cx aj ao P A
   go_wp2_with(at_builtin;refine ZdS _ rfl _ _ rfl m.heap.size _ d rfl Z.o _ g rfl aZ.o (by have:=a3.o;omega) a8.o ?_)
   intro v4 W4 ak ay;have a5:=ZZ ak
   obtain⟨y1,y2,y3,hy⟩:∃ a n c,v4=Value.slice a n c:=by
    obtain⟨a,c,i⟩:=ak.shape;exact⟨a,_,c,i⟩
   subst hy;have a2:Hid (Below m.heap.size m W4):=ZZ (aE.o.trans ay);clear ak ay;go_wp2;go_roundw
   case rel=>exact⟨q+1,d++g,y1,y2,y3,by go_num,by omega,rfl,a5,bj,aW,aU,a2⟩
   case measure=>simp[intOf];omega
end Go.Proofs.YtnahjngbneicaaaGreatDoor
