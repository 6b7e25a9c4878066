import Derived.Test.YtnahjngbneicaaaGreatDoorStoreP
namespace Go.Proofs.YtnahjngbneicaaaGreatDoor
open _root_.Go.Proofs.Tryz
set_option maxRecDepth 100000
open Go.RowKit
variable {l:List Rec}
theorem Zgv (w:World) (ty:TypeId) (B:Nat) (v:Value) (b:List Rec) (c:Q9 w B v b) (i:Value) (l:List Rec) (t:RdR w i l)
 (E:b.length+l.length<=10000000) (g:B<=w.heap.size):
 ∃ v' w',(Builtin.append_ #[29,29] ty #[v,i]).run prog w=.ok v' w'∧Q9 w' B v' (b++l)∧Below B w w':=by
 obtain⟨e,f,u,n,j⟩:=info_parts Zdc;obtain⟨ao,cap,rfl,D,C,z,_,A⟩:=t
 cases ao with
 | none=>
  have p:=z rfl;subst p;have q:l=[]:=List.eq_nil_of_length_eq_zero (by omega)
  subst q;have d:=run_append_owned_none (P:=prog) w B 29 ty 62 e 7 underlying29 f v b.length (Qq b) c;exact⟨v,w,d,by rw[List.append_nil];exact c,Below.refl _ _⟩
 | some a=>
  obtain⟨v',w',d,y,m,_⟩:=run_append_own (P:=prog) w B 29 ty 62 e _ 7 56 underlying29 f u n j rfl (by decide) v b.length (Qq b) c a l.length cap (Qq l)
   (Yx l) (RdR.cells A a rfl) (Zbq l) (by unfold maxLen;omega) (by omega) g
  refine⟨v',w',d,?_,?_⟩
  ·unfold Q9
   rw[List.length_append,Zax];exact y
  ·exact(Below.refl _ _).grown m g (fun k x=>(World.ownsRow.lt c k x).1)
theorem ZdS (w:World) {d:Array Oper} {rest:List Oper} {o:Oper} {a:Act} {Q:Exit->Act->World->Prop} (e:o.guard=none) (s x:Operand)
 (t:o.op=.call { callee:=.builtin .append,args:=#[s,x],argTypes:=#[29,29] })
 (B:Nat) (v:Value) (b:List Rec) (p:a.eval s=v) (f:Q9 w B v b) (c:Value) (l:List Rec) (g:a.eval x=c) (m:RdR w c l)
 (u:b.length+l.length<=10000000) (q:B<=w.heap.size)
 (h:∀ v' w',Q9 w' B v' (b++l)->Below B w w'->wpList prog d Q rest (a.put o.dst v') w'):wpList prog d Q (o::rest) a w:=
 wpList_plain e fun _ j=>by
  obtain⟨v',w',k,n,i⟩:=Zgv w o.type B v b f c l m u q;unfold Oper.wp execOp;simp only [t,resolve,invoke,builtin,Sem.run_bind,Sem.run_pure,Result.andThen_ok,List.map_toArray,List.map_cons,List.map_nil,p,g,k];exact j _ _ (h v' w' n i)
theorem ZuG {L:List (List UInt8)} {q:Nat} (h:q<L.length):L.getD q [] ∈ L:=by
 rw[show L.getD q []=L[q] by simp[List.getD,h]]
 exact List.getElem_mem _
theorem ZwC {d:List UInt8} {n:Int} (h:DecB d l n):(n=0∧ZdE d=some l∧Yc l)∨(n=3∧ZdE d=none):=by
 rcases h with ⟨a,b,c⟩ | ⟨a,b,c⟩
 ·exact .inl ⟨a,by rw[<-c];exact Ztg b,b⟩
 ·refine .inr ⟨a,?_⟩
  unfold ZdE;rw[if_neg fun e=>c _ e.1 e.2]
theorem Zbt (first:Int) (d:List UInt8) (t:List (List UInt8)) (a:List Rec):Ym first (d::t) a=match ZdE d with
 | none=>a
 | some l=>if(l.headD Qi).idx=first+a.length then Ym first t (a++l) else a:=by
 rw[Ym]
 cases ZdE d <;> rfl
def ZuH (L:List (List UInt8)) (kind:Int):Option (Nat × List Rec):=
 match L with
 | []=>none
 | H::B=>(Zca H kind).map fun f=>(f,Ym f B [])
theorem Zpg (b:List UInt8) (kind:Int):Zvp b kind=ZuH (Qm b).1 kind:=by
 unfold Zvp ZuH
 cases (Qm b).1 <;> rfl
def ZuI (w:World) (o:Option (Nat × List Rec)) (e:Ending) (w':World):Prop:=
 ∃ (x:Int) (a:Option Addr) (n c:Nat),e=.returned (.tuple #[.int .i64 x,.slice a n c,.bool o.isSome])∧(∀ f l,o=some (f,l)->x=(f:Int)∧Q9 w' w.heap.size (.slice a n c) l)∧Below w.heap.size w w'
theorem Q9.rdF {w:World} {B:Nat} {v:Value} (h:Q9 w B v l) (a:∀ r ∈ l,Qw r):RdR w v l:=h.rd fun r b=>Zcl (a r b)
set_option maxHeartbeats 4000000 in
theorem Zix (vb:Value) (b:List UInt8) (kind:Int) (w:World) (hr:Rd w vb b) (hb:b.length<=90000) (a6:0<=kind) (bf:kind<6):
 Calls prog 77 #[vb,.int .i64 kind] w fun e w'=>ZuI w (Zvp b kind) e w':=by
 have ac:=ZZ (Zka vb b w hr (by omega))
 obtain⟨Y,aJ⟩:=ZeH b;rw[Zpg];obtain⟨va,vc,rfl,-⟩:=hr;generalize (Qm b).2.1=tk at *;generalize (Qm b).1=L at *;obtain⟨u,ad⟩:∃ u:Option (Nat × List Rec),u=ZuH L kind:=⟨_,rfl⟩;rw[<-ad];have R:=ZZ ad;clear ad;have bo:(L.length:Int)<=100000:=by omega
 by_cases U:L.length=0
 ·have e:L=[]:=List.eq_nil_of_length_eq_zero U
  have A:Hid (u=none):=ZZ (by rw[R.o,e];rfl)
  have a7:((L.length:Int) == 0)=true:=by rw[beq_iff_eq];omega
  clear U e Y aJ R
  go_enter func77,ntmps77
  go_wp2;go_step3
  go_wp2_with fail
  refine ac.o.mono ?_;rintro e Q ⟨v1,rfl,D,P⟩;have I:=ZZ P;obtain⟨a1,c1,av,-⟩:=D.rd;subst av;clear D P;go_wp2
  try rw[Exit.noGoto_ret]
  go_ret3
  rw[A.o];exact⟨0,_,_,_,rfl,(fun f l i=>by cases i),I.o⟩
 have aG:L≠[]:=fun e=>U (by rw[e];rfl)
 have a7:((L.length:Int) == 0)=false:=beq_eq_false_iff_ne.2 (by omega)
 have bA:(0:Int)<(L.length:Int):=by omega
 have ap:L.getD 0 []=L.headD []:=by cases L <;> rfl
 have aq:Hid (u=(Zca (L.headD []) kind).map fun(f:Nat)=>(f,Ym (f:Int) L.tail [])):=ZZ (by
  rw[R.o]
  cases L with
  | nil=>exact absurd rfl aG
  | cons H B=>rfl)
 have aR:(L.headD []).length<=90000:=by
  rw[<-ap];have:=(Y (L.getD 0 []) (by rw[show L.getD 0 []=L[0]'(by omega) by simp[List.getD,show 0<L.length by omega]];exact List.getElem_mem _)).2
  omega
 have aA:=ZZ (fun J W (h:Rd W J (L.headD []))=>Znl J (L.headD []) kind W h aR a6 bf)
 have aS:=ZZ (fun(q:Nat) (hq:q<L.tail.length) J W (h:Rd W J (L.tail.getD q []))=>Zgu J (L.tail.getD q []) W h (by
  have hm:L.tail.getD q [] ∈ L:=List.mem_of_mem_tail (ZuG hq);have:=(Y _ hm).2
  omega))
 have bj:L.tail.length<=20000:=by rw[List.length_tail];omega
 clear Y aJ R U
 go_enter func77,ntmps77
 go_wp2;go_step3
 go_wp2_with fail
 refine ac.o.mono ?_;rintro e Q ⟨v1,rfl,D,P⟩;have I:=ZZ P;have ae:=ZZ D.rd;obtain⟨a1,c1,av,-⟩:=D.rd;subst av;clear D P;obtain⟨b0,o0,x0,rfl,aQ,X⟩:=ae.o.at 0 (by omega)
 obtain⟨am,cm,ax,an⟩:=Zuw Q _ L L.length c1 rfl ae.o 1 (by omega)
 rw[List.drop_one] at ax an;rw[ap] at X;have km:=an 1 rfl;have aK:=ZZ ax;have aI:=aQ Q (Below.refl _ _);have ay:=ZZ (X Q (Below.refl _ _));obtain⟨a0,q0,aX,-⟩:=X Q (Below.refl _ _);subst aX;rw[Nat.add_zero] at aI;clear ax an aQ X ap ae ac aG;generalize L.tail=B at *;generalize L.headD []=H at *;generalize a5:H.length=hl at *;clear a5 aR
 go_wp2_with fail
 refine(aA.o _ _ ay.o).mono ?_;rintro e p ⟨x,rfl,aB,ab⟩;have z:=ZZ (I.o.trans (ab.mono I.o.size));have aP:=ZZ (aK.o.below ab zL);have aE:=ZZ aB;clear aB ab aI ay aK aA I
 cases i:Zca H kind with
 | none=>
  have A:Hid (u=none):=ZZ (by rw[aq.o,i];rfl)
  clear i;simp only [Option.isSome_none];go_wp2
  try rw[Exit.noGoto_ret]
  go_ret3
  rw[A.o];exact⟨0,_,_,_,rfl,(fun f l h'=>by cases h'),z.o⟩
 | some f=>
  obtain rfl:=aE.o f i
  have be:f<4611686018427387904:=by
   unfold Zca at i;split at i
   ·rename_i v k f' bi
    split at i
    ·have:=(Zck bi).2.2.2.2
     rw[<-Option.some.inj i];exact this
    ·cases i
   ·cases i
  have A:Hid (u=some (f,Ym f B [])):=ZZ (by rw[aq.o,i];rfl)
  simp only [Option.isSome_some];obtain⟨j,ao⟩:∃ j:Int,j=(f:Int):=⟨_,rfl⟩;have au:=ZZ ao;have br:0<=j:=by omega
  have bz:j<4611686018427387904:=by omega
  rw[<-ao];clear i aE aq ao be;obtain⟨t,ai⟩:∃ t,t=B.length:=⟨_,rfl⟩;rw[<-ai] at km aP bj;have az:=ZZ ai;clear ai;have bq:(t:Int)<=20000:=by omega
  have ar:Hid (∀ (wr:World) (K:Value) d,Q9 wr w.heap.size K d->Ym f B []=d->Below w.heap.size w wr->ZuI w u (.returned (.tuple #[.int .i64 j,K,.bool true])) wr):=ZZ (fun wr K d ho hk bk=>by
   obtain⟨a,c,rfl⟩:=ho.shape;refine⟨j,a,_,c,by rw[A.o];rfl,fun f' l' S=>?_,bk⟩
   rw[A.o] at S;have S:=Option.some.inj S
   injection S with e1 e2
   rw[<-e1,<-e2,hk]
   exact⟨au.o,ho⟩)
  go_wp2;go_step3;go_wp2
  go_loopw[11,37] (fun K vi wr=>∃ (q:Nat) (d:List Rec) (a:Option Addr) (n c:Nat),vi=.int .i64 (q:Int)∧q<=t∧K=.slice a n c∧Hid (Q9 wr p.heap.size (.slice a n c) d)∧Hid (∀ r ∈ d,Qw r)∧Hid (d.length<=256*q)∧Hid (Ym f B []=Ym f (B.drop q) d)∧Hid (Below p.heap.size p wr)) (fun _ vi _=>t-(intOf vi).toNat)
  case atStart=>exact⟨0,[],none,0,0,rfl,Nat.zero_le _,rfl,ZZ (Q9.nil _ _),ZZ (fun r hr=>by cases hr),ZZ (Nat.zero_le _),ZZ rfl,ZZ (Below.refl _ _)⟩
  case round=>
   obtain⟨q,d,a,n,c,rfl,hq,rfl,HO,a8,aZ,aa,T⟩:=hrel;have al:Hid (Below w.heap.size w wr):=ZZ (z.o.trans (T.o.mono z.o.size));by_cases aW:q<t
   case neg=>
    have e:q=t:=by omega
    have G:=ZZ (ar.o wr _ d (HO.o.mono z.o.size) (by
     rw[aa.o,e,az.o,List.drop_length]
     rfl) al.o)
    clear e;go_wp2
    try rw[Exit.noGoto_ret]
    go_ret3
    exact G.o
   have ag:q<B.length:=by rw[<-az.o];exact aW
   have bB:(q:Int)<(t:Int):=by omega
   have bp:=aZ.o;obtain⟨bb,ob,xb,bc,aO,aC⟩:=(aP.o.below T.o zL).at q ag;subst bc;have cx:=aO wr (Below.refl _ _);have aN:=aC wr (Below.refl _ _);have O:=ZZ (aS.o q ag _ wr aN);unfold ZaJ at O;have m:Hid (Ym f B []=Ym f (B.getD q []::B.drop (q+1)) d):=ZZ (by rw[aa.o,drop_one ag])
   rw[Zbt] at m;obtain⟨xa,xc,bm,-⟩:=aN;subst bm;generalize B.getD q []=dq at *;generalize aH:dq.length=dl at *;have bC:=ZZ aH;clear aH aO aC aa
   go_wp2_with fail
   refine O.o.mono ?_;rintro e M ⟨v3,g,n3,rfl,N,V,C⟩;have aL:Hid (Below p.heap.size p M):=ZZ (T.o.trans (C.mono T.o.size));have aM:Hid (Below w.heap.size w M):=ZZ (al.o.trans (C.mono al.o.size));have Z:=ZZ (HO.o.below C zL);have a2:=ZZ N;rcases ZwC V with ⟨rfl,E,F⟩ | ⟨rfl,E⟩
   case inr=>
    have G:=ZZ (ar.o M _ d (Z.o.mono z.o.size) (by rw[m.o,E]) aM.o)
    clear E V N C m O cx;go_wp2
    try rw[Exit.noGoto_ret]
    go_ret3
    exact G.o
   have aD:1<=g.length:=F.1;have bt:g.length<=256:=F.2.1;obtain⟨ra,rc,bd,-,-,-,-,bn⟩:=id N;subst bd;rcases bn with aV | ⟨rb,ro,rfl,ak⟩
   ·rw[aV] at aD;simp at aD
   have aj:g.getD 0 Qi=g.headD Qi:=by cases g <;> rfl
   have ci:=(ak 0 (by omega)).1
   rw[aj,Nat.zero_mul,Nat.add_zero] at ci;rw[E] at m
   dsimp only at m
   have bw:(d.length:Int)<=6000000:=by omega
   have aw:Hid (n=d.length):=ZZ (by
    obtain⟨a9,c9,e9⟩:=Z.o.shape
    injection e9 with _ e9 _)
   have bD:n<=6000000:=by rw[aw.o];omega
   have bu:(n:Int)<=6000000:=by omega
   have bv:IntKind.i64.wrap (j+(n:Int))=j+n:=by rw[IntKind.wrap_i64];omega
   have bx:(0:Int)<(g.length:Int):=by omega
   by_cases y:(g.headD Qi).idx=j+n
   case neg=>
    have G:=ZZ (ar.o M _ d (Z.o.mono z.o.size) (by rw[m.o,if_neg (by rw[<-au.o,<-aw.o];exact y)]) aM.o)
    have a3:((g.headD Qi).idx != j+(n:Int))=true:=by rw[bne_iff_ne];exact y
    generalize (g.headD Qi).idx=ix at *;clear E V N C m O cx ak aj F y;go_wp2
    try rw[Exit.noGoto_ret]
    go_ret3
    exact G.o
   have a3:((g.headD Qi).idx != j+(n:Int))=false:=by rw[y];simp
   have aU:Hid (Ym f B []=Ym f (B.drop (q+1)) (d++g)):=ZZ (by rw[m.o,if_pos (by rw[<-au.o,<-aw.o];exact y)])
   have aY:Hid (∀ r ∈ d++g,Qw r):=ZZ (fun r hr=>by
    rcases List.mem_append.1 hr with hr | hr
    ·exact a8.o r hr
    ·exact F.2.2.1 r hr)
   have ba:Hid ((d++g).length<=256*(q+1)):=ZZ (by rw[List.length_append];omega)
   have aT:Hid (d.length+g.length<=10000000):=ZZ (by omega)
   have bg:Hid (p.heap.size<=M.heap.size):=ZZ aL.o.size;generalize (g.headD Qi).idx=ix at *;clear E V N C m O cx ak aj F y
   go_wp2_with(at_builtin;refine ZdS _ rfl _ _ rfl p.heap.size _ d rfl Z.o _ g rfl a2.o (by have:=aT.o;omega) bg.o ?_)
   intro v4 W4 af aF;have bl:=ZZ af
   obtain⟨y1,y2,y3,hy⟩:∃ a n c,v4=Value.slice a n c:=by
    obtain⟨a,c,i⟩:=af.shape;exact⟨a,_,c,i⟩
   subst hy;have a4:Hid (Below p.heap.size p W4):=ZZ (aL.o.trans aF);clear af aF;go_wp2;go_roundw
   case rel=>exact⟨q+1,d++g,y1,y2,y3,by go_num,by omega,rfl,bl,aY,ba,aU,a4⟩
   case measure=>simp[intOf];omega
end Go.Proofs.YtnahjngbneicaaaGreatDoor
