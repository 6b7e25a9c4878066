import Derived.Test.YtnahjngbneicaaaGreatDoorPack6
namespace Go.Proofs.YtnahjngbneicaaaGreatDoor
open _root_.Go.Proofs.Tryz
open List (length_drop map_cons map_nil)
set_option maxHeartbeats 4000000
set_option maxRecDepth 100000
open Go.RowKit
variable {W w w':World} {a:List Ent} {s:St} {v v':Value} {ao c f:Option Addr} {A B B' Q R T b cap d n:Nat} {l:List UInt8} {L':List Int} {g idx k kind:Int} {L:List (List UInt8)}
theorem Da.mv {a:World} {N:Nat} {s o r:Array Value} (h:Da W N s o r) (g:∀ b,v.ownBlock=some b->b<N) (i:Mv W a v v'):Da a N s o r:=by
 obtain⟨j,d,f⟩:=h
 have lt:∀ k x,W.heap[k]?=some x->N<=k->a.heap[k]?=some x:=fun k x c l=>by
  rw[i.grown.block k (Array.getElem?_eq_some_iff.1 c).1 (fun e=>by have:=g k e.symm;omega)]
  exact c
 exact⟨lt _ _ j (by omega),lt _ _ d (by omega),lt _ _ f (by omega)⟩
theorem ZlE {e f F:World} {l:List Int} (j:Qs w B v l) (d:Below w.heap.size w e) (t:e.heap.size=w.heap.size+3) (c:Mv e f v v') (n:Qs f B v' L') (a:But w.heap.size (w.heap.size+1+1) f F):Qs F B v' L'∧Mv w F v v':=by
 have m:∀ b,v.ownBlock=some b->b<w.heap.size:=fun b h=>(World.ownsRow.lt j b h).2
 have g:∀ b,v'.ownBlock=some b->v.ownBlock=some b∨w.heap.size+3<=b:=fun b h=>by
  rcases c.lies b h with h' | h'
  ·exact .inl h'
  ·exact .inr (by omega)
 have q:=c.size;refine⟨n.but a (fun b h=>?_),⟨⟨a.os.trans (c.grown.os.trans d.os),a.tape.trans (c.grown.tape.trans d.tape),a.output.trans (c.grown.output.trans d.output),by have:=a.size;omega,fun k p i=>?_⟩,fun b h=>?_⟩⟩
 ·rcases g b h with h' | h'
  ·have:=m b h'
   omega
  ·omega
 ·rw[a.block k (by omega) (by omega) (by omega),c.grown.block k (by omega) i]
  exact d.block k p
 ·rcases g b h with h' | h'
  ·exact .inl h'
  ·exact .inr (by omega)
theorem Zy (w:World) (x y z:Obj):Below w.heap.size w (((w.alloc x).alloc y).alloc z)∧(((w.alloc x).alloc y).alloc z).heap.size=w.heap.size+3:=
 ⟨(((Below.refl _ _).alloc zL x).alloc (by simp) y).alloc (by simp;omega) z,by simp⟩
theorem Qs.alloc3 {l:List Int} (h:Qs w B v l) (x y z:Obj):Qs (((w.alloc x).alloc y).alloc z) B v l:=((h.alloc x).alloc y).alloc z
def Did (B:Nat) (w:World) (v:Value) (r:St × Int) (e:Ending) (w':World):Prop:=
 ∃ v',e=.returned (.tuple #[.agg #[.int .i64 r.1.kind,v',.bool r.1.shut,.int .i64 r.1.eng],.int .i64 r.2])∧Qs w' B v' r.1.L∧Mv w w' v v'
theorem Zpq (kind g:Int) (l:List Int) (v:Value) (o:Opn) (B:Nat) (w:World) (c:Qs w B v l):
 Calls prog 83 #[.agg #[.int .i64 kind,v,.bool true,.int .i64 g],opV o] w fun e w'=>Did B w v (⟨kind,l,true,g⟩,-1125899906842624) e w':=by
 obtain⟨i,a,b⟩:=o;have d:=Qc c;obtain⟨ao,cap,rfl⟩:=c.shape;have f:Hid (∀ x y z,Mv w (((w.alloc x).alloc y).alloc z) (.slice ao l.length cap) (.slice ao l.length cap)):=fun x y z=>Mv.ofBelow (Zy w x y z).1 _
 clear c;show Calls prog _ #[_,.agg #[.int .i64 i,.int .i64 a,.int .i64 b]] w _
 go_enter func83,ntmps83
 go_wp2;refine bodyPost_ret (v:=.tuple #[.agg #[.int .i64 kind,.slice ao l.length cap,.bool true,.int .i64 g],.int .i64 (-1125899906842624)]) (by simp[results,Tryz.results83,go_sem]) rfl ?_
 exact⟨_,rfl,d.o.alloc3 _ _ _,f.o _ _ _⟩
theorem Zpr (kind g a b:Int) (l:List Int) (v:Value) (B:Nat) (w:World) (f:Qs w B v l):
 Calls prog 83 #[.agg #[.int .i64 kind,v,.bool false,.int .i64 g],.agg #[.int .i64 10,.int .i64 a,.int .i64 b]] w fun e w'=>Did B w v (⟨kind,l,true,if 0<=a∧a<=2 then a else g⟩,0) e w':=by
 have i:=Qc f;obtain⟨ao,cap,rfl⟩:=f.shape;have p:=Qc (fun W=>Zxg kind ao l.length cap false g a W)
 generalize (if 0<=a∧a<=2 then a else g)=t at *
 clear f
 go_enter func83,ntmps83
 go_wp2_with fail
 refine(p.o _).mono ?_;rintro e y ⟨rfl,d⟩;have c:=(Da.made w _ _ _).below d (by simp)
 obtain⟨j,x⟩:=c.r 0;obtain⟨q,C⟩:=c.r 1;obtain⟨n,z⟩:=c.r 2;obtain⟨k,A⟩:=c.r 3;have u:=Qc (fun F m=>ZlE (F:=F) i.o (Zy w _ _ _).1 (Zy w _ _ _).2 (Mv.ofBelow d _) ((i.o.alloc3 _ _ _).below d zL) m)
 clear d c;go_wp2;refine bodyPost_ret (v:=.tuple #[.agg #[.int .i64 kind,.slice ao l.length cap,.bool true,.int .i64 t],.int .i64 0]) (by simp[results,Tryz.results83,go_sem,j,q,n,k]) rfl ?_
 exact⟨_,rfl,u.o _ ((But.refl _ _ _).four _ (.inr rfl) _ _ _ _)⟩
theorem Zsr (kind g:Int) (J:kind=0∨kind=1) (l:List Int) (v:Value) (o:Opn) (H:o.code≠10) (B:Nat) (w:World) (j:Qs w B v l) (u:l.length=1) (G:-1099511627776<=l.getD 0 0) (D:l.getD 0 0<=1099511627776):
 Calls prog 83 #[.agg #[.int .i64 kind,v,.bool false,.int .i64 g],opV o] w fun e w'=>Did B w v (Zef ⟨kind,l,false,g⟩ o) e w':=by
 have m:=Qc j;have N:=Zli ⟨kind,l,false,g⟩ o
 obtain⟨L',n',k⟩:∃ L' n',Zef ⟨kind,l,false,g⟩ o=(⟨kind,L',false,g⟩,n'):=by
  obtain⟨A,n,p⟩:=N;refine⟨(Zef ⟨kind,l,false,g⟩ o).1.L,(Zef ⟨kind,l,false,g⟩ o).2,?_⟩;rcases hr:Zef ⟨kind,l,false,g⟩ o with ⟨⟨Z,l1,K,X⟩,Y⟩
  rw[hr] at A n p;simp only at A n p;rw[A,n,p]
 have i:Hid (∀ W,Qs W B v l->Calls prog (if kind=0 then 124 else 125) #[v,opV o] W fun e w'=>e=.returned (.int .i64 n')∧Qs w' B v L'∧Mv W w' v v):=fun W h=>by
  rcases J with rfl | rfl
  ·have:=Zpn v l o false g B W h u G D
   rw[k] at this;exact this
  ·have:=Znp v l o false g B W h u
   rw[k] at this;exact this
 rw[k];obtain⟨M,a,b⟩:=o;have aa:(M == 10)=false:=beq_eq_false_iff_ne.2 H;obtain⟨ao,cap,rfl⟩:=j.shape;have E:∀ b,(Value.slice ao l.length cap).ownBlock=some b->b<w.heap.size:=fun b h=>(World.ownsRow.lt j b h).2
 have I:=Qc E;clear j k N H u G D E;show Calls prog _ #[_,.agg #[.int .i64 M,.int .i64 a,.int .i64 b]] w _;rcases J with rfl | rfl
 ·rw[if_pos rfl] at i
  go_enter func83,ntmps83
  go_wp2_with fail
  refine(i.o _ (m.o.alloc3 _ _ _)).mono ?_;rintro e R ⟨rfl,f,d⟩;have c:=(Da.made w _ _ _).mv I.o d;obtain⟨P,-⟩:=c.s 0;obtain⟨V,-⟩:=c.s 1;obtain⟨Q,-⟩:=c.s 2;obtain⟨U,-⟩:=c.s 3;obtain⟨q,O⟩:=c.r 0;obtain⟨z,K⟩:=c.r 1;obtain⟨y,S⟩:=c.r 2;obtain⟨t,T⟩:=c.r 3;have C:=Qc (fun F x=>ZlE (F:=F) m.o (Zy w _ _ _).1 (Zy w _ _ _).2 d f x)
  clear c f d;go_wp2;refine bodyPost_ret (v:=.tuple #[.agg #[.int .i64 0,.slice ao l.length cap,.bool false,.int .i64 g],.int .i64 n']) (by simp[results,Tryz.results83,go_sem,q,z,y,t]) rfl ?_
  exact⟨_,rfl,C.o _ ((But.refl _ _ _).four _ (.inr rfl) _ _ _ _)⟩
 ·rw[if_neg (by decide)] at i
  go_enter func83,ntmps83
  go_wp2_with fail
  refine(i.o _ (m.o.alloc3 _ _ _)).mono ?_;rintro e R ⟨rfl,f,d⟩;have c:=(Da.made w _ _ _).mv I.o d;obtain⟨P,-⟩:=c.s 0;obtain⟨V,-⟩:=c.s 1;obtain⟨Q,-⟩:=c.s 2;obtain⟨U,-⟩:=c.s 3;obtain⟨q,O⟩:=c.r 0;obtain⟨z,K⟩:=c.r 1;obtain⟨y,S⟩:=c.r 2;obtain⟨t,T⟩:=c.r 3;have C:=Qc (fun F x=>ZlE (F:=F) m.o (Zy w _ _ _).1 (Zy w _ _ _).2 d f x)
  clear c f d;go_wp2;refine bodyPost_ret (v:=.tuple #[.agg #[.int .i64 1,.slice ao l.length cap,.bool false,.int .i64 g],.int .i64 n']) (by simp[results,Tryz.results83,go_sem,q,z,y,t]) rfl ?_
  exact⟨_,rfl,C.o _ ((But.refl _ _ _).four _ (.inr rfl) _ _ _ _)⟩
theorem ZqS {c:World} {l:List Int} {a:Option Addr} {xs e d:Array Value} (i:Qs w B (.slice ao l.length cap) l) (j:Qs c B (.slice a L'.length b) L') (f:Mv (((w.alloc (.cells xs 38)).alloc (.cells e 52)).alloc (.cells d 38)) c (.slice ao l.length cap) (.slice a L'.length b)):
 Qs (ZqC c w.heap.size (w.heap.size+1+1) (.slice a L'.length b) (.int .i64 kind) (.slice a L'.length b) (.bool false) (.int .i64 g)) B (.slice a L'.length b) L'∧Mv w (ZqC c w.heap.size (w.heap.size+1+1) (.slice a L'.length b) (.int .i64 kind) (.slice a L'.length b) (.bool false) (.int .i64 g)) (.slice ao l.length cap) (.slice a L'.length b):=
 ZlE i (Zy w _ _ _).1 (Zy w _ _ _).2 f j (((But.refl _ _ _).set _ _ (.inl rfl) _).four _ (.inr rfl) _ _ _ _)
theorem Zps (kind g:Int) (L:kind=2∨kind=3) (l L':List Int) (n':Int) (v:Value) (k a b:Int) (A:k≠10) (B:Nat) (w:World) (i:Qs w B v l)
 (y:Hid (∀ W,Qs W B v l->B<=W.heap.size->Calls prog 126 #[.int .i64 kind,v,.agg #[.int .i64 k,.int .i64 a,.int .i64 b]] W fun e w'=>ZdS B W v L' n' e w')) (P:B<=w.heap.size):
 Calls prog 83 #[.agg #[.int .i64 kind,v,.bool false,.int .i64 g],.agg #[.int .i64 k,.int .i64 a,.int .i64 b]] w fun e w'=>Did B w v (⟨kind,L',false,g⟩,n') e w':=by
 have j:=Qc i;have Q:(k == 10)=false:=beq_eq_false_iff_ne.2 A;obtain⟨ao,cap,rfl⟩:=i.shape;have z:∀ b,(Value.slice ao l.length cap).ownBlock=some b->b<w.heap.size:=fun b h=>(World.ownsRow.lt i b h).2
 have C:=Qc z;clear i A z;rcases L with rfl | rfl
 ·go_enter func83,ntmps83
  go_wp2_with fail
  refine(y.o _ (j.o.alloc3 _ _ _) (by simp;omega)).mono ?_
  rintro e G ⟨O,rfl,f,d⟩;obtain⟨t,p,rfl⟩:=f.shape;have c:=(Da.made w _ _ _).mv C.o d;obtain⟨E,-⟩:=c.s 0;obtain⟨K,N⟩:=c.s 1;obtain⟨F,-⟩:=c.s 2;obtain⟨J,-⟩:=c.s 3;obtain⟨m,D⟩:=c.r 0;obtain⟨u,M⟩:=c.r 1;obtain⟨q,H⟩:=c.r 2;obtain⟨n,I⟩:=c.r 3;have x:=Qc (fun kind=>ZqS (kind:=kind) (g:=g) j.o f d)
  clear c f d;go_wp2;refine bodyPost_ret (v:=.tuple #[.agg #[.int .i64 2,.slice t L'.length p,.bool false,.int .i64 g],.int .i64 n']) (by simp[results,Tryz.results83,go_sem,m,u,q,n]) rfl ?_
  exact⟨_,rfl,x.o _⟩
 ·go_enter func83,ntmps83
  go_wp2_with fail
  refine(y.o _ (j.o.alloc3 _ _ _) (by simp;omega)).mono ?_
  rintro e G ⟨O,rfl,f,d⟩;obtain⟨t,p,rfl⟩:=f.shape;have c:=(Da.made w _ _ _).mv C.o d;obtain⟨E,-⟩:=c.s 0;obtain⟨K,N⟩:=c.s 1;obtain⟨F,-⟩:=c.s 2;obtain⟨J,-⟩:=c.s 3;obtain⟨m,D⟩:=c.r 0;obtain⟨u,M⟩:=c.r 1;obtain⟨q,H⟩:=c.r 2;obtain⟨n,I⟩:=c.r 3;have x:=Qc (fun kind=>ZqS (kind:=kind) (g:=g) j.o f d)
  clear c f d;go_wp2;refine bodyPost_ret (v:=.tuple #[.agg #[.int .i64 3,.slice t L'.length p,.bool false,.int .i64 g],.int .i64 n']) (by simp[results,Tryz.results83,go_sem,m,u,q,n]) rfl ?_
  exact⟨_,rfl,x.o _⟩
theorem Znq (kind g:Int) (A:kind=4) (l L':List Int) (n':Int) (v:Value) (f a b:Int) (m:f≠10) (B:Nat) (w:World) (d:Qs w B v l)
 (t:Hid (∀ W,Qs W B v l->B<=W.heap.size->Calls prog 127 #[v,.agg #[.int .i64 f,.int .i64 a,.int .i64 b]] W fun e w'=>ZdS B W v L' n' e w')) (N:B<=w.heap.size):
 Calls prog 83 #[.agg #[.int .i64 kind,v,.bool false,.int .i64 g],.agg #[.int .i64 f,.int .i64 a,.int .i64 b]] w fun e w'=>Did B w v (⟨kind,L',false,g⟩,n') e w':=by
 have n:=Qc d;have P:(f == 10)=false:=beq_eq_false_iff_ne.2 m;obtain⟨ao,cap,rfl⟩:=d.shape;have k:∀ b,(Value.slice ao l.length cap).ownBlock=some b->b<w.heap.size:=fun b h=>(World.ownsRow.lt d b h).2
 have z:=Qc k;clear d m k;subst A
 all_goals
  go_enter func83,ntmps83
  go_wp2_with fail
  refine(t.o _ (n.o.alloc3 _ _ _) (by simp;omega)).mono ?_
  rintro e H ⟨Q,rfl,j,i⟩;obtain⟨y,u,rfl⟩:=j.shape;have c:=(Da.made w _ _ _).mv z.o i;obtain⟨F,-⟩:=c.s 0;obtain⟨L,O⟩:=c.s 1;obtain⟨G,-⟩:=c.s 2;obtain⟨K,-⟩:=c.s 3;obtain⟨p,E⟩:=c.r 0;obtain⟨C,M⟩:=c.r 1;obtain⟨x,I⟩:=c.r 2;obtain⟨q,J⟩:=c.r 3;have D:=Qc (fun kind=>ZqS (kind:=kind) (g:=g) n.o j i)
  clear c j i;go_wp2;refine bodyPost_ret (v:=.tuple #[.agg #[.int .i64 4,.slice y L'.length u,.bool false,.int .i64 g],.int .i64 n']) (by simp[results,Tryz.results83,go_sem,p,C,x,q]) rfl ?_
  exact⟨_,rfl,D.o _⟩
theorem ZlF (kind g:Int) (A:kind=5) (l L':List Int) (n':Int) (v:Value) (f a b:Int) (m:f≠10) (B:Nat) (w:World) (d:Qs w B v l)
 (t:Hid (∀ W,Qs W B v l->B<=W.heap.size->Calls prog 128 #[v,.agg #[.int .i64 f,.int .i64 a,.int .i64 b]] W fun e w'=>ZdS B W v L' n' e w')) (N:B<=w.heap.size):
 Calls prog 83 #[.agg #[.int .i64 kind,v,.bool false,.int .i64 g],.agg #[.int .i64 f,.int .i64 a,.int .i64 b]] w fun e w'=>Did B w v (⟨kind,L',false,g⟩,n') e w':=by
 have n:=Qc d;have P:(f == 10)=false:=beq_eq_false_iff_ne.2 m;obtain⟨ao,cap,rfl⟩:=d.shape;have k:∀ b,(Value.slice ao l.length cap).ownBlock=some b->b<w.heap.size:=fun b h=>(World.ownsRow.lt d b h).2
 have z:=Qc k;clear d m k;subst A
 all_goals
  go_enter func83,ntmps83
  go_wp2_with fail
  refine(t.o _ (n.o.alloc3 _ _ _) (by simp;omega)).mono ?_
  rintro e H ⟨Q,rfl,j,i⟩;obtain⟨y,u,rfl⟩:=j.shape;have c:=(Da.made w _ _ _).mv z.o i;obtain⟨F,-⟩:=c.s 0;obtain⟨L,O⟩:=c.s 1;obtain⟨G,-⟩:=c.s 2;obtain⟨K,-⟩:=c.s 3;obtain⟨p,E⟩:=c.r 0;obtain⟨C,M⟩:=c.r 1;obtain⟨x,I⟩:=c.r 2;obtain⟨q,J⟩:=c.r 3;have D:=Qc (fun kind=>ZqS (kind:=kind) (g:=g) n.o j i)
  clear c j i;go_wp2;refine bodyPost_ret (v:=.tuple #[.agg #[.int .i64 5,.slice y L'.length u,.bool false,.int .i64 g],.int .i64 n']) (by simp[results,Tryz.results83,go_sem,p,C,x,q]) rfl ?_
  exact⟨_,rfl,D.o _⟩
theorem Zpt (v:Value) (l:List Int) (a b:Nat) (w:World) (G:RdI w v l) (B:w.cell? ⟨a,0,none⟩=some (.int .i64 (-1099511627776))) (C:w.cell? ⟨b,0,none⟩=some (.int .i64 1099511627776)):
 Calls prog 171 #[v,.func (.func 170) #[] #[.pointer (some ⟨a,0,none⟩),.pointer (some ⟨b,0,none⟩)]] w fun e w'=>e=.returned (.bool (decide (l.length<=64∧G6 l)))∧w'=w:=by
 have x:=Qc (fun n=>Zdu n _ _ a b w B C)
 obtain⟨ao,cap,rfl,-,-,-,-,F⟩:=G;have L:=Qc F;clear F B C;obtain⟨R,q⟩:∃ R,R=decide (l.length<=64∧G6 l):=⟨_,rfl⟩;rw[<-q];have t:=Qc q;clear q;by_cases E:l.length<=64
 ·have K:¬ (64<(l.length:Int)):=by omega
  go_enter func171,ntmps171
  go_wp2
  go_loop [12] (fun i=>∃ k:Nat,i=.int .i64 k∧k<=l.length∧Hid (∀ j,j<k->-1099511627776<=l.getD j 0∧l.getD j 0<=1099511627776)) (fun i=>l.length-(intOf i).toNat)
  case atStart=>exact⟨0,rfl,Nat.zero_le _,fun j u=>by omega⟩
  case round=>
   obtain⟨k,rfl,N,A⟩:=hrel;by_cases f:k<l.length
   ·rcases L.o with H | ⟨g,M,rfl,D⟩
    ·rw[H] at f;simp at f
    have I:=D k f;clear D;obtain⟨y,m⟩:∃ y,y=l.getD k 0:=⟨_,rfl⟩;rw[<-m] at I;have z:=Qc m;clear m;by_cases c:-1099511627776<=y∧y<=1099511627776
    ·have d:=Qc (decide_eq_true c)
     have p:=Qc c;clear c
     go_wp2_with(first | (go_at_call 170;refine(x.o _).mono ?_;rintro e J ⟨rfl,rfl⟩;rw[d.o]))
     go_round
     case rel=>
      refine⟨k+1,by go_num,by omega,fun j u=>?_⟩
      by_cases e:j=k
      ·rw[e,<-z.o];exact p.o
      ·exact A.out j (by omega)
     case measure=>simp[intOf];omega
    ·have d:=Qc (decide_eq_false c)
     have p:=Qc c;clear c
     go_wp2_with(first | (go_at_call 170;refine(x.o _).mono ?_;rintro e J ⟨rfl,rfl⟩;rw[d.o]))
     go_ret;refine⟨Y6 (t.o.trans (decide_eq_false fun h=>p.o ?_)).symm,rfl⟩
     rw[z.o];exact h.2 k f
   ·go_wp2
    go_ret;exact⟨Y6 (t.o.trans (decide_eq_true ⟨E,fun j u=>A.out j (by omega)⟩)).symm,rfl⟩
 ·have K:64<(l.length:Int):=by omega
  have d:Hid (decide (l.length<=64∧G6 l)=false):=decide_eq_false (fun h=>E h.1)
  go_enter func171,ntmps171
  go_wp2;go_ret;exact⟨Y6 (t.o.trans d.o).symm,rfl⟩
def ZfN (l:List Int) (k:Nat):Int:=if k=0 then 0 else l.getD (k-2) 0+1
theorem Znr {lo:Int} {l:List Int} {k:Nat} (c:k % 2=0) (b:∀ j,j<k->j % 2=0->Zhm lo l j):Zhm lo l k↔(ZfN l k<=l.getD k 0∧l.getD k 0<=255)∧lo<=l.getD (k+1) 0∧l.getD (k+1) 0<=1099511627776:=by
 unfold Zhm ZfN;by_cases a:k=0
 ·subst a
  simp;omega
 ·rw[if_neg a]
  have d:=(b (k-2) (by omega) (by omega)).1
  constructor
  ·rintro⟨h1,h2,h3,h4,h5⟩
   exact⟨⟨by have:=h3 (by omega);omega,h2⟩,h4,h5⟩
  ·rintro⟨⟨h1,h2⟩,h4,h5⟩
   exact⟨by omega,h2,fun _=>by omega,h4,h5⟩
theorem Zns (v:Value) (l:List Int) (lo:Int) (a b:Nat) (w:World) (hr:RdI w v l) (O:w.cell? ⟨a,0,none⟩=some (.int .i64 lo)) (V:w.cell? ⟨b,0,none⟩=some (.int .i64 1099511627776)):
 Calls prog 172 #[v,.func (.func 170) #[] #[.pointer (some ⟨a,0,none⟩),.pointer (some ⟨b,0,none⟩)]] w fun e w'=>e=.returned (.bool (decide (Zap lo l)))∧Below w.heap.size w w':=by
 have Y:Hid (∀ n W,Below w.heap.size w W->Calls prog 170 #[.int .i64 n,.pointer (some ⟨a,0,none⟩),.pointer (some ⟨b,0,none⟩)] W fun e w'=>e=.returned (.bool (decide (lo<=n∧n<=1099511627776)))∧w'=W):=fun n W h=>
  Zdu n _ _ a b W ((h.cell (World.block_lt_of_cell? w ⟨a,0,none⟩ O)).trans O) ((h.cell (World.block_lt_of_cell? w ⟨b,0,none⟩ V)).trans V)
 have U:=Qc (fun n l2 h2 F H W p1 p2=>Zdu n l2 h2 F H W p1 p2)
 have X:=Qc (fun p q W=>Gz p q W)
 obtain⟨ao,cap,rfl,-,-,-,-,ad⟩:=hr;have ai:=Qc ad;clear ad O V;obtain⟨R,M⟩:∃ R,R=decide (Zap lo l):=⟨_,rfl⟩;rw[<-M];have C:=Qc M;clear M;by_cases he:l.length % 2=0
 ·by_cases ae:l.length<=128
  ·have ab:(((l.length:Int).tmod 2) != 0)=false:=by rw[bne_eq_false_iff_eq,Int.tmod_eq_emod_of_nonneg (by omega)];omega
   have hq:¬ (128<(l.length:Int)):=by omega
   go_enter func172,ntmps172
   go_wp2
   go_loopw[5,6] (fun y i wr=>∃ k:Nat,y=.int .i64 (ZfN l k)∧i=.int .i64 k∧k<=l.length∧k % 2=0∧Hid (∀ j,j<k->j % 2=0->Zhm lo l j)∧Hid (Below w.heap.size w wr)) (fun _ i _=>l.length-(intOf i).toNat)
   case atStart=>exact⟨0,rfl,rfl,Nat.zero_le _,rfl,fun j hj=>by omega,Below.refl _ _⟩
   case round=>
    obtain⟨k,rfl,rfl,hk,T,Q,t⟩:=hrel;by_cases u:k<l.length
    ·rcases ai.o with h0 | ⟨g,K,rfl,B⟩
     ·rw[h0] at u;simp at u
     have ac:k+1<l.length:=by omega
     have J:Hid (∀ W,Below w.heap.size w W->W.cell? ⟨g,K+k,none⟩=some (.int .i64 (l.getD k 0))):=fun W h=>(h.cell (World.block_lt_of_cell? w ⟨g,K+k,none⟩ (B k u))).trans (B k u)
     have L:Hid (∀ W,Below w.heap.size w W->W.cell? ⟨g,K+(k+1),none⟩=some (.int .i64 (l.getD (k+1) 0))):=fun W h=>(h.cell (World.block_lt_of_cell? w ⟨g,K+(k+1),none⟩ (B (k+1) ac))).trans (B (k+1) ac)
     clear B;have x:=Qc (Znr (lo:=lo) T Q.out)
     have aa:Hid (ZfN l (k+2)=l.getD k 0+1):=by
      unfold ZfN;rw[if_neg (by omega)]
      exact rfl
     generalize ZfN l k=ls at *;obtain⟨y,d⟩:∃ y,y=l.getD k 0:=⟨_,rfl⟩;obtain⟨z,f⟩:∃ z,z=l.getD (k+1) 0:=⟨_,rfl⟩;rw[<-d] at J x aa;rw[<-f] at L x;have ag:=Qc d;clear d f;by_cases d:ls<=y∧y<=255
     ·have G:=Qc (decide_eq_true d)
      have E:=Qc d;by_cases f:lo<=z∧z<=1099511627776
      ·have N:=Qc (decide_eq_true f)
       have I:=Qc f;have aj:=d.2;have ak:0<=y:=by rw[ag.o];exact(x.o.2 ⟨E.o,I.o⟩).1
       clear d f
       go_wp2_with fail
       refine(X.o _ _ _).mono ?_;rintro e W1 ⟨F,H,rfl,D,A,m⟩;have c:=Qc (t.out.trans (m.mono t.out.size));have Z:=J.o _ c.o;have af:=L.o _ c.o;clear m
       go_wp2_with fail
       refine(U.o _ _ _ _ _ _ D A).mono ?_;rintro e W2 ⟨rfl,rfl⟩;rw[G.o]
       go_wp2_with fail
       refine(Y.o _ _ c.o).mono ?_;rintro e W3 ⟨rfl,rfl⟩;rw[N.o];go_wp2;go_roundw
       case rel=>
        refine⟨k+2,by rw[aa.o],by go_num,by omega,by omega,fun j hj P=>?_,c⟩
        by_cases e:j=k
        ·rw[e];exact x.o.2 ⟨E.o,I.o⟩
        ·exact Q.out j (by omega) P
       case measure=>simp[intOf];omega
      ·have N:=Qc (decide_eq_false f)
       have I:=Qc f;clear d f
       go_wp2_with fail
       refine(X.o _ _ _).mono ?_;rintro e W1 ⟨F,H,rfl,D,A,m⟩;have c:=Qc (t.out.trans (m.mono t.out.size));have Z:=J.o _ c.o;have af:=L.o _ c.o;clear m
       go_wp2_with fail
       refine(U.o _ _ _ _ _ _ D A).mono ?_;rintro e W2 ⟨rfl,rfl⟩;rw[G.o]
       go_wp2_with fail
       refine(Y.o _ _ c.o).mono ?_;rintro e W3 ⟨rfl,rfl⟩;rw[N.o];go_wp2;go_ret;exact⟨Y6 (C.o.trans (decide_eq_false fun h=>I.o (x.o.1 (h.2.2 k u T)).2)).symm,c.o⟩
     ·have G:=Qc (decide_eq_false d)
      have E:=Qc d;clear d
      go_wp2_with fail
      refine(X.o _ _ _).mono ?_;rintro e W1 ⟨F,H,rfl,D,A,m⟩;have c:=Qc (t.out.trans (m.mono t.out.size));have Z:=J.o _ c.o;have af:=L.o _ c.o;clear m
      go_wp2_with fail
      refine(U.o _ _ _ _ _ _ D A).mono ?_;rintro e W2 ⟨rfl,rfl⟩;rw[G.o];go_wp2;go_ret;exact⟨Y6 (C.o.trans (decide_eq_false fun h=>E.o (x.o.1 (h.2.2 k u T)).1)).symm,c.o⟩
    ·go_wp2
     go_ret;exact⟨Y6 (C.o.trans (decide_eq_true ⟨he,ae,fun j hj P=>Q.out j (by omega) P⟩)).symm,t.out⟩
  ·have ab:(((l.length:Int).tmod 2) != 0)=false:=by rw[bne_eq_false_iff_eq,Int.tmod_eq_emod_of_nonneg (by omega)];omega
   have hq:128<(l.length:Int):=by omega
   have S:Hid (decide (Zap lo l)=false):=decide_eq_false (fun h=>ae h.2.1)
   go_enter func172,ntmps172
   go_wp2;go_ret;exact⟨Y6 (C.o.trans S.o).symm,Below.refl _ _⟩
 ·have ab:(((l.length:Int).tmod 2) != 0)=true:=by rw[bne_iff_ne,Int.tmod_eq_emod_of_nonneg (by omega)];omega
  have S:Hid (decide (Zap lo l)=false):=decide_eq_false (fun h=>he h.1)
  go_enter func172,ntmps172
  go_wp2;go_ret;exact⟨Y6 (C.o.trans S.o).symm,Below.refl _ _⟩
theorem Zxh (b:kind=0∨kind=1) (l:List Int):(0<=kind∧kind<6∧Zd kind l)↔l.length=1∧-1099511627776<=l.getD 0 0∧l.getD 0 0<=1099511627776:=by
 rw[Yk (by omega) (by omega)]
 constructor
 ·rintro⟨_,_,_,h1,h2⟩
  exact⟨h1 (by omega),h2 0 (by have:=h1 (by omega);omega)⟩
 ·rintro⟨h1,h2⟩
  refine⟨by omega,by omega,by omega,fun _=>h1,fun j a=>?_⟩
  have e:j=0:=by omega
  rw[e];exact h2
theorem ZuT (a:kind=2∨kind=3) (l:List Int):(0<=kind∧kind<6∧Zd kind l)↔l.length<=64∧G6 l:=by
 rw[Yk (by omega) (by omega)]
 constructor
 ·rintro⟨_,_,h1,_,h2⟩
  exact⟨h1,h2⟩
 ·rintro⟨h1,h2⟩
  exact⟨by omega,by omega,h1,fun h=>by omega,h2⟩
theorem Zss (l:List Int):(0<=(4:Int)∧(4:Int)<6∧Zd 4 l)↔Zap (-1099511627776) l:=by
 unfold Zd;rw[if_pos rfl];exact⟨fun h=>h.2.2,fun h=>⟨by decide,by decide,h⟩⟩
theorem Zpu (l:List Int):(0<=(5:Int)∧(5:Int)<6∧Zd 5 l)↔Zap 0 l:=by
 unfold Zd;rw[if_neg (by decide),if_pos rfl]
 exact⟨fun h=>h.2.2,fun h=>⟨by decide,by decide,h⟩⟩
theorem ZjK (kind:Int) (v:Value) (l:List Int) (w:World) (H:RdI w v l):
 Calls prog 122 #[.int .i64 kind,v] w fun e w'=>e=.returned (.bool (decide (0<=kind∧kind<6∧Zd kind l)))∧Below w.heap.size w w':=by
 have t:=Qc (fun p q W=>Gz p q W)
 have I:Hid (∀ W,Below w.heap.size w W->RdI W v l):=fun W h=>H.below h zL
 obtain⟨R,O⟩:∃ R,R=decide (0<=kind∧kind<6∧Zd kind l):=⟨_,rfl⟩;rw[<-O];have x:=Qc O;clear O;by_cases D:kind=0∨kind=1
 ·have d:=Qc (Zxh D l)
  have i:((kind == 0)=true)∨((kind == 0)=false∧(kind == 1)=true):=by
   rcases D with rfl | rfl
   ·exact .inl rfl
   ·exact .inr ⟨rfl,rfl⟩
  have z:=Qc (fun n l2 h2 c f W B F=>Zdu n l2 h2 c f W B F)
  obtain⟨ao,cap,rfl,-,-,-,-,U⟩:=H;have X:=Qc U;clear U D I;by_cases m:l.length=1
  ·rcases X.o with h0 | ⟨g,P,rfl,N⟩
   ·rw[h0] at m;simp at m
   have S:Hid (∀ W,Below w.heap.size w W->W.cell? ⟨g,P,none⟩=some (.int .i64 (l.getD 0 0))):=fun W h=>(h.cell (World.block_lt_of_cell? w ⟨g,P,none⟩ (N 0 (by omega)))).trans (N 0 (by omega))
   clear N X;have HL:=Qc m;rw[m];clear m;obtain⟨y,Q⟩:∃ y,y=l.getD 0 0:=⟨_,rfl⟩;rw[<-Q] at S d;clear Q;rcases i with i | ⟨i,V⟩
   all_goals
    go_enter func122,ntmps122
    go_wp2_with fail
    refine(t.o _ _ _).mono ?_;rintro e A ⟨c,f,rfl,k,j,a⟩;have b:=Qc a;have aa:=S.o _ a;clear a
    go_wp2_with fail
    refine(z.o _ _ _ _ _ _ k j).mono ?_;rintro e K ⟨rfl,rfl⟩;go_wp2;go_ret;refine⟨Y6 ?_,b.o⟩;rw[x.o,<-Bool.decide_and];exact decide_eq_decide.2 ⟨fun h=>d.o.2 ⟨HL.o,h⟩,fun h=>(d.o.1 h).2⟩
  ·have hq:((l.length:Int) == 1)=false:=beq_eq_false_iff_ne.2 (by omega)
   have L:Hid (decide (0<=kind∧kind<6∧Zd kind l)=false):=decide_eq_false (fun h=>m (d.o.1 h).1)
   clear m;rcases i with i | ⟨i,V⟩
   all_goals
    go_enter func122,ntmps122
    go_wp2_with fail
    refine(t.o _ _ _).mono ?_;rintro e A ⟨c,f,rfl,k,j,a⟩;have b:=Qc a;clear a;go_wp2;go_ret;exact⟨Y6 (x.o.trans L.o).symm,b.o⟩
 ·have e0:(kind == 0)=false:=beq_eq_false_iff_ne.2 (by omega)
  have e1:(kind == 1)=false:=beq_eq_false_iff_ne.2 (by omega)
  by_cases J:kind=2∨kind=3
  ·have d:=Qc (ZuT J l)
   have i:((kind == 2)=true)∨((kind == 2)=false∧(kind == 3)=true):=by
    rcases J with rfl | rfl
    ·exact .inl rfl
    ·exact .inr ⟨rfl,rfl⟩
   have z:=Qc (fun c f W B F M=>Zpt v l c f W B F M)
   clear D J H;rcases i with i | ⟨i,V⟩
   all_goals
    go_enter func122,ntmps122
    go_wp2_with fail
    refine(t.o _ _ _).mono ?_;rintro e A ⟨c,f,rfl,k,j,a⟩;have b:=Qc a;clear a
    go_wp2_with fail
    refine(z.o _ _ _ (I.o _ b.o) k j).mono ?_;rintro e K ⟨rfl,rfl⟩;go_wp2;go_ret;refine⟨Y6 ?_,b.o⟩;rw[x.o,<-Bool.decide_and];exact decide_eq_decide.2 d.o.symm
  ·have Z:(kind == 2)=false:=beq_eq_false_iff_ne.2 (by omega)
   have e3:(kind == 3)=false:=beq_eq_false_iff_ne.2 (by omega)
   have z:=Qc (fun lo c f W B F M=>Zns v l lo c f W B F M)
   clear D J H;by_cases u:kind=4
   ·have e4:(kind == 4)=true:=beq_iff_eq.2 u
    have d:Hid (Zap (-1099511627776) l↔(0<=kind∧kind<6∧Zd kind l)):=by rw[u];exact(Zss l).symm
    clear u
    go_enter func122,ntmps122
    go_wp2_with fail
    refine(t.o _ _ _).mono ?_;rintro e A ⟨c,f,rfl,k,j,a⟩;have b:=Qc a;clear a
    go_wp2_with fail
    refine(z.o _ _ _ _ (I.o _ b.o) k j).mono ?_;rintro e K ⟨rfl,E⟩;have C:=Qc (b.o.trans (E.mono b.o.size));clear E;go_wp2;go_ret;refine⟨Y6 ?_,C.o⟩;rw[x.o];exact decide_eq_decide.2 d.o
   ·have e4:(kind == 4)=false:=beq_eq_false_iff_ne.2 u
    by_cases G:kind=5
    ·have e5:(kind == 5)=true:=beq_iff_eq.2 G
     have d:Hid (Zap 0 l↔(0<=kind∧kind<6∧Zd kind l)):=by rw[G];exact(Zpu l).symm
     clear u G
     go_enter func122,ntmps122
     go_wp2_with fail
     refine(t.o _ _ _).mono ?_;rintro e A ⟨a1,b1,rfl,_,_,a⟩;have b:=Qc a;clear a
     go_wp2_with fail
     refine(t.o _ _ _).mono ?_;rintro e K ⟨c,f,rfl,k,j,E⟩;have C:=Qc (b.o.trans (E.mono b.o.size));clear E
     go_wp2_with fail
     refine(z.o _ _ _ _ (I.o _ C.o) k j).mono ?_;rintro e W3 ⟨rfl,T⟩;have Y:=Qc (C.o.trans (T.mono C.o.size));clear T;go_wp2;go_ret;refine⟨Y6 ?_,Y.o⟩;rw[x.o];exact decide_eq_decide.2 d.o
    ·have e5:(kind == 5)=false:=beq_eq_false_iff_ne.2 G
     have L:Hid (decide (0<=kind∧kind<6∧Zd kind l)=false):=decide_eq_false (fun h=>by
      have n0:kind≠0:=beq_eq_false_iff_ne.1 e0;have n1:kind≠1:=beq_eq_false_iff_ne.1 e1;have n2:kind≠2:=beq_eq_false_iff_ne.1 Z;have n3:kind≠3:=beq_eq_false_iff_ne.1 e3
      omega)
     clear u G
     go_enter func122,ntmps122
     go_wp2_with fail
     refine(t.o _ _ _).mono ?_;rintro e A ⟨a1,b1,rfl,_,_,a⟩;have b:=Qc a;clear a;go_wp2;go_ret;exact⟨Y6 (x.o.trans L.o).symm,b.o⟩
theorem ZuU (kind:Int) (l:List Int) (a:Bool) (g:Int):Yl ⟨kind,l,a,g⟩↔(a=false->g=0)∧(0<=g∧g<=2)∧(0<=kind∧kind<6∧Zd kind l):=
 ⟨fun h=>⟨h.2.2.1,⟨h.1,h.2.1⟩,h.2.2.2.1,h.2.2.2.2.1,h.2.2.2.2.2⟩,fun h=>⟨h.2.1.1,h.2.1.2,h.1,h.2.2.1,h.2.2.2.1,h.2.2.2.2⟩⟩
theorem ZlG (v:Value) (s:St) (w:World) (hs:StV w v s):
 Calls prog 82 #[v] w fun e w'=>e=.returned (.bool (decide (Yl s)))∧Below w.heap.size w w':=by
 obtain⟨G,rfl,y,-,-⟩:=hs;obtain⟨kind,l,c,g⟩:=s;simp only at y ⊢;have H:=Qc (fun p q W=>Gz p q W)
 have I:=Qc (fun n S L T Y W Q p2=>Zdu n S L T Y W Q p2)
 have P:Hid (∀ W,Below w.heap.size w W->Calls prog 122 #[.int .i64 kind,G] W fun e w'=>e=.returned (.bool (decide (0<=kind∧kind<6∧Zd kind l)))∧Below W.heap.size W w'):=fun W h=>ZjK kind G l W (y.below h zL)
 have u:=Qc (ZuU kind l c g);obtain⟨R,D⟩:∃ R,R=decide (Yl ⟨kind,l,c,g⟩):=⟨_,rfl⟩;rw[<-D];have E:=Qc D;have m:Hid (∀ x,Below w.heap.size w (w.alloc x)):=fun x=>(Below.refl _ _).alloc zL x
 clear D y;by_cases t:c=false∧g≠0
 ·obtain⟨rfl,C⟩:=t
  have hq:(g != 0)=true:=bne_iff_ne.2 C;have U:Hid (decide (Yl ⟨kind,l,false,g⟩)=false):=decide_eq_false (fun h=>C ((u.o.1 h).1 rfl))
  clear C
  go_enter func82,ntmps82
  go_wp2;go_ret;exact⟨Y6 (E.o.trans U.o).symm,m.o _⟩
 ·have i:((g != 0)=false)∨((g != 0)=true∧c=true):=by
   by_cases d:g=0
   ·exact .inl (bne_eq_false_iff_eq.2 d)
   ·cases c
    ·exact absurd ⟨rfl,d⟩ t
    ·exact .inr ⟨bne_iff_ne.2 d,rfl⟩
  have V:Hid (c=false->g=0):=fun h=>by
   by_cases d:g=0
   ·exact d
   ·exact absurd ⟨h,d⟩ t
  clear t;by_cases f:0<=g∧g<=2
  ·have B:=Qc (decide_eq_true f)
   have N:=Qc f;clear f
   have F:Hid (decide (0<=kind∧kind<6∧Zd kind l)=R):=by
    rw[E.o];exact decide_eq_decide.2 ⟨fun h=>u.o.2 ⟨V.o,N.o,h⟩,fun h=>(u.o.1 h).2.2⟩
   rcases i with i | ⟨i,rfl⟩
   all_goals
    go_enter func82,ntmps82
    go_wp2_with fail
    refine(H.o _ _ _).mono ?_;rintro e k ⟨O,Z,rfl,A,z,a⟩;have b:=(a.block w.heap.size (by simp)).trans (heap_alloc_new w _)
    have q0:=cell_of_row k w.heap.size 0 _ _ _ b;have q1:=cell_of_row k w.heap.size 1 _ _ _ b;have X:=cell_of_row k w.heap.size 3 _ _ _ b;have j:=Qc ((m.o _).trans (a.mono (m.o _).size));clear a b
    go_wp2_with fail
    refine(I.o _ _ _ _ _ _ A z).mono ?_;rintro e M ⟨rfl,rfl⟩;rw[B.o]
    go_wp2_with fail
    refine(P.o _ j.o).mono ?_;rintro e W3 ⟨rfl,J⟩;rw[F.o];have K:=Qc (j.o.trans (J.mono j.o.size));clear J;go_wp2;go_ret;exact⟨rfl,K.o⟩
  ·have B:=Qc (decide_eq_false f)
   have F:Hid (R=false):=E.o.trans (decide_eq_false fun h=>f (u.o.1 h).2.1)
   clear f;rcases i with i | ⟨i,rfl⟩
   all_goals
    go_enter func82,ntmps82
    go_wp2_with fail
    refine(H.o _ _ _).mono ?_;rintro e k ⟨O,Z,rfl,A,z,a⟩;have b:=(a.block w.heap.size (by simp)).trans (heap_alloc_new w _)
    have X:=cell_of_row k w.heap.size 3 _ _ _ b;have j:=Qc ((m.o _).trans (a.mono (m.o _).size));clear a b
    go_wp2_with fail
    refine(I.o _ _ _ _ _ _ A z).mono ?_;rintro e M ⟨rfl,rfl⟩;rw[B.o];go_wp2;go_ret;exact⟨Y6 F.o.symm,j.o⟩
theorem ZlH (o:Opn) (w:World):
 Calls prog 80 #[opV o] w fun e w'=>e=.returned (.bool (decide (Ge o)))∧Below w.heap.size w w':=by
 obtain⟨c,a,b⟩:=o;have M:=Qc (fun p q W=>Gz p q W)
 have C:=Qc (fun n V P I K W S p2=>Zdu n V P I K W S p2)
 have k:Hid (Ge ⟨c,a,b⟩↔(0<=c∧c<=10)∧(-1099511627776<=a∧a<=1099511627776)∧(-1099511627776<=b∧b<=1099511627776)):=
  ⟨fun h=>⟨⟨h.1,h.2.1⟩,⟨h.2.2.1,h.2.2.2.1⟩,h.2.2.2.2⟩,fun h=>⟨h.1.1,h.1.2,h.2.1.1,h.2.1.2,h.2.2⟩⟩
 obtain⟨R,z⟩:∃ R,R=decide (Ge ⟨c,a,b⟩):=⟨_,rfl⟩;rw[<-z];have Y:=Qc z;have N:Hid (∀ x,Below w.heap.size w (w.alloc x)):=fun x=>(Below.refl _ _).alloc zL x
 clear z
 have go:∀ i j u,Hid (decide (0<=c∧c<=10)=i)->Hid (decide (-1099511627776<=a∧a<=1099511627776)=j)->Hid (decide (-1099511627776<=b∧b<=1099511627776)=u)->Hid ((i && j && u)=R)->
  Calls prog 80 #[.agg #[.int .i64 c,.int .i64 a,.int .i64 b]] w fun e w'=>e=.returned (.bool R)∧Below w.heap.size w w':=by
  intro i j u T U H3 D
  go_enter func80,ntmps80
  go_wp2_with fail
  refine(M.o _ _ _).mono ?_;rintro e G ⟨Q,Z,rfl,f,d,m⟩;have F:=Qc ((N.o _).trans (m.mono (N.o _).size));have A:=Qc ((m.block w.heap.size (by simp)).trans (heap_alloc_new w _))
  have v:=Qc f;have y:=Qc d;clear m f d
  go_wp2_with fail
  refine(M.o _ _ _).mono ?_;rintro e t ⟨I,K,rfl,H,L,g⟩;have l:=(g.block w.heap.size (Array.getElem?_eq_some_iff.1 A.o).1).trans A.o;have q0:=cell_of_row t w.heap.size 0 _ _ _ l;have q1:=cell_of_row t w.heap.size 1 _ _ _ l;have q2:=cell_of_row t w.heap.size 2 _ _ _ l;have f:=(g.cell (World.block_lt_of_cell? G ⟨Q,0,none⟩ v.o)).trans v.o;have d:=(g.cell (World.block_lt_of_cell? G ⟨Z,0,none⟩ y.o)).trans y.o;have B:=Qc (F.o.trans (g.mono F.o.size));have aa:=Qc f;have X:=Qc d;have E:=Qc H;have O:=Qc L;clear g l A v y f d H L
  go_wp2_with fail
  refine(C.o _ _ _ _ _ _ aa.o X.o).mono ?_;rintro e J ⟨rfl,rfl⟩;rw[T.o]
  cases i
  ·go_wp2
   go_ret;exact⟨Y6 (by rw[<-D.o];rfl),B.o⟩
  ·go_wp2_with fail
   refine(C.o _ _ _ _ _ _ E.o O.o).mono ?_;rintro e J ⟨rfl,rfl⟩;rw[U.o]
   cases j
   ·go_wp2
    go_ret;exact⟨Y6 (by rw[<-D.o];rfl),B.o⟩
   ·go_wp2_with fail
    refine(C.o _ _ _ _ _ _ E.o O.o).mono ?_;rintro e J ⟨rfl,rfl⟩;rw[H3.o];go_wp2;go_ret;exact⟨Y6 (by rw[<-D.o];rfl),B.o⟩
 refine go _ _ _ rfl rfl rfl (Qc ?_);rw[Y.o,<-Bool.decide_and,<-Bool.decide_and];exact decide_eq_decide.2 ⟨fun h=>k.o.2 ⟨h.1.1,h.1.2,h.2⟩,fun h=>⟨⟨(k.o.1 h).1,(k.o.1 h).2.1⟩,(k.o.1 h).2.2⟩⟩
theorem Zxi (v:Value) (s:St) (w:World) (C:StV w v s) (d:s.L.length<=1000000):
 Calls prog 81 #[v] w fun e w'=>∃ vl',e=.returned (.agg #[.int .i64 s.kind,vl',.bool s.shut,.int .i64 s.eng])∧Qs w' w.heap.size vl' s.L∧Below w.heap.size w w':=by
 obtain⟨m,rfl,b,-,-⟩:=C;obtain⟨kind,l,p,g⟩:=s;simp only at b d ⊢;have u:Hid (∀ W,Below w.heap.size w W->Calls prog 39 #[m] W fun e w'=>∃ v',e=.returned v'∧Qs w' W.heap.size v' l∧Below W.heap.size W w'):=fun W h=>ZfI m l W (b.below h zL) d
 have f:Hid (∀ x y,Below w.heap.size w ((w.alloc x).alloc y)):=fun x y=>((Below.refl _ _).alloc zL x).alloc (by simp) y
 clear b d
 go_enter func81,ntmps81
 go_wp2_with fail
 refine(u.o _ (f.o _ _)).mono ?_;rintro e j ⟨D,rfl,k,c⟩;have a:ZoK j w.heap.size _ _:=(ZoK.made w _ _).below c (by simp)
 have F:=(a.s 0).1;have K:=(a.s 1).1;have G:=(a.s 2).1;have J:=(a.s 3).1;have N:=(a.s 1).2;have n:=(a.r 0).1;have B:=(a.r 1).1;have z:=(a.r 2).1;have t:=(a.r 3).1;have E:=(a.r 0).2;have M:=(a.r 1).2;have H:=(a.r 2).2;have I:=(a.r 3).2;have q:=Qc ((f.o _ _).trans (c.mono (f.o _ _).size))
 have i:Qs j (w.heap.size+1+1) D l:=by
  have e:∀ x y,((w.alloc x).alloc y).heap.size=w.heap.size+1+1:=fun x y=>by simp
  rwa [e] at k
 have A:=Qc i;obtain⟨ao,cap,rfl⟩:=i.shape;clear c a k i;go_wp2;refine bodyPost_ret (v:=.agg #[.int .i64 kind,.slice ao l.length cap,.bool p,.int .i64 g]) (by simp[results,Tryz.results81,go_sem,n,B,z,t]) rfl ?_
 exact⟨_,rfl,(A.o.five w.heap.size (w.heap.size+1) (by omega) (by omega) _ _ _ _ _).mono (by omega),Zue q.o w.heap.size (w.heap.size+1) zL (by omega) _ _ _ _ _⟩
open Go.RowKit Go.ChangeShapes
theorem ZlI:prog.cellsOf 52=3:=by kernel_rfl
section
variable {H:Type} {enc:TypeId × Value->H} {w:World} {base fuel:Nat} {held:Bool}
theorem ZeI {cs:List Value} {x:DataW H × List MemPlace} (h:DataW.trod enc prog w base (fun _=>true) held fuel 52 cs=some x):
 ∃ (o:Opn),cs=[.int .i64 o.code,.int .i64 o.a,.int .i64 o.b]∧Zyw o:=by
 obtain⟨xs,n,_,_,f,m,c⟩:=DataW.trod_struct underlying52 h;rw[ZlI] at f
 match xs,m,cs,f with
 | [y0,y1,y2],_,[c0,c1,c2],_=>
  have i:=c 0 _ rfl;have g:=c 1 _ rfl;have l:=c 2 _ rfl;simp[ZhT] at i g l;obtain⟨k,j,_,p⟩:=DataW.trod_int underlying3 i;obtain⟨a,d,_,t⟩:=DataW.trod_int underlying3 g;obtain⟨b,e,_,q⟩:=DataW.trod_int underlying3 l;simp only [List.cons.injEq,and_true] at j d e;subst j d e;exact⟨⟨k,a,b⟩,rfl,Z1 p,Z1 t,Z1 q⟩
end
theorem ZuV (h:Yl s):∀ x ∈ s.L,I64 x:=by
 have g:=h.2.2.2.1;have f:=h.2.2.2.2.1;have a:=h.2.2.2.2.2;by_cases b:s.kind=4
 ·rw[b,Zbq] at a
  exact ZaB (by decide) (by decide) a.2
 ·by_cases c:s.kind=5
  ·rw[c,ZaK] at a
   exact ZaB (by decide) (by decide) a.2
  ·have d:=(J6 _).1 ((Yk b c).1 a).2.2
   intro x e;have:=d x e;exact Qo (by omega) (by omega)
theorem ZlJ (h:Yl s):s.L.length<=128:=by
 have e:=h.2.2.2.1;have d:=h.2.2.2.2.1;have a:=h.2.2.2.2.2;by_cases b:s.kind=4
 ·rw[b,Zbq] at a
  exact a.1
 ·by_cases c:s.kind=5
  ·rw[c,ZaK] at a
   exact a.1
  ·have:=((Yk b c).1 a).1
   omega
theorem Zst (h:Yl s) (b:s.shut=false) (o:Opn) (c:o.code=10):Zz s o=(⟨s.kind,s.L,true,if 0<=o.a∧o.a<=2 then o.a else s.eng⟩,0):=by
 unfold Zz;rw[if_neg (fun e=>e h),if_neg (by simp[b]),if_pos c]
theorem Zkt (h:Yl s) (a:s.shut=false) (o:Opn) (b:o.code≠10):Zz s o=if s.kind<=1 then Zef s o else if s.kind<=3 then Zq s o else if s.kind=4 then Z5 s o else Yd s o:=by
 unfold Zz;rw[if_neg (fun e=>e h),if_neg (by simp[a]),if_neg b]
theorem Zpv (s:St) (o:Opn):(Z5 s o).1.kind=s.kind∧(Z5 s o).1.shut=s.shut∧(Z5 s o).1.eng=s.eng:=by
 rw[Zgi];exact Zfr s o
theorem Zpw {r:St × Int} {s:Bool} (h:r.1.kind=k∧r.1.shut=s∧r.1.eng=g):r=(⟨k,r.1.L,s,g⟩,r.2):=by
 obtain⟨⟨d,e,f,i⟩,j⟩:=r;obtain⟨a,b,c⟩:=h;simp only at a b c;rw[a,b,c]
theorem ZyM (s:St) (v:Value) (o:Opn) (B:Nat) (w:World) (k:Qs w B v s.L) (t:B<=w.heap.size) (d:Yl s):
 Calls prog 83 #[.agg #[.int .i64 s.kind,v,.bool s.shut,.int .i64 s.eng],opV o] w fun e w'=>Did B w v (Zz s o) e w':=by
 obtain⟨kind,l,y,g⟩:=s
 cases y with
 | true=>
  rw[ZrH d rfl];exact Zpq kind g l v o B w k
 | false=>
  have A:0<=kind:=d.2.2.2.1;have C:kind<6:=d.2.2.2.2.1;have u:=d.2.2.2.2.2;obtain⟨c,a,b⟩:=o;by_cases i:c=10
  ·rw[Zst d rfl _ i]
   subst i;exact Zpr kind g a b l v B w k
  ·rw[Zkt d rfl _ i]
   by_cases p:kind<=1
   ·rw[if_pos p]
    obtain⟨j,f,x⟩:=ZAf d p;exact Zsr kind g (by omega) l v ⟨c,a,b⟩ i B w k j f x
   ·rw[if_neg p]
    by_cases n:kind<=3
    ·rw[if_pos n,Zpw (Zhr ⟨kind,l,false,g⟩ ⟨c,a,b⟩)]
     exact Zps kind g (by omega) l _ _ v c a b i B w k (fun W j f=>Zxe kind (by omega) v l ⟨c,a,b⟩ false g B W j f (ZuV d) (ZAg d n)) t
    ·rw[if_neg n]
     by_cases q:kind=4
     ·rw[if_pos q,Zpw (Zpv ⟨kind,l,false,g⟩ ⟨c,a,b⟩)]
      subst q;have m:=(Zbq l).1 u;exact Znq 4 g rfl l _ _ v c a b i B w k (fun W j f=>Zsq v l ⟨c,a,b⟩ false g B W j f m.2 m.1) t
     ·rw[if_neg q,Zpw (ZdF ⟨kind,l,false,g⟩ ⟨c,a,b⟩)]
      have z:kind=5:=by omega
      subst z;have m:=(ZaK l).1 u;exact ZlF 5 g rfl l _ _ v c a b i B w k (fun W j f=>Zpp v l ⟨c,a,b⟩ false g B W j f m.2 m.1) t
theorem Zxj (v:Value) (s:St) (o:Opn) (w:World) (hs:StV w v s) (U:s.L.length<=1000000):
 Calls prog 42 #[v,opV o] w fun e w'=>Zfs w (lval v) s.L (Zz s o) e w':=by
 obtain⟨Z,rfl,I,D,G⟩:=hs;rw[ZqB];obtain⟨kind,l,f,g⟩:=s;simp only at I D G U ⊢;have K:=Qc I.i64;have Y:Hid (∀ W,Below w.heap.size w W->Calls prog 81 #[.agg #[.int .i64 kind,Z,.bool f,.int .i64 g]] W fun e w'=>∃ vl',e=.returned (.agg #[.int .i64 kind,vl',.bool f,.int .i64 g])∧Qs w' W.heap.size vl' l∧Below W.heap.size W w'):=fun W h=>Zxi _ ⟨kind,l,f,g⟩ W ⟨Z,rfl,I.below h zL,D,G⟩ U
 have ai:Hid (∀ i W,RdI W i l->Calls prog 82 #[.agg #[.int .i64 kind,i,.bool f,.int .i64 g]] W fun e w'=>e=.returned (.bool (decide (Yl ⟨kind,l,f,g⟩)))∧Below W.heap.size W w'):=fun i W h=>ZlG _ ⟨kind,l,f,g⟩ W ⟨i,rfl,h,D,G⟩
 have A:Hid (∀ x y z,Below w.heap.size w (((w.alloc x).alloc y).alloc z)):=fun x y z=>(Zy w x y z).1
 have J:Hid (∀ x y z,(((w.alloc x).alloc y).alloc z).heap.size=w.heap.size+1+1+1):=fun x y z=>ZAe w x y z
 have ar:=Qc D;have an:=Qc G;obtain⟨n,a,b⟩:=o;clear I D G U;show Calls prog _ #[_,.agg #[.int .i64 n,.int .i64 a,.int .i64 b]] w _;by_cases u:Yl ⟨kind,l,f,g⟩
 ·have Q:=Qc (decide_eq_true u)
  have ac:Hid (∀ i B W,Qs W B i l->B<=W.heap.size->Calls prog 83 #[.agg #[.int .i64 kind,i,.bool f,.int .i64 g],.agg #[.int .i64 n,.int .i64 a,.int .i64 b]] W fun e w'=>Did B W i (Zz ⟨kind,l,f,g⟩ ⟨n,a,b⟩) e w'):=fun i B W h1 h2=>ZyM ⟨kind,l,f,g⟩ i ⟨n,a,b⟩ B W h1 h2 u
  have C:=ZhG u ⟨n,a,b⟩;have ae:=Qc (ZuV C);have aj:Hid (I64 (Zz ⟨kind,l,f,g⟩ ⟨n,a,b⟩).1.kind):=Qo (by have:=C.2.2.2.1;omega) (by have:=C.2.2.2.2.1;omega)
  have af:Hid (I64 (Zz ⟨kind,l,f,g⟩ ⟨n,a,b⟩).1.eng):=Qo (by have:=C.1;omega) (by have:=C.2.1;omega)
  obtain⟨⟨⟨k',L',s',g'⟩,n'⟩,ad⟩:∃ r,r=Zz ⟨kind,l,f,g⟩ ⟨n,a,b⟩:=⟨_,rfl⟩;rw[<-ad] at ac ae aj af ⊢;clear u C ad
  go_enter func42,ntmps42
  go_wp2_with fail
  refine(Y.o _ (A.o _ _ _)).mono ?_;rintro e c ⟨i,rfl,p,q⟩;rw[J.o] at p;have H:=Qc ((Da.made w _ _ _).below q (by simp))
  have t:=Qc ((A.o _ _ _).trans (q.mono (A.o _ _ _).size));have E:=Qc p;have N:=q.size;rw[J.o] at N;obtain⟨ao,cap,rfl⟩:=p.shape;clear q p
  go_wp2_with fail
  refine(ai.o _ _ ((E.o.alloc _).rd K.o)).mono ?_;rintro e m ⟨rfl,j⟩;rw[Q.o];have P:=Qc ((t.o.alloc t.o.size _).trans (j.mono (by have:=t.o.size;simp;omega)))
  have F:=Qc ((E.o.alloc _).below j zL);have ap:=j.size;have d:=(H.o.below ((Below.refl c.heap.size c).alloc zL _) (by omega)).below j (by simp;omega)
  have k:=(j.block c.heap.size (by simp)).trans (heap_alloc_new c _)
  have aq:=Qc d;obtain⟨p0,-⟩:=d.o 0;obtain⟨p1,-⟩:=d.o 1;obtain⟨p2,-⟩:=d.o 2;have q0:=cell_of_row m c.heap.size 0 _ _ _ k;have q1:=cell_of_row m c.heap.size 1 _ _ _ k;have q2:=cell_of_row m c.heap.size 2 _ _ _ k;have q3:=cell_of_row m c.heap.size 3 _ _ _ k;have aa:w.heap.size+1+1+1<=m.heap.size:=by simp at ap;omega
  clear j d k H
  go_wp2_with fail
  refine(ac.o _ _ _ F.o aa).mono ?_;rintro e W3 ⟨v3,rfl,O,ag⟩;have S:=ag.below F.o aa;have d:=aq.o.below S zL;obtain⟨R,t0⟩:=d.r 0;obtain⟨X,t1⟩:=d.r 1;obtain⟨V,t2⟩:=d.r 2;obtain⟨M,t3⟩:=d.r 3;have al:=Qc (P.o.trans (S.mono (by omega)))
  have ab:=Qc O;obtain⟨ak,am,rfl⟩:=O.shape;clear S ag d O;go_wp2;refine bodyPost_ret (v:=.tuple #[.agg #[.int .i64 k',.slice ak L'.length am,.bool s',.int .i64 g'],.int .i64 n']) (by simp[results,Tryz.results42,go_sem,R,X,V,M]) rfl ?_
  refine Zfs.fresh ((ab.o.four (w.heap.size+1+1) (by omega) _ _ _ _).rd ae.o) aj.o af.o n' (fun b T=>?_) (Zae al.o (w.heap.size+1+1) (by omega) _ _ _ _)
  have:=ab.o.fresh b T;omega
 ·have Q:=Qc (decide_eq_false u)
  have HR:=Qc (ZhF u ⟨n,a,b⟩);rw[HR.o];clear u
  go_enter func42,ntmps42
  go_wp2_with fail
  refine(Y.o _ (A.o _ _ _)).mono ?_;rintro e c ⟨i,rfl,p,q⟩;rw[J.o] at p;have H:=Qc ((Da.made w _ _ _).below q (by simp))
  have t:=Qc ((A.o _ _ _).trans (q.mono (A.o _ _ _).size));have E:=Qc p;have N:=q.size;rw[J.o] at N;obtain⟨ao,cap,rfl⟩:=p.shape;clear q p
  go_wp2_with fail
  refine(ai.o _ _ ((E.o.alloc _).rd K.o)).mono ?_;rintro e m ⟨rfl,j⟩;rw[Q.o];have P:=Qc ((t.o.alloc t.o.size _).trans (j.mono (by have:=t.o.size;simp;omega)))
  have F:=Qc ((E.o.alloc _).below j zL);have d:=(H.o.below ((Below.refl c.heap.size c).alloc zL _) (by omega)).below j (by simp;omega)
  have k:=(j.block c.heap.size (by simp)).trans (heap_alloc_new c _)
  obtain⟨R,t0⟩:=d.r 0;obtain⟨X,t1⟩:=d.r 1;obtain⟨V,t2⟩:=d.r 2;obtain⟨M,t3⟩:=d.r 3;have q0:=cell_of_row m c.heap.size 0 _ _ _ k;have q1:=cell_of_row m c.heap.size 1 _ _ _ k;have q2:=cell_of_row m c.heap.size 2 _ _ _ k;have q3:=cell_of_row m c.heap.size 3 _ _ _ k;clear j d k H;go_wp2;refine bodyPost_ret (v:=.tuple #[.agg #[.int .i64 kind,.slice ao l.length cap,.bool f,.int .i64 g],.int .i64 0]) (by simp[results,Tryz.results42,go_sem,R,X,V,M]) rfl ?_
  refine Zfs.fresh ((F.o.four (w.heap.size+1+1) (by omega) _ _ _ _).rd K.o) ar.o an.o 0 (fun b T=>?_) (Zae P.o (w.heap.size+1+1) (by omega) _ _ _ _)
  have:=F.o.fresh b T;omega
theorem Zsu (s:St) (o:Opn):I64 (Zz s o).2:=by
 by_cases h:s.kind≠4∨s.shut=true∨o.code=10∨o.code=5∨o.code=6∨o.code=7∨(0<=o.a∧o.a<=255)
 ·rw[ZwJ s o h]
  exact Zug s o
 ·by_cases d:Yl s
  ·have b:s.kind=4:=by
    by_cases b:s.kind=4
    ·exact b
    ·exact absurd (.inl b) h
   have c:s.shut=false:=by
    cases c:s.shut
    ·rfl
    ·exact absurd (.inr (.inl c)) h
   have f:o.code≠10:=fun e=>h (.inr (.inr (.inl e)))
   have g:¬ (0<=o.a∧o.a<=255):=fun e=>h (.inr (.inr (.inr (.inr (.inr (.inr e))))))
   rw[Zkt d c o f,if_neg (by omega),if_neg (by omega),if_pos b]
   unfold Z5;rw[if_pos (by omega)]
   exact(Qo (by decide) (by decide):I64 (-1))
  ·rw[ZhF d]
   exact(Qo (by decide) (by decide):I64 0)
theorem ZyN (n a b:Int) (B:Bool) (i:B=decide (a<=n∧n<=b)) (w:World):
 Calls prog 79 #[.int .i64 n,.int .i64 a,.int .i64 b] w fun e w'=>e=.returned (.bool B)∧w'=w:=by
 have c:=ZZ i;clear i;by_cases f:a<=n
 ·by_cases g:n<=b
  ·have d:Hid (true=B):=ZZ (by rw[c.o,decide_eq_true ⟨f,g⟩])
   clear c
   go_enter func79,ntmps79
   go_wp2;go_ret;exact⟨Y6 d.o,rfl⟩
  ·have d:Hid (false=B):=ZZ (by rw[c.o,decide_eq_false fun h=>g h.2])
   clear c
   go_enter func79,ntmps79
   go_wp2;go_ret;exact⟨Y6 d.o,rfl⟩
 ·have d:Hid (false=B):=ZZ (by rw[c.o,decide_eq_false fun h=>f h.1])
  clear c
  go_enter func79,ntmps79
  go_wp2;go_ret;exact⟨Y6 d.o,rfl⟩
theorem Zpx (r:Rec):Qz r↔(0<=r.idx∧r.idx<=4611686018427387903)∧(0<=r.proc∧r.proc<=64)∧(0<=r.seq∧r.seq<=4611686018427387903)∧Ge r.op∧(-1125899906842624<=r.resp∧r.resp<=1125899906842624):=by
 unfold Qz;constructor
 ·rintro⟨h1,h2,h3,h4,h5,h6,h7,h8,h9⟩
  exact⟨⟨h2,by omega⟩,⟨h6,h7⟩,⟨h4,by omega⟩,h1,h8,h9⟩
 ·rintro⟨⟨h2,h3⟩,⟨h6,h7⟩,⟨h4,h5⟩,h1,h8,h9⟩
  exact⟨h1,h2,by omega,h4,by omega,h6,h7,h8,h9⟩
theorem Zig (r:Rec) (w:World):
 Calls prog 41 #[Zso r] w fun e w'=>e=.returned (.bool (decide (Qz r)))∧Below w.heap.size w w':=by
 obtain⟨B,A⟩:∃ B,B=decide (Qz r):=⟨_,rfl⟩;rw[<-A];have g:=ZZ (Zpx r);have H:=ZZ (fun W=>ZlH r.op W)
 have f:=ZZ A;clear A;obtain⟨idx,proc,seq,⟨D,a,b⟩,resp⟩:=r;show Calls prog _ #[.agg #[.int .i64 idx,.int .i64 proc,.int .i64 seq,.int .i64 D,.int .i64 a,.int .i64 b,.int .i64 resp]] w _;have m:Hid (∀ X,Below w.heap.size w (w.alloc X)):=fun X=>(Below.refl _ _).alloc zL X
 have G:Hid (∀ cs,Br (w.alloc (.cells cs 62)) w.heap.size cs):=fun cs=>heap_alloc_new w _
 have q:Hid (∀ W,Calls prog 80 #[.agg #[.int .i64 D,.int .i64 a,.int .i64 b]] W fun e w'=>e=.returned (.bool (decide (Ge ⟨D,a,b⟩)))∧Below W.heap.size W w'):=H.o
 clear H;have c:=ZZ (fun n a b B A W=>ZyN n a b B A W)
 by_cases k:0<=idx∧idx<=4611686018427387903
 case neg=>
  have i:Hid (false=B):=ZZ (by rw[f.o,decide_eq_false fun h=>k (g.o.1 h).1])
  have J:=ZZ (decide_eq_false k).symm;clear f g k q
  go_enter func41,ntmps41
  go_wp2_with fail
  refine(c.o _ _ _ _ J.o _).mono ?_;rintro e d ⟨rfl,rfl⟩;go_wp2;go_ret;exact⟨Y6 i.o,m.o _⟩
 have x:=ZZ (decide_eq_true k).symm;by_cases l:0<=proc∧proc<=64
 case neg=>
  have i:Hid (false=B):=ZZ (by rw[f.o,decide_eq_false fun h=>l (g.o.1 h).2.1])
  have v:=ZZ (decide_eq_false l).symm;clear f g k l q
  go_enter func41,ntmps41
  go_wp2_with fail
  refine(c.o _ _ _ _ x.o _).mono ?_;rintro e d ⟨rfl,rfl⟩
  go_wp2_with fail
  refine(c.o _ _ _ _ v.o _).mono ?_;rintro e d ⟨rfl,rfl⟩;go_wp2;go_ret;exact⟨Y6 i.o,m.o _⟩
 have v:=ZZ (decide_eq_true l).symm;by_cases p:0<=seq∧seq<=4611686018427387903
 case neg=>
  have i:Hid (false=B):=ZZ (by rw[f.o,decide_eq_false fun h=>p (g.o.1 h).2.2.1])
  have z:=ZZ (decide_eq_false p).symm;clear f g k l p q
  go_enter func41,ntmps41
  go_wp2_with fail
  refine(c.o _ _ _ _ x.o _).mono ?_;rintro e d ⟨rfl,rfl⟩
  go_wp2_with fail
  refine(c.o _ _ _ _ v.o _).mono ?_;rintro e d ⟨rfl,rfl⟩
  go_wp2_with fail
  refine(c.o _ _ _ _ z.o _).mono ?_;rintro e d ⟨rfl,rfl⟩;go_wp2;go_ret;exact⟨Y6 i.o,m.o _⟩
 have z:=ZZ (decide_eq_true p).symm;by_cases t:Ge ⟨D,a,b⟩
 case neg=>
  have i:Hid (false=B):=ZZ (by rw[f.o,decide_eq_false fun h=>t (g.o.1 h).2.2.2.1])
  rw[decide_eq_false t] at q;clear f g k l p t
  go_enter func41,ntmps41
  go_wp2_with fail
  refine(c.o _ _ _ _ x.o _).mono ?_;rintro e d ⟨rfl,rfl⟩
  go_wp2_with fail
  refine(c.o _ _ _ _ v.o _).mono ?_;rintro e d ⟨rfl,rfl⟩
  go_wp2_with fail
  refine(c.o _ _ _ _ z.o _).mono ?_;rintro e d ⟨rfl,rfl⟩
  go_wp2_with fail
  refine(q.o _).mono ?_;rintro e F ⟨rfl,j⟩;have C:=ZZ ((m.o _).trans (j.mono (m.o _).size));clear j;go_wp2;go_ret;exact⟨Y6 i.o,C.o⟩
 rw[decide_eq_true t] at q;by_cases u:-1125899906842624<=resp∧resp<=1125899906842624
 case neg=>
  have i:Hid (false=B):=ZZ (by rw[f.o,decide_eq_false fun h=>u (g.o.1 h).2.2.2.2])
  have E:=ZZ (decide_eq_false u).symm;clear f g k l p t u
  go_enter func41,ntmps41
  go_wp2_with fail
  refine(c.o _ _ _ _ x.o _).mono ?_;rintro e d ⟨rfl,rfl⟩
  go_wp2_with fail
  refine(c.o _ _ _ _ v.o _).mono ?_;rintro e d ⟨rfl,rfl⟩
  go_wp2_with fail
  refine(c.o _ _ _ _ z.o _).mono ?_;rintro e d ⟨rfl,rfl⟩
  go_wp2_with fail
  refine(q.o _).mono ?_;rintro e F ⟨rfl,j⟩;have y:=(G.out _).below j zL;have C:=ZZ ((m.o _).trans (j.mono (m.o _).size));obtain⟨I,-⟩:=y.cell 6;clear j y
  go_wp2_with fail
  refine(c.o _ _ _ _ E.o _).mono ?_;rintro e K ⟨rfl,rfl⟩;go_wp2;go_ret;exact⟨Y6 i.o,C.o⟩
 have i:Hid (true=B):=ZZ (by rw[f.o,decide_eq_true (g.o.2 ⟨k,l,p,t,u⟩)])
 have E:=ZZ (decide_eq_true u).symm;clear f g k l p t u
 go_enter func41,ntmps41
 go_wp2_with fail
 refine(c.o _ _ _ _ x.o _).mono ?_;rintro e d ⟨rfl,rfl⟩
 go_wp2_with fail
 refine(c.o _ _ _ _ v.o _).mono ?_;rintro e d ⟨rfl,rfl⟩
 go_wp2_with fail
 refine(c.o _ _ _ _ z.o _).mono ?_;rintro e d ⟨rfl,rfl⟩
 go_wp2_with fail
 refine(q.o _).mono ?_;rintro e F ⟨rfl,j⟩;have y:=(G.out _).below j zL;have C:=ZZ ((m.o _).trans (j.mono (m.o _).size));obtain⟨I,-⟩:=y.cell 6;clear j y
 go_wp2_with fail
 refine(c.o _ _ _ _ E.o _).mono ?_;rintro e K ⟨rfl,rfl⟩;go_wp2;go_ret;exact⟨Y6 i.o,C.o⟩
def Zih (w:World) (vl0 vt0:Value) (l:List Rec) (r:Q0 × Int) (e:Ending) (w':World):Prop:=
 ∃ vl vt,e=.returned (.tuple #[.agg #[.int .i64 r.1.idx,.int .i64 r.1.st.kind,vl,.bool r.1.st.shut,.int .i64 r.1.st.eng,vt],.int .i64 r.2])∧RdI w' vl r.1.st.L∧I64 r.1.st.kind∧I64 r.1.st.eng∧RdE w' vt r.1.tab∧I64 r.1.idx∧
  (vl=vl0∨∀ b,vl.ownBlock=some b->w.heap.size<=b)∧((l=[]∧vt=vt0)∨Xn w' w.heap.size vt r.1.tab)∧Below w.heap.size w w'
def Znt (w:World) (S:Q0) (wr:World):Prop:=
 ∃ la lc ta tc,Bn wr w.heap.size #[.int .i64 S.idx,.int .i64 S.st.kind,.slice la S.st.L.length lc,.bool S.st.shut,.int .i64 S.st.eng,.slice ta S.tab.length tc]∧
  Bn wr (w.heap.size+1) #[.int .i64 0,.int .i64 0,.slice none 0 0,.bool false,.int .i64 0,.slice none 0 0]∧
  RdI wr (.slice la S.st.L.length lc) S.st.L∧(∀ b,(Value.slice la S.st.L.length lc).ownBlock=some b->w.heap.size+2<=b)∧
  Xn wr (w.heap.size+2) (.slice ta S.tab.length tc) S.tab∧(∀ e ∈ S.tab,Zlx e)∧I64 S.idx∧I64 S.st.kind∧I64 S.st.eng∧Below w.heap.size w wr
theorem Qs.freshI {l:List Int} (h:Qs w B v l):∀ b,v.ownBlock=some b->B<=b:=fun b a=>(World.ownsRow.lt h b a).1
theorem Xn.butN {l:List Ent} (h:Xn w B v l) (c:But R T w w') (a:∀ b,v.ownBlock=some b->b≠R∧b≠T):Xn w' B v l:=by
 rcases h.row with ⟨rfl,rfl⟩ | ⟨g,cap,cur,rfl,j,i,e,m,f,k,d⟩
 ·exact Xn.nil _ _
 ·have:=a g rfl
  exact Xn.ofRow rfl j ((c.block g i this.1 this.2).trans e) m f k d
theorem Xn.but {l:List Ent} (h:Xn w B v l) (a:But R T w w') (c:R<B) (d:T<B):Xn w' B v l:=
 h.butN a (fun b a=>by have:=h.fresh b a;omega)
theorem Zii {l:Bool} {A:Value} {L:List Int} {g:Nat}
 (m:Bn W w.heap.size #[.int .i64 idx,.int .i64 kind,A,.bool l,.int .i64 k,v]) (t:Bn W (w.heap.size+1) #[.int .i64 0,.int .i64 0,.slice none 0 0,.bool false,.int .i64 0,.slice none 0 0])
 (j:Qs W (w.heap.size+2) (.slice c L.length g) L) (u:∀ n ∈ L,I64 n) (y:Xn W (w.heap.size+2) (.slice f a.length d) a) (q:∀ e ∈ a,Zlx e) (p:I64 idx) (z:I64 kind) (x:I64 k) (B:Below w.heap.size w W):
 Znt w ⟨idx,⟨kind,L,l,k⟩,a⟩ ((W.setCell ⟨w.heap.size,2,none⟩ (.slice c L.length g)).setCell ⟨w.heap.size,5,none⟩ (.slice f a.length d)):=by
 have i:But w.heap.size w.heap.size W ((W.setCell ⟨w.heap.size,2,none⟩ (.slice c L.length g)).setCell ⟨w.heap.size,5,none⟩ (.slice f a.length d)):=((But.refl _ _ _).set _ _ (.inl rfl) _).set _ _ (.inl rfl) _;refine⟨c,g,f,d,(m.set 2 _).set 5 _,(t.other 2 _ (by omega)).other 5 _ (by omega),(j.rd u).but i (.inr fun b h=>?_),j.freshI,y.but i (by omega) (by omega),q,p,z,x,Zaf B i (by have:=m.lt;omega) zL zL⟩
 have:=j.freshI b h;omega
theorem ZuW (o:Opn) (h:s.L.length<=1000):(Zz s o).1.L.length<=1000:=by
 by_cases a:Yl s
 ·have:=(Zer (ZhG a o)).2.1
  omega
 ·rw[ZhF a]
  exact h
theorem Zsv {s:Q0} {l:List Rec} {q:Nat} (a:q<l.length):Q3 s (l.drop q)=if(l.getD q Qi).idx≠s.idx then(Yb,15) else if ¬ Qz (l.getD q Qi) then(Yb,1) else Q3 (ZhH s (l.getD q Qi)) (l.drop (q+1)):=by
 have e:l.drop q=l.getD q Qi::l.drop (q+1):=by
  rw[List.drop_eq_getElem_cons a];simp[List.getD,a]
 rw[e,Q3]
def ZfO (W:World) (R Q:Nat) (k:Int) (v:Value) (sh:Bool) (g n:Int):World:=
 ((((W.setCell ⟨R,1,none⟩ (.int .i64 k)).setCell ⟨R,2,none⟩ v).setCell ⟨R,3,none⟩ (.bool sh)).setCell ⟨R,4,none⟩ (.int .i64 g)).setCell ⟨Q,6,none⟩ (.int .i64 n)
theorem Br.other {c:Nat} {cs:Array Value} (h:Br w b cs) (j:Nat) (x:Value) (a:b≠c):Br (w.setCell ⟨c,j,none⟩ x) b cs:=(Below.heap_setCell _ _ _ _ a).trans h
theorem Zpy (W:World) (R Q:Nat) (k:Int) (v:Value) (a:Bool) (g n:Int):But R Q W (ZfO W R Q k v a g n):=
 (((((But.refl R Q W).set _ _ (.inl rfl) _).set _ _ (.inl rfl) _).set _ _ (.inl rfl) _).set _ _ (.inl rfl) _).set _ _ (.inr rfl) _
theorem Zsw (f:R≠Q) {b i d e j c:Value} (h:Bn W R #[b,i,d,e,j,c]) (k:Int) (v:Value) (a:Bool) (g n:Int):Bn (ZfO W R Q k v a g n) R #[b,.int .i64 k,v,.bool a,.int .i64 g,c]:=
 ((((h.set 1 _).set 2 _).set 3 _).set 4 _).other 6 _ f
theorem Zsx (a:Q≠R) {c e b d f i j:Value} (h:Br W Q #[c,e,b,d,f,i,j]) (k:Int) (v:Value) (l:Bool) (g n:Int):Br (ZfO W R Q k v l g n) Q #[c,e,b,d,f,i,.int .i64 n]:=
 ((((h.other 1 _ a).other 2 _ a).other 3 _ a).other 4 _ a).set 6 _
theorem Zpz {C:Nat} (a:C≠R) (b:C≠Q) {cs:Array Value} (h:Bn W C cs) (k:Int) (v:Value) (c:Bool) (g n:Int):Bn (ZfO W R Q k v c g n) C cs:=
 ((((h.other 1 _ a).other 2 _ a).other 3 _ a).other 4 _ a).other 6 _ b
theorem ZpA {j:Int} {k:Bool} {u:Value} {L:List Int} {g:Nat}
 (m:Bn W w.heap.size #[.int .i64 idx,.int .i64 kind,.slice c L.length g,.bool k,.int .i64 j,u]) (t:Bn W (w.heap.size+1) #[.int .i64 0,.int .i64 0,.slice none 0 0,.bool false,.int .i64 0,.slice none 0 0])
 (q:RdI W (.slice c L.length g) L) (l:∀ b,(Value.slice c L.length g).ownBlock=some b->w.heap.size+2<=b) (x:Xn W (w.heap.size+2) (.slice f a.length d) a) (p:∀ e ∈ a,Zlx e) (n:I64 (idx+1)) (y:I64 kind) (v:I64 j) (z:Below w.heap.size w W):
 Znt w ⟨idx+1,⟨kind,L,k,j⟩,a⟩ ((W.setCell ⟨w.heap.size,5,none⟩ (.slice f a.length d)).setCell ⟨w.heap.size,0,none⟩ (.int .i64 (idx+1))):=by
 have i:But w.heap.size w.heap.size W ((W.setCell ⟨w.heap.size,5,none⟩ (.slice f a.length d)).setCell ⟨w.heap.size,0,none⟩ (.int .i64 (idx+1))):=((But.refl _ _ _).set _ _ (.inl rfl) _).set _ _ (.inl rfl) _;refine⟨c,g,f,d,(m.set 5 _).set 0 _,(t.other 5 _ (by omega)).other 0 _ (by omega),q.but i (.inr fun b h=>?_),l,x.but i (by omega) (by omega),p,n,y,v,Zaf z i (by have:=m.lt;omega) zL zL⟩
 have:=l b h;omega
theorem Zih.zero (d c:Value) (l:List Rec) (n:Int) (a:Below w.heap.size w w'):Zih w d c l (Yb,n) (.returned (.tuple #[.agg #[.int .i64 0,.int .i64 0,.slice none 0 0,.bool false,.int .i64 0,.slice none 0 0],.int .i64 n])) w':=
 ⟨_,_,rfl,RdI.nil _,(Qo (by decide) (by decide):I64 0),(Qo (by decide) (by decide):I64 0),RdE.nil _,(Qo (by decide) (by decide):I64 0),.inr (fun b a=>by simp[Value.ownBlock] at a),.inr (Xn.nil _ _),a⟩
theorem Zij {P:Q0->Prop} (aS:∀ S r,P S->Qz r->P (ZhH S r)) (aQ:∀ S,P S->S.tab.length<=1500) (idx kind:Int) (vl:Value) (F:Bool) (J:Int) (vt:Value) (s:Q0) (vr:Value) (l:List Rec) (w:World) (hs:SnV w (.agg #[.int .i64 idx,.int .i64 kind,vl,.bool F,.int .i64 J,vt]) s) (hr:RdR w vr l) (bl:s.st.L.length<=1000) (bA:s.tab.length<=1000) (b1:l.length<=1000000000) (a9:P s):
 Calls prog 15 #[.agg #[.int .i64 idx,.int .i64 kind,vl,.bool F,.int .i64 J,vt],vr] w fun e w'=>Zih w vl vt l (Q3 s l) e w':=by
 obtain⟨vl',b5,Q,hl,hk,z,ht,hi⟩:=hs
 injection Q with Q
 injection Q with Q
 simp only [List.cons.injEq,Value.int.injEq,Value.bool.injEq,and_true,true_and] at Q;obtain⟨rfl,rfl,rfl,rfl,rfl,rfl⟩:=Q;obtain⟨la,lc,bF,-⟩:=id hl;obtain⟨ta,tc,bG⟩:=ht.shape;subst bF bG;obtain⟨ra,rc,rfl,bQ,bw,-,bp,aZ⟩:=hr;have bJ:=ZZ aS;have bu:=ZZ aQ;clear aS aQ;have bb:=ZZ aZ;have aX:=ZZ bp;obtain⟨idx,⟨kind,L,F,J⟩,ac⟩:=s
 dsimp only at *
 have a4:=ZZ a9;clear a9;obtain⟨I,aF⟩:∃ I,I=Q3 ⟨idx,⟨kind,L,F,J⟩,ac⟩ l:=⟨_,rfl⟩;rw[<-aF];have bo:=ZZ aF;have a3:Hid (∀ (S:Q0) (q:Nat),q<l.length->Q3 S (l.drop q)=if(l.getD q Qi).idx≠S.idx then(Yb,15) else if ¬ Qz (l.getD q Qi) then(Yb,1) else Q3 (ZhH S (l.getD q Qi)) (l.drop (q+1))):=ZZ (fun S q hq=>Zsv hq)
 clear aF aZ bp bQ bw;have bg:=ZZ (fun W (h:Below w.heap.size w W)=>ZfI _ L W (hl.below h zL) (by omega))
 have aW:=ZZ (fun W (h:Below w.heap.size w W)=>ZfJ _ ac W (ht.below h zL) (by omega))
 have aG:=ZZ hl.i64;have aV:∀ e ∈ ac,Zlx e:=ht.choose_spec.choose_spec.2.2.2.2.1;have bc:=ZZ aV;have u:Hid (∀ X Y,Below w.heap.size w ((w.alloc X).alloc Y)):=fun X Y=>((Below.refl _ _).alloc zL X).alloc (by simp) Y
 have R:Hid (∀ cs ds,Bn ((w.alloc (.cells cs 41)).alloc (.cells ds 41)) w.heap.size cs):=fun cs ds=>(Below.heap_alloc _ _ _ (by simp)).trans (heap_alloc_new w _)
 have i:Hid (∀ cs ds,Bn ((w.alloc (.cells cs 41)).alloc (.cells ds 41)) (w.heap.size+1) ds):=fun cs ds=>ZdR w _ _
 clear hl ht aV
 go_enter func15,ntmps15
 go_upto_region 1 with fail
 obtain⟨d,f⟩:∃ d,d=(w.alloc (.cells #[.int .i64 idx,.int .i64 kind,.slice la L.length lc,.bool F,.int .i64 J,.slice ta ac.length tc] 41)).alloc (.cells #[.int .i64 0,.int .i64 0,.slice none 0 0,.bool false,.int .i64 0,.slice none 0 0] 41):=⟨_,rfl⟩;have H:Hid (Below w.heap.size w d):=ZZ (by rw[f];exact u.o _ _)
 have y:Hid (Bn d w.heap.size #[.int .i64 idx,.int .i64 kind,.slice la L.length lc,.bool F,.int .i64 J,.slice ta ac.length tc]):=ZZ (by rw[f];exact R.o _ _)
 have aY:Hid (Bn d (w.heap.size+1) #[.int .i64 0,.int .i64 0,.slice none 0 0,.bool false,.int .i64 0,.slice none 0 0]):=ZZ (by rw[f];exact i.o _ _)
 have bK:d.heap.size=w.heap.size+2:=by rw[f];simp
 rw[<-f];clear f u R i;obtain⟨p2,g2⟩:=y.o.cell 2;obtain⟨p5,g5⟩:=y.o.cell 5
 go_cut[] (fun wc=>Hid (Znt w ⟨idx,⟨kind,L,F,J⟩,ac⟩ wc))
 case first=>
  go_region_with
   (first
    | (go_at_call 39;refine(bg.o _ (by first | exact H.o.drew | exact H.o)).mono ?_;rintro e W1 ⟨v1,rfl,aN,k⟩;have am:Below d.heap.size d W1:=(by first | exact((Below.refl _ _).drew).trans k | exact k);have bR:=ZZ aN;have E:=ZZ am;obtain⟨a1,c1,bN⟩:∃ a c,v1=.slice a L.length c:=(by obtain⟨a,c,h,-⟩:=aN.rd aG.o;exact⟨a,c,h⟩);subst bN;obtain⟨q2,k2⟩:=(y.o.below am zL).cell 2;obtain⟨q5,k5⟩:=(y.o.below am zL).cell 5;clear aN k am)
    | (go_at_call 40;refine(aW.o _ (H.o.trans (E.o.mono H.o.size))).mono ?_;rintro e W2 ⟨v2,rfl,aB,m⟩;have bS:=ZZ aB;have ai:=ZZ (E.o.trans (m.mono E.o.size));have bP:=ZZ (bR.o.below m zL);obtain⟨a2,c2,aA⟩:=aB.shape;subst aA;obtain⟨r2,j2⟩:=(y.o.below ai.o zL).cell 2;obtain⟨r5,j5⟩:=(y.o.below ai.o zL).cell 5;clear aB m))
  all_goals
   go_wp2_with fail
   go_meet
   exact ZZ (Zii (y.o.below ai.o zL) (aY.o.below ai.o zL) (bP.o.mono (by first | omega | (show w.heap.size+2<=d.heap.size;omega))) aG.o (bS.o.mono (by have:=E.o.size;omega)) bc.o hi hk z (H.o.trans (ai.o.mono H.o.size)))
 case rest=>
  have bm:=hcut;clear hcut H y aY bK p2 g2 p5 g5 bg aW aG bc d hk z hi;go_wp2
  go_loopw[20] (fun vi wr=>∃ (q:Nat) (S:Q0),vi=.int .i64 (q:Int)∧q<=l.length∧Hid (Znt w S wr)∧Hid (I=Q3 S (l.drop q))∧Hid (S.st.L.length<=1000)∧Hid (P S)) (fun vi _=>l.length-(intOf vi).toNat)
  case atStart=>exact⟨0,_,rfl,Nat.zero_le _,bm,bo,ZZ bl,a4⟩
  case round=>
   clear bm bo bl bA a4;obtain⟨q,S,rfl,hq,hT,an,bk,a8⟩:=hrel;obtain⟨sa,sc,ea,ec,A,t,hL,a6,hE,aT,hi,hk,z,hB⟩:=hT.out;clear hT;have HX:=ZZ A;have HY:=ZZ t;have HL:=ZZ hL;have au:=ZZ a6;have HE:=ZZ hE;have aH:=ZZ aT;have ak:=ZZ (And.intro hi (And.intro hk z));have HB:=ZZ hB;have bv:=ZZ t.lt;obtain⟨p0,g0⟩:=A.cell 0;obtain⟨p1,g1⟩:=A.cell 1;obtain⟨p2,g2⟩:=A.cell 2;obtain⟨p3,g3⟩:=A.cell 3;obtain⟨p4,g4⟩:=A.cell 4;obtain⟨p5,g5⟩:=A.cell 5;obtain⟨Z,y0⟩:=t.cell 0;obtain⟨V,y1⟩:=t.cell 1;obtain⟨z2,y2⟩:=t.cell 2;obtain⟨z3,y3⟩:=t.cell 3;obtain⟨U,y4⟩:=t.cell 4;obtain⟨T,y5⟩:=t.cell 5;clear A t hL a6 hE aT hi hk z hB;by_cases M:q<l.length
   case neg=>
    obtain rfl:q=l.length:=by omega
    have N:Hid (I=(S,0)):=ZZ (by rw[an.out,List.drop_length];rfl)
    clear an;have bX:¬ (w.heap.size=w.heap.size+1):=by omega
    go_wp2;refine bodyPost_ret (v:=.tuple #[.agg #[.int .i64 S.idx,.int .i64 S.st.kind,.slice sa S.st.L.length sc,.bool S.st.shut,.int .i64 S.st.eng,.slice ea S.tab.length ec],.int .i64 0]) (by simp[results,Tryz.results15,go_sem,Z,V,z2,z3,U,T]) rfl ?_
    rw[N.o];have aE:=ZqQ wr (w.heap.size+1) (.int .i64 S.idx) (.int .i64 S.st.kind) (.slice sa S.st.L.length sc) (.bool S.st.shut) (.int .i64 S.st.eng) (.slice ea S.tab.length ec);exact⟨_,_,rfl,HL.o.but aE (.inr fun b h=>by have:=au.o b h;omega),ak.o.2.1,ak.o.2.2,(HE.o.rd aH.o).but aE (.inr fun b h=>by have:=HE.o.fresh b h;omega),ak.o.1,.inr (fun b h=>by have:=au.o b h;omega),.inr ((HE.o.but aE (by omega) (by omega)).mono (by omega)),ZeF HB.o _ (by omega) _ _ _ _ _ _⟩
   have bY:(q:Int)<(l.length:Int):=by omega
   rcases bb.o with h0 | ⟨c,b3,rfl,hc⟩
   ·rw[h0] at M;simp at M
   obtain⟨c0,c1,c2,c3,c4,c5,c6⟩:=(hc q M).keep (HB.o.block c (hc q M).lt);have C:=ZZ (a3.o S q M);rw[<-an.out] at C;have ag:=ZZ (fun W=>Zig (l.getD q Qi) W)
   have O:Hid (Zcx (l.getD q Qi)):=ZZ (aX.o _ (by rw[show l.getD q Qi=l[q] by simp[List.getD,M]];exact List.getElem_mem M))
   obtain⟨r,hr⟩:∃ r,r=l.getD q Qi:=⟨_,rfl⟩;rw[<-hr] at C ag O c0 c1 c2 c3 c4 c5 c6;clear hr hc a3 bb aX an;obtain⟨bf,aC⟩:∃ bf,bf=decide (Qz r):=⟨_,rfl⟩;rw[<-aC] at ag;have aI:=ZZ aC;clear aC;have b4:=bv.o;clear p0 p1 p2 p3 p4 p5 g0 g1 g2 g3 g4 g5 Z V z2 z3 U T y0 y1 y2 y3 y4 y5
   go_upto_region 5 with fail
   obtain⟨d,f⟩:∃ d,d=wr.alloc (.cells (Ja r) 62):=⟨_,rfl⟩;have u:Hid (Below wr.heap.size wr d):=ZZ (by rw[f];exact(Below.refl _ _).alloc zL _)
   have g:Hid (Br d wr.heap.size (Ja r)):=ZZ (by rw[f];exact heap_alloc_new wr _)
   unfold Ja at f;rw[<-f];clear f c0 c1 c2 c3 c4 c5 c6;unfold Ja at g;unfold Zso at ag;obtain⟨j,av⟩:∃ j,j=wr.heap.size:=⟨_,rfl⟩;have R:=ZZ (HX.o.below u.o zL);have i:=ZZ (HY.o.below u.o zL);have ar:=ZZ (HB.o.trans (u.o.mono HB.o.size));rw[<-av] at g ⊢;obtain⟨p0,g0⟩:=R.o.cell 0;obtain⟨k0,-⟩:=g.o.cell 0;obtain⟨k1,-⟩:=g.o.cell 1;obtain⟨k2,-⟩:=g.o.cell 2;obtain⟨k3,-⟩:=g.o.cell 3;obtain⟨k4,-⟩:=g.o.cell 4;obtain⟨k5,-⟩:=g.o.cell 5;obtain⟨k6,-⟩:=g.o.cell 6;by_cases aa:r.idx=S.idx
   case neg=>
    have N:Hid (I=(Yb,15)):=ZZ (by rw[C.o,if_pos aa])
    have bH:(r.idx != S.idx)=true:=by rw[bne_iff_ne];exact aa
    obtain⟨Z,y0⟩:=i.o.cell 0;obtain⟨V,y1⟩:=i.o.cell 1;obtain⟨z2,y2⟩:=i.o.cell 2;obtain⟨z3,y3⟩:=i.o.cell 3;obtain⟨U,y4⟩:=i.o.cell 4;obtain⟨T,y5⟩:=i.o.cell 5;clear aa C av;go_wp2;refine bodyPost_ret (v:=.tuple #[.agg #[.int .i64 0,.int .i64 0,.slice none 0 0,.bool false,.int .i64 0,.slice none 0 0],.int .i64 15]) (by simp[results,Tryz.results15,go_sem,Z,V,z2,z3,U,T]) rfl ?_
    rw[N.o];exact Zih.zero _ _ _ _ (Zbf ar.o _ (by omega) _ _ _ _ _ _)
   have bH:(r.idx != S.idx)=false:=by rw[bne_eq_false_iff_eq];exact aa
   have aK:=ZZ aa;have af:=ZZ av;clear aa av
   go_wp2_with fail
   refine(ag.o _).mono ?_;rintro x W1 ⟨rfl,k⟩;have E:=ZZ (u.o.trans (k.mono u.o.size));have ay:=ZZ (ar.o.trans (k.mono ar.o.size));have al:=ZZ (R.o.below k zL);have p:=ZZ (i.o.below k zL);have aj:=ZZ (g.o.below k zL);clear k u ar R i g ag p0 g0 k0 k1 k2 k3 k4 k5 k6
   cases bf with
   | false=>
    have N:Hid (I=(Yb,1)):=ZZ (by rw[C.o,if_neg (by rw[aK.o];simp),if_pos (of_decide_eq_false aI.o.symm)])
    obtain⟨Z,y0⟩:=p.o.cell 0;obtain⟨V,y1⟩:=p.o.cell 1;obtain⟨z2,y2⟩:=p.o.cell 2;obtain⟨z3,y3⟩:=p.o.cell 3;obtain⟨U,y4⟩:=p.o.cell 4;obtain⟨T,y5⟩:=p.o.cell 5;clear C;go_wp2;refine bodyPost_ret (v:=.tuple #[.agg #[.int .i64 0,.int .i64 0,.slice none 0 0,.bool false,.int .i64 0,.slice none 0 0],.int .i64 1]) (by simp[results,Tryz.results15,go_sem,Z,V,z2,z3,U,T]) rfl ?_
    rw[N.o];exact Zih.zero _ _ _ _ (Zbf ay.o _ (by omega) _ _ _ _ _ _)
   | true=>
    have aw:Hid (Qz r):=ZZ (of_decide_eq_true aI.o.symm);have N:Hid (I=Q3 (ZhH S r) (l.drop (q+1))):=ZZ (by rw[C.o,if_neg (by rw[aK.o];simp),if_neg (fun h=>h aw.o)])
    have D:=ZZ (Zxj (.agg #[.int .i64 S.st.kind,.slice sa S.st.L.length sc,.bool S.st.shut,.int .i64 S.st.eng]) S.st r.op W1 ⟨_,rfl,HL.o.below E.o zL,ak.o.2.1,ak.o.2.2⟩ (by have:=bk.out;omega))
    rw[ZqB] at D;have ax:=ZZ (ZuW r.op bk.out);have ap:=ZZ (Zsu S.st r.op);have ao:Hid (ZhH S r=⟨S.idx+1,(Zz S.st r.op).1,ZcF S.tab ⟨r.proc,r.seq,(Zz S.st r.op).2⟩⟩):=ZZ rfl;have ba:=ZZ (Zul S.tab ⟨r.proc,r.seq,(Zz S.st r.op).2⟩);obtain⟨so,bi⟩:∃ so,so=Zz S.st r.op:=⟨_,rfl⟩;rw[<-bi] at D ax ap ao ba;clear bi C aI;obtain⟨⟨k',L',sh',g'⟩,n'⟩:=so
    dsimp only at D ax ap ao ba
    unfold opV at D;unfold Zfs at D
    dsimp only at D
    obtain⟨p1,g1⟩:=al.o.cell 1;obtain⟨p2,g2⟩:=al.o.cell 2;obtain⟨p3,g3⟩:=al.o.cell 3;obtain⟨p4,g4⟩:=al.o.cell 4;obtain⟨k3,-⟩:=aj.o.cell 3;obtain⟨k4,-⟩:=aj.o.cell 4;obtain⟨k5,-⟩:=aj.o.cell 5
    go_wp2_with fail
    refine D.o.mono ?_;rintro x W2 ⟨v2,rfl,aJ,bd,aU,aO,m⟩;clear D p1 g1 p2 g2 p3 g3 p4 g4 k3 k4 k5;have ab:=ZZ (al.o.below m zL);have br:=ZZ (p.o.below m zL);have B:=ZZ (aj.o.below m zL);have a0:=ZZ (ay.o.trans (m.mono ay.o.size));have bU:=ZZ ((HE.o.below E.o zL).below m zL);obtain⟨a2,n2,aA⟩:∃ a c,v2=.slice a L'.length c:=by obtain⟨a,c,h,-⟩:=aJ;exact⟨a,c,h⟩
    subst aA;have b0:j<W1.heap.size:=aj.o.lt
    have bt:Hid (L'=[]∨∀ b,(Value.slice a2 L'.length n2).ownBlock=some b->b≠w.heap.size∧b≠j):=ZZ (by
     rcases aO with ⟨K,h2⟩ | h
     ·rw[K,h2]
      rcases HL.o.old with h3 | h3
      ·exact .inl h3
      ·exact .inr fun b n=>by
        have h4:=h3 b n;have h5:=au.o b n;have h6:=af.o;omega
     ·exact .inr fun b n=>by
       have h4:=h b n;have h5:=p.o.lt
       omega)
    have bz:Hid (∀ b,(Value.slice a2 L'.length n2).ownBlock=some b->w.heap.size+2<=b):=ZZ (fun b n=>by
     rcases aO with ⟨K,h2⟩ | h
     ·rw[K] at n
      exact au.o b n
     ·have h4:=h b n
      have h5:=p.o.lt
      omega)
    have bT:Hid (∀ b,(Value.slice ea S.tab.length ec).ownBlock=some b->b≠w.heap.size∧b≠j):=ZZ (fun b n=>by
     have K:=World.ownsRow.lt HE.o b n;have h2:=af.o
     omega)
    have aR:w.heap.size≠j:=by have:=af.o;omega
    have bx:j≠w.heap.size:=fun h=>aR h.symm
    have bV:w.heap.size+1≠j:=by have:=af.o;omega
    have bM:=ZZ aJ;have bn:=ZZ (And.intro bd aU);clear aJ bd aU aO m;obtain⟨G,ad⟩:∃ G,G=ZfO W2 w.heap.size j k' (.slice a2 L'.length n2) sh' g' n':=⟨_,rfl⟩;have bC:Hid (Bn G w.heap.size #[.int .i64 S.idx,.int .i64 k',.slice a2 L'.length n2,.bool sh',.int .i64 g',.slice ea S.tab.length ec]):=ZZ (by rw[ad];exact Zsw aR ab.o _ _ _ _ _)
    have bZ:Hid (Br G j #[.int .i64 r.idx,.int .i64 r.proc,.int .i64 r.seq,.int .i64 r.op.code,.int .i64 r.op.a,.int .i64 r.op.b,.int .i64 n']):=ZZ (by rw[ad];exact Zsx bx B.o _ _ _ _ _)
    have bj:Hid (Bn G (w.heap.size+1) #[.int .i64 0,.int .i64 0,.slice none 0 0,.bool false,.int .i64 0,.slice none 0 0]):=ZZ (by rw[ad];exact Zpz (by omega) bV br.o _ _ _ _ _)
    have az:Hid (But w.heap.size j W2 G):=ZZ (by rw[ad];exact Zpy _ _ _ _ _ _ _ _)
    have bI:=ZZ (bM.o.but az.o bt.o);have bL:=ZZ (bU.o.butN az.o bT.o);have be:=ZZ (Zaf a0.o az.o a0.o.size zL (by have:=af.o;omega))
    have aq:=ZZ (ZuP (.slice ea S.tab.length ec) S.tab ⟨r.idx,r.proc,r.seq,r.op,n'⟩ G (bL.o.rd aH.o) ⟨O.o.1,O.o.2.1,O.o.2.2.1,O.o.2.2.2.1,ap.o⟩ (by have:=bu.o _ a8.out;omega))
    unfold Zso at aq
    dsimp only at aq
    have aP:=ad;unfold ZfO at aP;have s1:=(ab.o.cell 1);have s2:=(ab.o.cell 2);have s3:=(ab.o.cell 3);have s4:=(ab.o.cell 4);have s5:=(ab.o.cell 5);obtain⟨s1,u1⟩:=s1;obtain⟨s2,u2⟩:=s2;obtain⟨s3,u3⟩:=s3;obtain⟨s4,u4⟩:=s4;obtain⟨s5,u5⟩:=s5;obtain⟨t0,m0⟩:=B.o.cell 0;obtain⟨t1,m1⟩:=B.o.cell 1;obtain⟨t2,m2⟩:=B.o.cell 2;obtain⟨t3,m3⟩:=B.o.cell 3;obtain⟨t4,m4⟩:=B.o.cell 4;obtain⟨t5,m5⟩:=B.o.cell 5;obtain⟨t6,m6⟩:=B.o.cell 6;clear ad
    go_wp2_with fail
    rw[<-aP];refine aq.o.mono ?_;rintro x W5 ⟨v5,rfl,aD,ae⟩;clear aP s1 s2 s3 s4 s5 u1 u2 u3 u4 u5 t0 t1 t2 t3 t4 t5 t6 m0 m1 m2 m3 m4 m5 m6 aq;have aM:=ZZ (bC.o.below ae zL);have bq:=ZZ (bj.o.below ae zL);have bD:=ZZ (bI.o.below ae zL);have bE:=ZZ (be.o.trans (ae.mono be.o.size));have bB:=ZZ (aD.mono (B':=w.heap.size+2) (by have:=bj.o.lt;omega))
    obtain⟨a5,c5,bO⟩:=aD.shape;subst bO
    have bW:Hid (∀ e ∈ ZcF S.tab ⟨r.proc,r.seq,n'⟩,Zlx e):=ZZ (fun e z=>by
     unfold ZcF at z;rcases(ZhA _ _ _ _).1 z with ⟨-,h⟩ | ⟨h,-⟩
     ·rw[h]
      exact⟨O.o.2.1,O.o.2.2.1,ap.o⟩
     ·exact aH.o e h)
    have aL:Hid (I64 (S.idx+1)):=ZZ (by
     have K:=aw.o;unfold Qz at K;have h2:=aK.o
     exact⟨by omega,by omega⟩)
    have b2:IntKind.i64.wrap (S.idx+1)=S.idx+1:=by
     have:=aL.o;rw[IntKind.wrap_i64];obtain⟨K,h2⟩:=this;omega
    obtain⟨p0,g0⟩:=aM.o.cell 0;obtain⟨p5,g5⟩:=aM.o.cell 5;clear aD ae;have a7:-9223372036854775808<=S.idx+1∧S.idx+1<=9223372036854775807:=aL.o;obtain⟨a7,k⟩:=a7;go_wp2;go_roundw
    case rel=>
     exact⟨q+1,ZhH S r,by go_num,by omega,ZZ (by rw[ao.o];exact ZpA aM.o bq.o bD.o bz.o bB.o bW.o aL.o bn.o.1 bn.o.2 bE.o),N,ZZ (by rw[ao.o];exact ax.o),ZZ (bJ.o _ _ a8.out aw.o)⟩
    case measure=>simp[intOf];omega
def RdL (w:World) (v:Value) (L:List (List UInt8)):Prop:=
 ∃ ao cap,v=.slice ao L.length cap∧L.length<=cap∧cap<=maxLen∧(ao=none->cap=0)∧
  (L=[]∨∃ b off,ao=some ⟨b,off,none⟩∧∀ j,j<L.length->∃ x,w.cell? ⟨b,off+j,none⟩=some x∧Rd w x (L.getD j []))
def Zik (w:World) (B:Nat) (v:Value) (L:List (List UInt8)):Prop:=
 ∃ xs:List Value,w.ownsRow B 53 1 v L.length xs∧∀ j,j<L.length->∃ x,xs[j]?=some x∧Own w B x (L.getD j [])
theorem RdL.nil (w:World):RdL w (.slice none 0 0) []:=⟨none,0,rfl,Nat.le_refl _,Nat.zero_le _,fun _=>rfl,.inl rfl⟩
theorem Zik.nil (w:World) (B:Nat):Zik w B (.slice none 0 0) []:=⟨[],World.ownsRow_nil w B 53 1,fun j a=>by simp at a⟩
theorem RdL.below (h:RdL w v L) {B:Nat} (d:Below B w w') (f:w.heap.size<=B):RdL w' v L:=by
 obtain⟨ao,cap,q,k,l,u,a⟩:=h;refine⟨ao,cap,q,k,l,u,?_⟩;rcases a with a | ⟨b,c,t,m⟩
 ·exact .inl a
 ·refine .inr ⟨b,c,t,fun j i=>?_⟩
  obtain⟨x,e,g⟩:=m j i;have n:b<w.heap.size:=World.block_lt_of_cell? w ⟨b,c+j,none⟩ e;refine⟨x,?_,g.below d f⟩;rw[d.cell (p:=⟨b,c+j,none⟩) (by exact Nat.lt_of_lt_of_le n f)]
  exact e
theorem RdL.front (h:RdL w (.slice ao n cap) L) (k:Nat) (z:k<=L.length):RdL w (.slice ao k cap) (L.take k):=by
 obtain⟨y,v,c,A,g,i,a⟩:=h;simp only [Value.slice.injEq] at c;obtain⟨rfl,_,rfl⟩:=c;have t:(L.take k).length=k:=by simp;omega
 refine⟨ao,cap,by rw[t],by omega,g,i,?_⟩
 rcases a with a | ⟨b,f,q,l⟩
 ·exact .inl (by rw[a];simp)
 ·refine .inr ⟨b,f,q,fun j u=>?_⟩
  have p:j<k:=by omega
  obtain⟨x,m,d⟩:=l j (by omega)
  refine⟨x,m,?_⟩;have e:(L.take k).getD j []=L.getD j []:=by simp[List.getD,p]
  rw[e];exact d
theorem Zik.rd (h:Zik w B v L):RdL w v L:=by
 obtain⟨xs,b,f⟩:=h;rcases b.2 with ⟨a,c⟩ | ⟨g,cap,cur,a,p,t,k,l,n,q⟩
 ·exact⟨none,0,by rw[a,c],by omega,Nat.zero_le _,fun _=>rfl,.inl (List.eq_nil_of_length_eq_zero c)⟩
 ·refine⟨some ⟨g,0,none⟩,cap,a,k,l,(fun e=>by cases e),.inr ⟨g,0,rfl,fun j d=>?_⟩⟩
  obtain⟨x,m,i⟩:=f j d;have:=World.ownsRow.cells b (g:=g) (by rw[a];rfl) j _ m
  rw[Addr.add_lit] at this;exact⟨x,this,i.rd⟩
theorem Zik.mono (h:Zik w B v L) (f:B'<=B):Zik w B' v L:=by
 obtain⟨xs,⟨i,a⟩,c⟩:=h;refine⟨xs,⟨i,?_⟩,fun j b=>?_⟩
 ·rcases a with a | ⟨g,cap,cur,d,l,r⟩
  ·exact .inl a
  ·exact .inr ⟨g,cap,cur,d,by omega,r⟩
 ·obtain⟨x,k,e⟩:=c j b
  exact⟨x,k,e.mono f⟩
theorem Zik.below (h:Zik w B v L) (b:Below B' w w') (l:w.heap.size<=B'):Zik w' B v L:=by
 obtain⟨xs,⟨m,a⟩,e⟩:=h;refine⟨xs,⟨m,?_⟩,fun j d=>?_⟩
 ·rcases a with a | ⟨g,cap,cur,i,f,c,r⟩
  ·exact .inl a
  ·have p:g<w.heap.size:=(Array.getElem?_eq_some_iff.1 c).1
   exact .inr ⟨g,cap,cur,i,f,by rw[b.block g (by omega)];exact c,r⟩
 ·obtain⟨x,n,k⟩:=e j d
  exact⟨x,n,k.below b l⟩
theorem Zku:(prog.info? 53).map (fun i=>(i.zero,i.size,i.bytes))=some (some (.slice none 0 0),1,24):=by kernel_rfl
theorem Znu {x:Value} {xs:List Value} (k:w.ownsRow B 53 1 v n xs) (f:Own w B' x l):x.ownBlock=none∨x.ownBlock≠v.ownBlock:=by
 rcases f.2 with ⟨a,_⟩ | ⟨g,cap,cur,a,_,b,_⟩
 ·exact .inl (by rw[a];rfl)
 ·right
  rcases k.2 with ⟨c,_⟩ | ⟨g',m,p,c,_,j,_⟩
  ·rw[a,c]
   exact fun e=>by cases e
  ·rw[a,c]
   intro e;have i:g=g':=by simpa[Value.ownBlock] using e
   rw[i,j] at b
   have d:(53:Nat)=5:=by
    injection b with b
    injection b
   exact absurd d (by decide)
theorem Zil (w:World) (ty:TypeId) (B:Nat) (v:Value) (L:List (List UInt8)) (h:Zik w B v L) (x:Value) (d:List UInt8) (f:Own w B x d) (M:L.length<=1000000) (z:B<=w.heap.size):
 ∃ v' w',(Builtin.append_ #[144,144] ty #[v,.slice (some ⟨w.heap.size,0,none⟩) 1 1]).run prog (w.alloc (.cells #[x] 53))=.ok v' w'∧Zik w' B v' (L++[d])∧Below B w w':=by
 obtain⟨I,t,J,q,F⟩:=info_parts Zku;obtain⟨xs,b,p⟩:=h
 have K:x.oneCell'=true:=by
  rcases f.2 with ⟨i,_⟩ | ⟨g,cap,cur,i,_⟩ <;> rw[i] <;> rfl
 obtain⟨v',w',E,D,c,_⟩:=run_append_own (P:=prog) (w.alloc (.cells #[x] 53)) B 144 ty 53 I (.slice none 0 0) 1 24 underlying144 t J q F rfl (by decide) v L.length xs (b.alloc _)
  ⟨w.heap.size,0,none⟩ 1 1 [x] rfl (fun j u a=>by
   match j,a with
   | 0,a=>simp at a;subst a;simp[Addr.add]) (fun u n=>by simp at n;subst n;exact K) (by unfold maxLen;omega) (by omega) (by simp;omega)
 have A:xs.length=L.length:=by rw[b.1,Nat.mul_one]
 refine⟨v',w',E,⟨xs++[x],by rw[List.length_append];exact D,fun j a=>?_⟩,?_⟩
 ·by_cases m:j<L.length
  ·obtain⟨y,C,l⟩:=p j m
   refine⟨y,by rw[List.getElem?_append_left (by omega)];exact C,?_⟩
   have e:(L++[d]).getD j []=L.getD j []:=by simp[List.getD,List.getElem?_append_left m]
   rw[e];exact World.ownsRow.kept (World.ownsRow.alloc l _) c (Znu b l)
  ·have H:j=L.length:=by simp at a;omega
   subst H;refine⟨x,by rw[List.getElem?_append_right (by omega),A];simp,?_⟩
   have e:(L++[d]).getD L.length []=d:=by simp[List.getD]
   rw[e];exact World.ownsRow.kept (World.ownsRow.alloc f _) c (Znu b f)
 ·exact((Below.refl _ _).alloc z _).grown c (by simp;omega) (fun k G=>(World.ownsRow.lt b k G).1)
theorem ZeJ (w:World) {b:Array Oper} {rest:List Oper} {o:Oper} {a:Act} {Q:Exit->Act->World->Prop} (n:o.guard=none) (s x:Operand)
 (l:o.op=.call { callee:=.builtin .append,args:=#[s,x],argTypes:=#[144,144] })
 (B:Nat) (v:Value) (L:List (List UInt8)) (p:a.eval s=v) (m:Zik w B v L) (y:Value) (d:List UInt8) (g:a.eval x=.slice (some ⟨w.heap.size,0,none⟩) 1 1) (j:Own w B y d)
 (k:L.length<=1000000) (i:B<=w.heap.size)
 (h:∀ v' w',Zik w' B v' (L++[d])->Below B w w'->wpList prog b Q rest (a.put o.dst v') w'):wpList prog b Q (o::rest) a (w.alloc (.cells #[y] 53)):=
 wpList_plain n fun _ c=>by
  obtain⟨v',w',q,e,f⟩:=Zil w o.type B v L m y d j k i;unfold Oper.wp execOp;simp only [l,resolve,invoke,builtin,Sem.run_bind,Sem.run_pure,Result.andThen_ok,List.map_toArray,map_cons,map_nil,p,g,q];exact c _ _ (h v' w' e f)
theorem ZpB (a b:Nat) (g:a<4294967296) (e:b<4294967296):bits .xor .u32 (a:Int) (b:Int)=((a ^^^ b:Nat):Int):=by
 have f:a ^^^ b<2 ^ 32:=Nat.xor_lt_two_pow (by omega) (by omega)
 have c:(BitVec.ofInt 32 (a:Int)).toNat=a:=by
  rw[BitVec.ofInt_natCast,BitVec.toNat_ofNat];exact Nat.mod_eq_of_lt (by omega)
 have d:(BitVec.ofInt 32 (b:Int)).toNat=b:=by
  rw[BitVec.ofInt_natCast,BitVec.toNat_ofNat];exact Nat.mod_eq_of_lt (by omega)
 show IntKind.u32.wrap ((BitVec.ofInt 32 (a:Int) ^^^ BitVec.ofInt 32 (b:Int)).toNat:Int)=_;rw[BitVec.toNat_xor,c,d,IntKind.wrap_u32];omega
theorem ZzF (a b:Nat) (g:a<256) (e:b<256):bits .xor .u8 (a:Int) (b:Int)=((a ^^^ b:Nat):Int):=by
 have f:a ^^^ b<2 ^ 8:=Nat.xor_lt_two_pow (by omega) (by omega)
 have c:(BitVec.ofInt 8 (a:Int)).toNat=a:=by
  rw[BitVec.ofInt_natCast,BitVec.toNat_ofNat];exact Nat.mod_eq_of_lt (by omega)
 have d:(BitVec.ofInt 8 (b:Int)).toNat=b:=by
  rw[BitVec.ofInt_natCast,BitVec.toNat_ofNat];exact Nat.mod_eq_of_lt (by omega)
 show IntKind.u8.wrap ((BitVec.ofInt 8 (a:Int) ^^^ BitVec.ofInt 8 (b:Int)).toNat:Int)=_;rw[BitVec.toNat_xor,c,d,IntKind.wrap_u8];omega
theorem Zsy (k x:Nat):Gu (k+1) x=ZrD (Gu k x):=by
 rw[ZmA k 1];rfl
theorem ZuX (k:Nat) {x:Nat} (h:x<4294967296):Gu k x<4294967296:=by
 have:=Zlk k (Nat.le_refl 32) (by omega:x<2 ^ 32)
 omega
theorem ZpC (l:List UInt8) (x k:Nat) (h:k<l.length):Zbr x (l.take (k+1))=ZdH (Zbr x (l.take k)) (l.getD k 0).toNat:=by
 rw[Zhk l k h,Zes];rfl
theorem Zxk (x c:Nat) (a:c<256):(x ^^^ c) % 256=x % 256 ^^^ c:=by
 have h:=@Nat.xor_mod_two_pow x c 8;have e:c % 2 ^ 8=c:=Nat.mod_eq_of_lt (by omega)
 rw[e] at h;exact h
theorem ZyO (x c:Nat) (a:c<256):x % 256 ^^^ c<256:=by
 have:x % 256 ^^^ c<2 ^ 8:=Nat.xor_lt_two_pow (by omega) (by omega)
 omega
theorem Zxl (c:Nat) (h:c<256):Zdo c<4294967296:=ZuX 8 (by omega)
theorem ZuY (s:Nat) (h:s<4294967296):bits .xor .u32 IntKind.u32.max (s:Int)=((s ^^^ 4294967295:Nat):Int):=by
 have e:IntKind.u32.max=((4294967295:Nat):Int):=by decide
 rw[e,ZpB _ _ (by decide) h,Nat.xor_comm]
def Zyk (l:List UInt8):List UInt8 × Nat:=if l.length<=1048576 then(Qd l,0) else([],5)
theorem Zxm {k e:IntKind} {a b c d:Int} (h:a=b) (f:c=d):Ending.returned (.tuple #[v,.int k a,.int e c])=.returned (.tuple #[v,.int k b,.int e d]):=by rw[h,f]
theorem ZzG (h:Gn l):X8 l=([],0,2):=by unfold X8;rw[if_pos h]
theorem ZzH (h:¬ Gn l) (a:(Qb l).2=0):X8 l=([],0,3):=by unfold X8;rw[if_neg h,if_pos a]
theorem ZzI (h:¬ Gn l) (b:(Qb l).2≠0) (a:1048576<(Qb l).1):X8 l=([],0,5):=by unfold X8;rw[if_neg h,if_neg b,if_pos a]
theorem ZzJ (h:¬ Gn l) (c:(Qb l).2≠0) (b:¬ 1048576<(Qb l).1) (a:l.length<(Qb l).2+4+(Qb l).1):X8 l=([],0,2):=by
 unfold X8;rw[if_neg h,if_neg c,if_neg b,if_pos a]
theorem ZzK (h:¬ Gn l) (d:(Qb l).2≠0) (c:¬ 1048576<(Qb l).1) (a:¬ l.length<(Qb l).2+4+(Qb l).1)
 (b:Lib.leNat ((l.drop ((Qb l).2+(Qb l).1)).take 4)≠Q2 0 (l.take ((Qb l).2+(Qb l).1))):X8 l=([],0,4):=by
 unfold X8;rw[if_neg h,if_neg d,if_neg c,if_neg a,if_pos b]
theorem ZzL (h:¬ Gn l) (d:(Qb l).2≠0) (c:¬ 1048576<(Qb l).1) (a:¬ l.length<(Qb l).2+4+(Qb l).1)
 (b:Lib.leNat ((l.drop ((Qb l).2+(Qb l).1)).take 4)=Q2 0 (l.take ((Qb l).2+(Qb l).1))):X8 l=((l.drop (Qb l).2).take (Qb l).1,(Qb l).2+4+(Qb l).1,0):=by
 unfold X8;rw[if_neg h,if_neg d,if_neg c,if_neg a,if_neg (by rw[b];simp)]
theorem Zsz (l:List UInt8):(Qb l).2<=9:=by
 rcases Xf l with h | ⟨b,d,e,a⟩
 ·rw[h];decide
 ·have c:(Lib.uvarint (Qb l).1).length<=9:=Lib.uvarint_length 8 _ (Nat.lt_of_lt_of_le b (by decide))
  rw[<-a,List.length_take] at c;omega
def ZdT (w:World) (l:List UInt8) (e:Ending) (w':World):Prop:=
 ∃ v',e=.returned (.tuple #[v',.int .i64 ((X8 l).2.1:Nat),.int .i64 ((X8 l).2.2:Nat)])∧Own w' w.heap.size v' (X8 l).1∧Below w.heap.size w w'
theorem ZdT.refused {c:Nat} (h:X8 l=([],0,c)):ZdT w l (.returned (.tuple #[.slice none 0 0,.int .i64 0,.int .i64 (c:Int)])) w:=by
 refine⟨.slice none 0 0,?_,?_,Below.refl _ _⟩
 ·rw[h];rfl
 ·rw[h];exact Own.nil _ _
def ZuZ (l:List UInt8) (A:Nat) (L:List (List UInt8)):Prop:=
 Qp l=(L++(Qp (l.drop A)).1,A+(Qp (l.drop A)).2.1,(Qp (l.drop A)).2.2)∧5*L.length<=A∧A<=l.length
theorem ZuZ.start (l:List UInt8):ZuZ l 0 []:=⟨by simp,by simp,by omega⟩
theorem ZuZ.stop (h:ZuZ l A L) (c:A<l.length) (a:(X8 (l.drop A)).2.2≠0):Qp l=(L,A,(X8 (l.drop A)).2.2):=by
 have b:l.drop A≠[]:=fun e=>by
  have:=congrArg List.length e;rw[length_drop,List.length_nil] at this;omega
 rw[h.1,ZbZ b a];simp
theorem ZuZ.whole (h:ZuZ l A L) (a:¬ A<l.length):Qp l=(L,A,0):=by
 have e:l.drop A=[]:=List.drop_of_length_le (by omega)
 rw[h.1,e,ZbL];simp
theorem ZuZ.step (h:ZuZ l A L) (f:A<l.length) (a:(X8 (l.drop A)).2.2=0):ZuZ l (A+(X8 (l.drop A)).2.1) (L++[(X8 (l.drop A)).1]):=by
 have c:l.drop A≠[]:=fun e=>by
  have:=congrArg List.length e;rw[length_drop,List.length_nil] at this;omega
 have d:=ZbK a;have b:=Zuk (l.drop A);rw[length_drop] at b;refine⟨?_,?_,by omega⟩
 ·rw[h.1,Zca c a,List.drop_drop]
  simp[Nat.add_assoc]
 ·have:=h.2.1
  simp;omega
def Zyl (l:List UInt8):List (List UInt8) × Nat:=if(Qp l).2.2=0 then((Qp l).1,0) else([],(Qp l).2.2)
theorem ZjL (w:World) (ty:TypeId) (B:Nat) (v:Value) (b:List UInt8) (c:Own w B v b) (f:Value) (l:List UInt8) (i:Rd w f l)
 (z:b.length+l.length<=70368744177664) (m:B<=w.heap.size):
 ∃ v' w',(Builtin.append_ #[53,53] ty #[v,f]).run prog w=.ok v' w'∧Own w' B v' (b++l)∧w.grownBy w' v.ownBlock:=by
 obtain⟨g,e,x,k,y⟩:=info_parts Zlf;obtain⟨ao,cap,rfl,C,A,j,u⟩:=i
 cases ao with
 | none=>
  have q:=j rfl;subst q;have n:l=[]:=List.eq_nil_of_length_eq_zero (by omega)
  subst n;have d:=run_append_owned_none (P:=prog) w B 53 ty 5 g 1 underlying53 e v b.length (Lib.byteCells b) c;exact⟨v,w,d,by rw[List.append_nil];exact c,⟨rfl,rfl,rfl,Nat.le_refl _,fun _ _ _=>rfl⟩⟩
 | some a=>
  obtain⟨v',w',d,p,t,_⟩:=run_append_own (P:=prog) w B 53 ty 5 g (.int .u8 0) 1 1 underlying53 e x k y rfl (by decide) v b.length (Lib.byteCells b) c a l.length cap (Lib.byteCells l)
   (by rw[Y0,Nat.mul_one]) (Rd.cells u a rfl) (ZaJ l) (by unfold maxLen;omega) (by omega) m
  exact⟨v',w',d,Own.mk' p (by simp) (by simp[Lib.byteCells]),t⟩
theorem ZfP (w:World) {d:Array Oper} {rest:List Oper} {o:Oper} {a:Act} {Q:Exit->Act->World->Prop} (p:o.guard=none) (s x:Operand)
 (m:o.op=.call { callee:=.builtin .append,args:=#[s,x],argTypes:=#[53,53] })
 (B:Nat) (v:Value) (b:List UInt8) (q:a.eval s=v) (n:Own w B v b) (c:Value) (l:List UInt8) (t:a.eval x=c) (e:Rd w c l)
 (k:b.length+l.length<=70368744177664) (j:B<=w.heap.size)
 (h:∀ v' w',Own w' B v' (b++l)->w.grownBy w' v.ownBlock->wpList prog d Q rest (a.put o.dst v') w'):wpList prog d Q (o::rest) a w:=
 wpList_plain p fun _ f=>by
  obtain⟨v',w',u,g,i⟩:=ZjL w o.type B v b n c l e k j;unfold Oper.wp execOp;simp only [m,resolve,invoke,builtin,Sem.run_bind,Sem.run_pure,Result.andThen_ok,List.map_toArray,map_cons,map_nil,q,t,u];exact f _ _ (h v' w' g i)
open Go.RowKit Go.ChangeShapes
theorem Zim:prog.elem 144=53:=by kernel_rfl
theorem Zkv (w:World):(sizeOf 53).run prog w=.ok 1 w:=by
 obtain⟨c,b,_,a,_⟩:=info_parts Zku;simp[sizeOf,typeInfo,b,a]
theorem Zdh:prog.underlying 144=some (.slice (prog.elem 144)):=by rw[Zim];exact underlying144
end Go.Proofs.YtnahjngbneicaaaGreatDoor
