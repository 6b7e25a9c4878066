import Derived.Test.YtnahjngbneicaaaGreatDoorPack6
namespace Go.Proofs.YtnahjngbneicaaaGreatDoor
open _root_.Go.Proofs.Tryz
open List (length_drop map_cons map_nil)
set_option maxHeartbeats 4000000
set_option maxRecDepth 100000
open Go.RowKit
variable {W w w':World} {a:List Ent} {s:St} {v v':Value} {A B B' Q R T b c cap f n:Nat} {l:List UInt8} {L':List Int} {g idx kind:Int} {ao d:Option Addr} {L:List (List UInt8)}
theorem Da.mv {a:World} {N:Nat} {s o r:Array Value} (h:Da W N s o r) (i:∀ b,v.ownBlock=some b->b<N) (d:Mv W a v v'):Da a N s o r:=by
 obtain⟨j,f,g⟩:=h
 have lt:∀ k x,W.heap[k]?=some x->N<=k->a.heap[k]?=some x:=fun k x c l=>by
  rw[d.grown.block k (Array.getElem?_eq_some_iff.1 c).1 (fun e=>by have:=i k e.symm;omega)]
  exact c
 exact⟨lt _ _ j (by omega),lt _ _ f (by omega),lt _ _ g (by omega)⟩
theorem ZlE {f e F:World} {l:List Int} (p:Qs w B v l) (d:Below w.heap.size w f) (t:f.heap.size=w.heap.size+3) (a:Mv f e v v') (n:Qs e B v' L') (c:But w.heap.size (w.heap.size+1+1) e F):Qs F B v' L'∧Mv w F v v':=by
 have j:∀ b,v.ownBlock=some b->b<w.heap.size:=fun b h=>(World.ownsRow.lt p b h).2
 have g:∀ b,v'.ownBlock=some b->v.ownBlock=some b∨w.heap.size+3<=b:=fun b h=>by
  rcases a.lies b h with h' | h'
  ·exact .inl h'
  ·exact .inr (by omega)
 have q:=a.size;refine⟨n.but c (fun b h=>?_),⟨⟨c.os.trans (a.grown.os.trans d.os),c.tape.trans (a.grown.tape.trans d.tape),c.output.trans (a.grown.output.trans d.output),by have:=c.size;omega,fun k i m=>?_⟩,fun b h=>?_⟩⟩
 ·rcases g b h with h' | h'
  ·have:=j b h'
   omega
  ·omega
 ·rw[c.block k (by omega) (by omega) (by omega),a.grown.block k (by omega) m]
  exact d.block k i
 ·rcases g b h with h' | h'
  ·exact .inl h'
  ·exact .inr (by omega)
theorem Zy (w:World) (x y z:Obj):Below w.heap.size w (((w.alloc x).alloc y).alloc z)∧(((w.alloc x).alloc y).alloc z).heap.size=w.heap.size+3:=
 ⟨(((Below.refl _ _).alloc zL x).alloc (by simp) y).alloc (by simp;omega) z,by simp⟩
theorem Qs.alloc3 {l:List Int} (h:Qs w B v l) (x y z:Obj):Qs (((w.alloc x).alloc y).alloc z) B v l:=((h.alloc x).alloc y).alloc z
def Did (B:Nat) (w:World) (v:Value) (r:St × Int) (e:Ending) (w':World):Prop:=
 ∃ v',e=.returned (.tuple #[.agg #[.int .i64 r.1.kind,v',.bool r.1.shut,.int .i64 r.1.eng],.int .i64 r.2])∧Qs w' B v' r.1.L∧Mv w w' v v'
theorem Zpq (kind g:Int) (l:List Int) (v:Value) (o:Opn) (B:Nat) (w:World) (c:Qs w B v l):
 Calls prog 83 #[.agg #[.int .i64 kind,v,.bool true,.int .i64 g],opV o] w fun e w'=>Did B w v (⟨kind,l,true,g⟩,-1125899906842624) e w':=by
 obtain⟨f,a,b⟩:=o;have h:=Qc c;obtain⟨ao,cap,rfl⟩:=c.shape;have d:Hid (∀ x y z,Mv w (((w.alloc x).alloc y).alloc z) (.slice ao l.length cap) (.slice ao l.length cap)):=fun x y z=>Mv.ofBelow (Zy w x y z).1 _
 clear c;show Calls prog _ #[_,.agg #[.int .i64 f,.int .i64 a,.int .i64 b]] w _
 go_enter func83,ntmps83
 go_wp2;refine bodyPost_ret (v:=.tuple #[.agg #[.int .i64 kind,.slice ao l.length cap,.bool true,.int .i64 g],.int .i64 (-1125899906842624)]) (by simp[results,Tryz.results83,go_sem]) rfl ?_
 exact⟨_,rfl,h.o.alloc3 _ _ _,d.o _ _ _⟩
theorem Zpr (kind g a b:Int) (l:List Int) (v:Value) (B:Nat) (w:World) (f:Qs w B v l):
 Calls prog 83 #[.agg #[.int .i64 kind,v,.bool false,.int .i64 g],.agg #[.int .i64 10,.int .i64 a,.int .i64 b]] w fun e w'=>Did B w v (⟨kind,l,true,if 0<=a∧a<=2 then a else g⟩,0) e w':=by
 have h:=Qc f;obtain⟨ao,cap,rfl⟩:=f.shape;have p:=Qc (fun W=>Zxg kind ao l.length cap false g a W)
 generalize (if 0<=a∧a<=2 then a else g)=t at *
 clear f
 go_enter func83,ntmps83
 go_wp2_with fail
 refine(p.o _).mono ?_;rintro e u ⟨rfl,d⟩;have c:=(Da.made w _ _ _).below d (by simp)
 obtain⟨k,z⟩:=c.r 0;obtain⟨i,y⟩:=c.r 1;obtain⟨j,x⟩:=c.r 2;obtain⟨m,A⟩:=c.r 3;have q:=Qc (fun F n=>ZlE (F:=F) h.o (Zy w _ _ _).1 (Zy w _ _ _).2 (Mv.ofBelow d _) ((h.o.alloc3 _ _ _).below d zL) n)
 clear d c;go_wp2;refine bodyPost_ret (v:=.tuple #[.agg #[.int .i64 kind,.slice ao l.length cap,.bool true,.int .i64 t],.int .i64 0]) (by simp[results,Tryz.results83,go_sem,k,i,j,m]) rfl ?_
 exact⟨_,rfl,q.o _ ((But.refl _ _ _).four _ (.inr rfl) _ _ _ _)⟩
theorem Zsr (kind g:Int) (D:kind=0∨kind=1) (l:List Int) (v:Value) (o:Opn) (N:o.code≠10) (B:Nat) (w:World) (k:Qs w B v l) (n:l.length=1) (K:-1099511627776<=l.getD 0 0) (I:l.getD 0 0<=1099511627776):
 Calls prog 83 #[.agg #[.int .i64 kind,v,.bool false,.int .i64 g],opV o] w fun e w'=>Did B w v (Zef ⟨kind,l,false,g⟩ o) e w':=by
 have m:=Qc k;have J:=Zli ⟨kind,l,false,g⟩ o
 obtain⟨L',n',i⟩:∃ L' n',Zef ⟨kind,l,false,g⟩ o=(⟨kind,L',false,g⟩,n'):=by
  obtain⟨A,q,t⟩:=J;refine⟨(Zef ⟨kind,l,false,g⟩ o).1.L,(Zef ⟨kind,l,false,g⟩ o).2,?_⟩;rcases hr:Zef ⟨kind,l,false,g⟩ o with ⟨⟨k1,X,G,Y⟩,Z⟩
  rw[hr] at A q t;simp only at A q t;rw[A,q,t]
 have j:Hid (∀ W,Qs W B v l->Calls prog (if kind=0 then 124 else 125) #[v,opV o] W fun e w'=>e=.returned (.int .i64 n')∧Qs w' B v L'∧Mv W w' v v):=fun W h=>by
  rcases D with rfl | rfl
  ·have:=Zpn v l o false g B W h n K I
   rw[i] at this;exact this
  ·have:=Znp v l o false g B W h n
   rw[i] at this;exact this
 rw[i];obtain⟨M,a,b⟩:=o;have aa:(M == 10)=false:=beq_eq_false_iff_ne.2 N;obtain⟨ao,cap,rfl⟩:=k.shape;have H:∀ b,(Value.slice ao l.length cap).ownBlock=some b->b<w.heap.size:=fun b h=>(World.ownsRow.lt k b h).2
 have E:=Qc H;clear k i J N n K I H;show Calls prog _ #[_,.agg #[.int .i64 M,.int .i64 a,.int .i64 b]] w _;rcases D with rfl | rfl
 ·rw[if_pos rfl] at j
  go_enter func83,ntmps83
  go_wp2_with fail
  refine(j.o _ (m.o.alloc3 _ _ _)).mono ?_;rintro e Q ⟨rfl,f,d⟩;have c:=(Da.made w _ _ _).mv E.o d;obtain⟨V,-⟩:=c.s 0;obtain⟨O,-⟩:=c.s 1;obtain⟨T,-⟩:=c.s 2;obtain⟨P,-⟩:=c.s 3;obtain⟨x,S⟩:=c.r 0;obtain⟨p,G⟩:=c.r 1;obtain⟨u,R⟩:=c.r 2;obtain⟨y,U⟩:=c.r 3;have C:=Qc (fun F z=>ZlE (F:=F) m.o (Zy w _ _ _).1 (Zy w _ _ _).2 d f z)
  clear c f d;go_wp2;refine bodyPost_ret (v:=.tuple #[.agg #[.int .i64 0,.slice ao l.length cap,.bool false,.int .i64 g],.int .i64 n']) (by simp[results,Tryz.results83,go_sem,x,p,u,y]) rfl ?_
  exact⟨_,rfl,C.o _ ((But.refl _ _ _).four _ (.inr rfl) _ _ _ _)⟩
 ·rw[if_neg (by decide)] at j
  go_enter func83,ntmps83
  go_wp2_with fail
  refine(j.o _ (m.o.alloc3 _ _ _)).mono ?_;rintro e Q ⟨rfl,f,d⟩;have c:=(Da.made w _ _ _).mv E.o d;obtain⟨V,-⟩:=c.s 0;obtain⟨O,-⟩:=c.s 1;obtain⟨T,-⟩:=c.s 2;obtain⟨P,-⟩:=c.s 3;obtain⟨x,S⟩:=c.r 0;obtain⟨p,G⟩:=c.r 1;obtain⟨u,R⟩:=c.r 2;obtain⟨y,U⟩:=c.r 3;have C:=Qc (fun F z=>ZlE (F:=F) m.o (Zy w _ _ _).1 (Zy w _ _ _).2 d f z)
  clear c f d;go_wp2;refine bodyPost_ret (v:=.tuple #[.agg #[.int .i64 1,.slice ao l.length cap,.bool false,.int .i64 g],.int .i64 n']) (by simp[results,Tryz.results83,go_sem,x,p,u,y]) rfl ?_
  exact⟨_,rfl,C.o _ ((But.refl _ _ _).four _ (.inr rfl) _ _ _ _)⟩
theorem ZqS {c:World} {l:List Int} {a:Option Addr} {xs i d:Array Value} (h:Qs w B (.slice ao l.length cap) l) (f:Qs c B (.slice a L'.length b) L') (e:Mv (((w.alloc (.cells xs 38)).alloc (.cells i 52)).alloc (.cells d 38)) c (.slice ao l.length cap) (.slice a L'.length b)):
 Qs (ZqC c w.heap.size (w.heap.size+1+1) (.slice a L'.length b) (.int .i64 kind) (.slice a L'.length b) (.bool false) (.int .i64 g)) B (.slice a L'.length b) L'∧Mv w (ZqC c w.heap.size (w.heap.size+1+1) (.slice a L'.length b) (.int .i64 kind) (.slice a L'.length b) (.bool false) (.int .i64 g)) (.slice ao l.length cap) (.slice a L'.length b):=
 ZlE h (Zy w _ _ _).1 (Zy w _ _ _).2 e f (((But.refl _ _ _).set _ _ (.inl rfl) _).four _ (.inr rfl) _ _ _ _)
theorem Zps (kind g:Int) (D:kind=2∨kind=3) (l L':List Int) (n':Int) (v:Value) (i a b:Int) (C:i≠10) (B:Nat) (w:World) (j:Qs w B v l)
 (A:Hid (∀ W,Qs W B v l->B<=W.heap.size->Calls prog 126 #[.int .i64 kind,v,.agg #[.int .i64 i,.int .i64 a,.int .i64 b]] W fun e w'=>ZdS B W v L' n' e w')) (P:B<=w.heap.size):
 Calls prog 83 #[.agg #[.int .i64 kind,v,.bool false,.int .i64 g],.agg #[.int .i64 i,.int .i64 a,.int .i64 b]] w fun e w'=>Did B w v (⟨kind,L',false,g⟩,n') e w':=by
 have k:=Qc j;have Q:(i == 10)=false:=beq_eq_false_iff_ne.2 C;obtain⟨ao,cap,rfl⟩:=j.shape;have z:∀ b,(Value.slice ao l.length cap).ownBlock=some b->b<w.heap.size:=fun b h=>(World.ownsRow.lt j b h).2
 have y:=Qc z;clear j C z;rcases D with rfl | rfl
 ·go_enter func83,ntmps83
  go_wp2_with fail
  refine(A.o _ (k.o.alloc3 _ _ _) (by simp;omega)).mono ?_
  rintro e G ⟨O,rfl,d,f⟩;obtain⟨m,u,rfl⟩:=d.shape;have c:=(Da.made w _ _ _).mv y.o f;obtain⟨N,-⟩:=c.s 0;obtain⟨E,K⟩:=c.s 1;obtain⟨L,-⟩:=c.s 2;obtain⟨F,-⟩:=c.s 3;obtain⟨q,J⟩:=c.r 0;obtain⟨n,I⟩:=c.r 1;obtain⟨p,H⟩:=c.r 2;obtain⟨t,M⟩:=c.r 3;have x:=Qc (fun kind=>ZqS (kind:=kind) (g:=g) k.o d f)
  clear c d f;go_wp2;refine bodyPost_ret (v:=.tuple #[.agg #[.int .i64 2,.slice m L'.length u,.bool false,.int .i64 g],.int .i64 n']) (by simp[results,Tryz.results83,go_sem,q,n,p,t]) rfl ?_
  exact⟨_,rfl,x.o _⟩
 ·go_enter func83,ntmps83
  go_wp2_with fail
  refine(A.o _ (k.o.alloc3 _ _ _) (by simp;omega)).mono ?_
  rintro e G ⟨O,rfl,d,f⟩;obtain⟨m,u,rfl⟩:=d.shape;have c:=(Da.made w _ _ _).mv y.o f;obtain⟨N,-⟩:=c.s 0;obtain⟨E,K⟩:=c.s 1;obtain⟨L,-⟩:=c.s 2;obtain⟨F,-⟩:=c.s 3;obtain⟨q,J⟩:=c.r 0;obtain⟨n,I⟩:=c.r 1;obtain⟨p,H⟩:=c.r 2;obtain⟨t,M⟩:=c.r 3;have x:=Qc (fun kind=>ZqS (kind:=kind) (g:=g) k.o d f)
  clear c d f;go_wp2;refine bodyPost_ret (v:=.tuple #[.agg #[.int .i64 3,.slice m L'.length u,.bool false,.int .i64 g],.int .i64 n']) (by simp[results,Tryz.results83,go_sem,q,n,p,t]) rfl ?_
  exact⟨_,rfl,x.o _⟩
theorem Znq (kind g:Int) (q:kind=4) (l L':List Int) (n':Int) (v:Value) (d a b:Int) (n:d≠10) (B:Nat) (w:World) (f:Qs w B v l)
 (C:Hid (∀ W,Qs W B v l->B<=W.heap.size->Calls prog 127 #[v,.agg #[.int .i64 d,.int .i64 a,.int .i64 b]] W fun e w'=>ZdS B W v L' n' e w')) (J:B<=w.heap.size):
 Calls prog 83 #[.agg #[.int .i64 kind,v,.bool false,.int .i64 g],.agg #[.int .i64 d,.int .i64 a,.int .i64 b]] w fun e w'=>Did B w v (⟨kind,L',false,g⟩,n') e w':=by
 have m:=Qc f;have Q:(d == 10)=false:=beq_eq_false_iff_ne.2 n;obtain⟨ao,cap,rfl⟩:=f.shape;have k:∀ b,(Value.slice ao l.length cap).ownBlock=some b->b<w.heap.size:=fun b h=>(World.ownsRow.lt f b h).2
 have t:=Qc k;clear f n k;subst q
 all_goals
  go_enter func83,ntmps83
  go_wp2_with fail
  refine(C.o _ (m.o.alloc3 _ _ _) (by simp;omega)).mono ?_
  rintro e G ⟨P,rfl,i,j⟩;obtain⟨p,A,rfl⟩:=i.shape;have c:=(Da.made w _ _ _).mv t.o j;obtain⟨O,-⟩:=c.s 0;obtain⟨E,L⟩:=c.s 1;obtain⟨M,-⟩:=c.s 2;obtain⟨F,-⟩:=c.s 3;obtain⟨y,K⟩:=c.r 0;obtain⟨u,I⟩:=c.r 1;obtain⟨x,H⟩:=c.r 2;obtain⟨z,N⟩:=c.r 3;have D:=Qc (fun kind=>ZqS (kind:=kind) (g:=g) m.o i j)
  clear c i j;go_wp2;refine bodyPost_ret (v:=.tuple #[.agg #[.int .i64 4,.slice p L'.length A,.bool false,.int .i64 g],.int .i64 n']) (by simp[results,Tryz.results83,go_sem,y,u,x,z]) rfl ?_
  exact⟨_,rfl,D.o _⟩
theorem ZlF (kind g:Int) (q:kind=5) (l L':List Int) (n':Int) (v:Value) (d a b:Int) (n:d≠10) (B:Nat) (w:World) (f:Qs w B v l)
 (C:Hid (∀ W,Qs W B v l->B<=W.heap.size->Calls prog 128 #[v,.agg #[.int .i64 d,.int .i64 a,.int .i64 b]] W fun e w'=>ZdS B W v L' n' e w')) (J:B<=w.heap.size):
 Calls prog 83 #[.agg #[.int .i64 kind,v,.bool false,.int .i64 g],.agg #[.int .i64 d,.int .i64 a,.int .i64 b]] w fun e w'=>Did B w v (⟨kind,L',false,g⟩,n') e w':=by
 have m:=Qc f;have Q:(d == 10)=false:=beq_eq_false_iff_ne.2 n;obtain⟨ao,cap,rfl⟩:=f.shape;have k:∀ b,(Value.slice ao l.length cap).ownBlock=some b->b<w.heap.size:=fun b h=>(World.ownsRow.lt f b h).2
 have t:=Qc k;clear f n k;subst q
 all_goals
  go_enter func83,ntmps83
  go_wp2_with fail
  refine(C.o _ (m.o.alloc3 _ _ _) (by simp;omega)).mono ?_
  rintro e G ⟨P,rfl,i,j⟩;obtain⟨p,A,rfl⟩:=i.shape;have c:=(Da.made w _ _ _).mv t.o j;obtain⟨O,-⟩:=c.s 0;obtain⟨E,L⟩:=c.s 1;obtain⟨M,-⟩:=c.s 2;obtain⟨F,-⟩:=c.s 3;obtain⟨y,K⟩:=c.r 0;obtain⟨u,I⟩:=c.r 1;obtain⟨x,H⟩:=c.r 2;obtain⟨z,N⟩:=c.r 3;have D:=Qc (fun kind=>ZqS (kind:=kind) (g:=g) m.o i j)
  clear c i j;go_wp2;refine bodyPost_ret (v:=.tuple #[.agg #[.int .i64 5,.slice p L'.length A,.bool false,.int .i64 g],.int .i64 n']) (by simp[results,Tryz.results83,go_sem,y,u,x,z]) rfl ?_
  exact⟨_,rfl,D.o _⟩
theorem Zpt (v:Value) (l:List Int) (a b:Nat) (w:World) (G:RdI w v l) (E:w.cell? ⟨a,0,none⟩=some (.int .i64 (-1099511627776))) (A:w.cell? ⟨b,0,none⟩=some (.int .i64 1099511627776)):
 Calls prog 171 #[v,.func (.func 170) #[] #[.pointer (some ⟨a,0,none⟩),.pointer (some ⟨b,0,none⟩)]] w fun e w'=>e=.returned (.bool (decide (l.length<=64∧G6 l)))∧w'=w:=by
 have x:=Qc (fun n=>Zdu n _ _ a b w E A)
 obtain⟨ao,cap,rfl,-,-,-,-,u⟩:=G;have K:=Qc u;clear u E A;obtain⟨R,q⟩:∃ R,R=decide (l.length<=64∧G6 l):=⟨_,rfl⟩;rw[<-q];have p:=Qc q;clear q;by_cases z:l.length<=64
 ·have I:¬ (64<(l.length:Int)):=by omega
  go_enter func171,ntmps171
  go_wp2
  go_loop [12] (fun i=>∃ k:Nat,i=.int .i64 k∧k<=l.length∧Hid (∀ j,j<k->-1099511627776<=l.getD j 0∧l.getD j 0<=1099511627776)) (fun i=>l.length-(intOf i).toNat)
  case atStart=>exact⟨0,rfl,Nat.zero_le _,fun j D=>by omega⟩
  case round=>
   obtain⟨k,rfl,M,C⟩:=hrel;by_cases f:k<l.length
   ·rcases K.o with L | ⟨g,N,rfl,F⟩
    ·rw[L] at f;simp at f
    have J:=F k f;clear F;obtain⟨y,m⟩:∃ y,y=l.getD k 0:=⟨_,rfl⟩;rw[<-m] at J;have B:=Qc m;clear m;by_cases c:-1099511627776<=y∧y<=1099511627776
    ·have d:=Qc (decide_eq_true c)
     have t:=Qc c;clear c
     go_wp2_with(first | (go_at_call 170;refine(x.o _).mono ?_;rintro e H ⟨rfl,rfl⟩;rw[d.o]))
     go_round
     case rel=>
      refine⟨k+1,by go_num,by omega,fun j D=>?_⟩
      by_cases e:j=k
      ·rw[e,<-B.o];exact t.o
      ·exact C.out j (by omega)
     case measure=>simp[intOf];omega
    ·have d:=Qc (decide_eq_false c)
     have t:=Qc c;clear c
     go_wp2_with(first | (go_at_call 170;refine(x.o _).mono ?_;rintro e H ⟨rfl,rfl⟩;rw[d.o]))
     go_ret;refine⟨Y6 (p.o.trans (decide_eq_false fun h=>t.o ?_)).symm,rfl⟩
     rw[B.o];exact h.2 k f
   ·go_wp2
    go_ret;exact⟨Y6 (p.o.trans (decide_eq_true ⟨z,fun j D=>C.out j (by omega)⟩)).symm,rfl⟩
 ·have I:64<(l.length:Int):=by omega
  have d:Hid (decide (l.length<=64∧G6 l)=false):=decide_eq_false (fun h=>z h.1)
  go_enter func171,ntmps171
  go_wp2;go_ret;exact⟨Y6 (p.o.trans d.o).symm,rfl⟩
def ZfN (l:List Int) (k:Nat):Int:=if k=0 then 0 else l.getD (k-2) 0+1
theorem Znr {lo:Int} {l:List Int} {k:Nat} (c:k % 2=0) (b:∀ j,j<k->j % 2=0->Zhm lo l j):Zhm lo l k↔(ZfN l k<=l.getD k 0∧l.getD k 0<=255)∧lo<=l.getD (k+1) 0∧l.getD (k+1) 0<=1099511627776:=by
 unfold Zhm ZfN;by_cases a:k=0
 ·subst a
  simp;omega
 ·rw[if_neg a]
  have d:=(b (k-2) (by omega) (by omega)).1
  constructor
  ·rintro⟨h1,h2,h3,h4,h5⟩
   exact⟨⟨by have:=h3 (by omega);omega,h2⟩,h4,h5⟩
  ·rintro⟨⟨h1,h2⟩,h4,h5⟩
   exact⟨by omega,h2,fun _=>by omega,h4,h5⟩
theorem Zns (v:Value) (l:List Int) (lo:Int) (a b:Nat) (w:World) (hr:RdI w v l) (V:w.cell? ⟨a,0,none⟩=some (.int .i64 lo)) (T:w.cell? ⟨b,0,none⟩=some (.int .i64 1099511627776)):
 Calls prog 172 #[v,.func (.func 170) #[] #[.pointer (some ⟨a,0,none⟩),.pointer (some ⟨b,0,none⟩)]] w fun e w'=>e=.returned (.bool (decide (Zap lo l)))∧Below w.heap.size w w':=by
 have HI:Hid (∀ n W,Below w.heap.size w W->Calls prog 170 #[.int .i64 n,.pointer (some ⟨a,0,none⟩),.pointer (some ⟨b,0,none⟩)] W fun e w'=>e=.returned (.bool (decide (lo<=n∧n<=1099511627776)))∧w'=W):=fun n W h=>
  Zdu n _ _ a b W ((h.cell (World.block_lt_of_cell? w ⟨a,0,none⟩ V)).trans V) ((h.cell (World.block_lt_of_cell? w ⟨b,0,none⟩ T)).trans T)
 have X:=Qc (fun n l2 h2 J H W p1 p2=>Zdu n l2 h2 J H W p1 p2)
 have Q:=Qc (fun p q W=>Gz p q W)
 obtain⟨ao,cap,rfl,-,-,-,-,aa⟩:=hr;have ah:=Qc aa;clear aa V T;obtain⟨R,O⟩:∃ R,R=decide (Zap lo l):=⟨_,rfl⟩;rw[<-O];have C:=Qc O;clear O;by_cases he:l.length % 2=0
 ·by_cases ad:l.length<=128
  ·have ab:(((l.length:Int).tmod 2) != 0)=false:=by rw[bne_eq_false_iff_eq,Int.tmod_eq_emod_of_nonneg (by omega)];omega
   have hq:¬ (128<(l.length:Int)):=by omega
   go_enter func172,ntmps172
   go_wp2
   go_loopw[5,6] (fun y i wr=>∃ k:Nat,y=.int .i64 (ZfN l k)∧i=.int .i64 k∧k<=l.length∧k % 2=0∧Hid (∀ j,j<k->j % 2=0->Zhm lo l j)∧Hid (Below w.heap.size w wr)) (fun _ i _=>l.length-(intOf i).toNat)
   case atStart=>exact⟨0,rfl,rfl,Nat.zero_le _,rfl,fun j hj=>by omega,Below.refl _ _⟩
   case round=>
    obtain⟨k,rfl,rfl,hk,U,P,t⟩:=hrel;by_cases x:k<l.length
    ·rcases ah.o with h0 | ⟨g,L,rfl,D⟩
     ·rw[h0] at x;simp at x
     have af:k+1<l.length:=by omega
     have F:Hid (∀ W,Below w.heap.size w W->W.cell? ⟨g,L+k,none⟩=some (.int .i64 (l.getD k 0))):=fun W h=>(h.cell (World.block_lt_of_cell? w ⟨g,L+k,none⟩ (D k x))).trans (D k x)
     have I:Hid (∀ W,Below w.heap.size w W->W.cell? ⟨g,L+(k+1),none⟩=some (.int .i64 (l.getD (k+1) 0))):=fun W h=>(h.cell (World.block_lt_of_cell? w ⟨g,L+(k+1),none⟩ (D (k+1) af))).trans (D (k+1) af)
     clear D;have u:=Qc (Znr (lo:=lo) U P.out)
     have Z:Hid (ZfN l (k+2)=l.getD k 0+1):=by
      unfold ZfN;rw[if_neg (by omega)]
      exact rfl
     generalize ZfN l k=ls at *;obtain⟨y,d⟩:∃ y,y=l.getD k 0:=⟨_,rfl⟩;obtain⟨z,f⟩:∃ z,z=l.getD (k+1) 0:=⟨_,rfl⟩;rw[<-d] at F u Z;rw[<-f] at I u;have ag:=Qc d;clear d f;by_cases d:ls<=y∧y<=255
     ·have E:=Qc (decide_eq_true d)
      have G:=Qc d;by_cases f:lo<=z∧z<=1099511627776
      ·have S:=Qc (decide_eq_true f)
       have K:=Qc f;have aj:=d.2;have ai:0<=y:=by rw[ag.o];exact(u.o.2 ⟨G.o,K.o⟩).1
       clear d f
       go_wp2_with fail
       refine(Q.o _ _ _).mono ?_;rintro e W1 ⟨J,H,rfl,B,A,m⟩;have c:=Qc (t.out.trans (m.mono t.out.size));have ac:=F.o _ c.o;have ae:=I.o _ c.o;clear m
       go_wp2_with fail
       refine(X.o _ _ _ _ _ _ B A).mono ?_;rintro e Y ⟨rfl,rfl⟩;rw[E.o]
       go_wp2_with fail
       refine(HI.o _ _ c.o).mono ?_;rintro e W3 ⟨rfl,rfl⟩;rw[S.o];go_wp2;go_roundw
       case rel=>
        refine⟨k+2,by rw[Z.o],by go_num,by omega,by omega,fun j hj M=>?_,c⟩
        by_cases e:j=k
        ·rw[e];exact u.o.2 ⟨G.o,K.o⟩
        ·exact P.out j (by omega) M
       case measure=>simp[intOf];omega
      ·have S:=Qc (decide_eq_false f)
       have K:=Qc f;clear d f
       go_wp2_with fail
       refine(Q.o _ _ _).mono ?_;rintro e W1 ⟨J,H,rfl,B,A,m⟩;have c:=Qc (t.out.trans (m.mono t.out.size));have ac:=F.o _ c.o;have ae:=I.o _ c.o;clear m
       go_wp2_with fail
       refine(X.o _ _ _ _ _ _ B A).mono ?_;rintro e Y ⟨rfl,rfl⟩;rw[E.o]
       go_wp2_with fail
       refine(HI.o _ _ c.o).mono ?_;rintro e W3 ⟨rfl,rfl⟩;rw[S.o];go_wp2;go_ret;exact⟨Y6 (C.o.trans (decide_eq_false fun h=>K.o (u.o.1 (h.2.2 k x U)).2)).symm,c.o⟩
     ·have E:=Qc (decide_eq_false d)
      have G:=Qc d;clear d
      go_wp2_with fail
      refine(Q.o _ _ _).mono ?_;rintro e W1 ⟨J,H,rfl,B,A,m⟩;have c:=Qc (t.out.trans (m.mono t.out.size));have ac:=F.o _ c.o;have ae:=I.o _ c.o;clear m
      go_wp2_with fail
      refine(X.o _ _ _ _ _ _ B A).mono ?_;rintro e Y ⟨rfl,rfl⟩;rw[E.o];go_wp2;go_ret;exact⟨Y6 (C.o.trans (decide_eq_false fun h=>G.o (u.o.1 (h.2.2 k x U)).1)).symm,c.o⟩
    ·go_wp2
     go_ret;exact⟨Y6 (C.o.trans (decide_eq_true ⟨he,ad,fun j hj M=>P.out j (by omega) M⟩)).symm,t.out⟩
  ·have ab:(((l.length:Int).tmod 2) != 0)=false:=by rw[bne_eq_false_iff_eq,Int.tmod_eq_emod_of_nonneg (by omega)];omega
   have hq:128<(l.length:Int):=by omega
   have N:Hid (decide (Zap lo l)=false):=decide_eq_false (fun h=>ad h.2.1)
   go_enter func172,ntmps172
   go_wp2;go_ret;exact⟨Y6 (C.o.trans N.o).symm,Below.refl _ _⟩
 ·have ab:(((l.length:Int).tmod 2) != 0)=true:=by rw[bne_iff_ne,Int.tmod_eq_emod_of_nonneg (by omega)];omega
  have N:Hid (decide (Zap lo l)=false):=decide_eq_false (fun h=>he h.1)
  go_enter func172,ntmps172
  go_wp2;go_ret;exact⟨Y6 (C.o.trans N.o).symm,Below.refl _ _⟩
theorem Zxh (a:kind=0∨kind=1) (l:List Int):(0<=kind∧kind<6∧Zd kind l)↔l.length=1∧-1099511627776<=l.getD 0 0∧l.getD 0 0<=1099511627776:=by
 rw[Yk (by omega) (by omega)]
 constructor
 ·rintro⟨_,_,_,h1,h2⟩
  exact⟨h1 (by omega),h2 0 (by have:=h1 (by omega);omega)⟩
 ·rintro⟨h1,h2⟩
  refine⟨by omega,by omega,by omega,fun _=>h1,fun j b=>?_⟩
  have e:j=0:=by omega
  rw[e];exact h2
theorem ZuT (a:kind=2∨kind=3) (l:List Int):(0<=kind∧kind<6∧Zd kind l)↔l.length<=64∧G6 l:=by
 rw[Yk (by omega) (by omega)]
 constructor
 ·rintro⟨_,_,h1,_,h2⟩
  exact⟨h1,h2⟩
 ·rintro⟨h1,h2⟩
  exact⟨by omega,by omega,h1,fun h=>by omega,h2⟩
theorem Zss (l:List Int):(0<=(4:Int)∧(4:Int)<6∧Zd 4 l)↔Zap (-1099511627776) l:=by
 unfold Zd;rw[if_pos rfl];exact⟨fun h=>h.2.2,fun h=>⟨by decide,by decide,h⟩⟩
theorem Zpu (l:List Int):(0<=(5:Int)∧(5:Int)<6∧Zd 5 l)↔Zap 0 l:=by
 unfold Zd;rw[if_neg (by decide),if_pos rfl]
 exact⟨fun h=>h.2.2,fun h=>⟨by decide,by decide,h⟩⟩
theorem ZjK (kind:Int) (v:Value) (l:List Int) (w:World) (I:RdI w v l):
 Calls prog 122 #[.int .i64 kind,v] w fun e w'=>e=.returned (.bool (decide (0<=kind∧kind<6∧Zd kind l)))∧Below w.heap.size w w':=by
 have m:=Qc (fun p q W=>Gz p q W)
 have J:Hid (∀ W,Below w.heap.size w W->RdI W v l):=fun W h=>I.below h zL
 obtain⟨R,M⟩:∃ R,R=decide (0<=kind∧kind<6∧Zd kind l):=⟨_,rfl⟩;rw[<-M];have z:=Qc M;clear M;by_cases E:kind=0∨kind=1
 ·have i:=Qc (Zxh E l)
  have c:((kind == 0)=true)∨((kind == 0)=false∧(kind == 1)=true):=by
   rcases E with rfl | rfl
   ·exact .inl rfl
   ·exact .inr ⟨rfl,rfl⟩
  have u:=Qc (fun n l2 h2 d f W F A=>Zdu n l2 h2 d f W F A)
  obtain⟨ao,cap,rfl,-,-,-,-,U⟩:=I;have X:=Qc U;clear U E J;by_cases t:l.length=1
  ·rcases X.o with h0 | ⟨g,V,rfl,K⟩
   ·rw[h0] at t;simp at t
   have T:Hid (∀ W,Below w.heap.size w W->W.cell? ⟨g,V,none⟩=some (.int .i64 (l.getD 0 0))):=fun W h=>(h.cell (World.block_lt_of_cell? w ⟨g,V,none⟩ (K 0 (by omega)))).trans (K 0 (by omega))
   clear K X;have HL:=Qc t;rw[t];clear t;obtain⟨y,P⟩:∃ y,y=l.getD 0 0:=⟨_,rfl⟩;rw[<-P] at T i;clear P;rcases c with c | ⟨c,S⟩
   all_goals
    go_enter func122,ntmps122
    go_wp2_with fail
    refine(m.o _ _ _).mono ?_;rintro e D ⟨d,f,rfl,j,k,a⟩;have b:=Qc a;have aa:=T.o _ a;clear a
    go_wp2_with fail
    refine(u.o _ _ _ _ _ _ j k).mono ?_;rintro e O ⟨rfl,rfl⟩;go_wp2;go_ret;refine⟨Y6 ?_,b.o⟩;rw[z.o,<-Bool.decide_and];exact decide_eq_decide.2 ⟨fun h=>i.o.2 ⟨HL.o,h⟩,fun h=>(i.o.1 h).2⟩
  ·have hq:((l.length:Int) == 1)=false:=beq_eq_false_iff_ne.2 (by omega)
   have L:Hid (decide (0<=kind∧kind<6∧Zd kind l)=false):=decide_eq_false (fun h=>t (i.o.1 h).1)
   clear t;rcases c with c | ⟨c,S⟩
   all_goals
    go_enter func122,ntmps122
    go_wp2_with fail
    refine(m.o _ _ _).mono ?_;rintro e D ⟨d,f,rfl,j,k,a⟩;have b:=Qc a;clear a;go_wp2;go_ret;exact⟨Y6 (z.o.trans L.o).symm,b.o⟩
 ·have e0:(kind == 0)=false:=beq_eq_false_iff_ne.2 (by omega)
  have e1:(kind == 1)=false:=beq_eq_false_iff_ne.2 (by omega)
  by_cases H:kind=2∨kind=3
  ·have i:=Qc (ZuT H l)
   have c:((kind == 2)=true)∨((kind == 2)=false∧(kind == 3)=true):=by
    rcases H with rfl | rfl
    ·exact .inl rfl
    ·exact .inr ⟨rfl,rfl⟩
   have u:=Qc (fun d f W F A N=>Zpt v l d f W F A N)
   clear E H I;rcases c with c | ⟨c,S⟩
   all_goals
    go_enter func122,ntmps122
    go_wp2_with fail
    refine(m.o _ _ _).mono ?_;rintro e D ⟨d,f,rfl,j,k,a⟩;have b:=Qc a;clear a
    go_wp2_with fail
    refine(u.o _ _ _ (J.o _ b.o) j k).mono ?_;rintro e O ⟨rfl,rfl⟩;go_wp2;go_ret;refine⟨Y6 ?_,b.o⟩;rw[z.o,<-Bool.decide_and];exact decide_eq_decide.2 i.o.symm
  ·have e2:(kind == 2)=false:=beq_eq_false_iff_ne.2 (by omega)
   have e3:(kind == 3)=false:=beq_eq_false_iff_ne.2 (by omega)
   have u:=Qc (fun lo d f W F A N=>Zns v l lo d f W F A N)
   clear E H I;by_cases x:kind=4
   ·have e4:(kind == 4)=true:=beq_iff_eq.2 x
    have i:Hid (Zap (-1099511627776) l↔(0<=kind∧kind<6∧Zd kind l)):=by rw[x];exact(Zss l).symm
    clear x
    go_enter func122,ntmps122
    go_wp2_with fail
    refine(m.o _ _ _).mono ?_;rintro e D ⟨d,f,rfl,j,k,a⟩;have b:=Qc a;clear a
    go_wp2_with fail
    refine(u.o _ _ _ _ (J.o _ b.o) j k).mono ?_;rintro e O ⟨rfl,C⟩;have G:=Qc (b.o.trans (C.mono b.o.size));clear C;go_wp2;go_ret;refine⟨Y6 ?_,G.o⟩;rw[z.o];exact decide_eq_decide.2 i.o
   ·have e4:(kind == 4)=false:=beq_eq_false_iff_ne.2 x
    by_cases B:kind=5
    ·have e5:(kind == 5)=true:=beq_iff_eq.2 B
     have i:Hid (Zap 0 l↔(0<=kind∧kind<6∧Zd kind l)):=by rw[B];exact(Zpu l).symm
     clear x B
     go_enter func122,ntmps122
     go_wp2_with fail
     refine(m.o _ _ _).mono ?_;rintro e D ⟨Y,b1,rfl,_,_,a⟩;have b:=Qc a;clear a
     go_wp2_with fail
     refine(m.o _ _ _).mono ?_;rintro e O ⟨d,f,rfl,j,k,C⟩;have G:=Qc (b.o.trans (C.mono b.o.size));clear C
     go_wp2_with fail
     refine(u.o _ _ _ _ (J.o _ G.o) j k).mono ?_;rintro e W3 ⟨rfl,Q⟩;have Z:=Qc (G.o.trans (Q.mono G.o.size));clear Q;go_wp2;go_ret;refine⟨Y6 ?_,Z.o⟩;rw[z.o];exact decide_eq_decide.2 i.o
    ·have e5:(kind == 5)=false:=beq_eq_false_iff_ne.2 B
     have L:Hid (decide (0<=kind∧kind<6∧Zd kind l)=false):=decide_eq_false (fun h=>by
      have n0:kind≠0:=beq_eq_false_iff_ne.1 e0;have n1:kind≠1:=beq_eq_false_iff_ne.1 e1;have n2:kind≠2:=beq_eq_false_iff_ne.1 e2;have n3:kind≠3:=beq_eq_false_iff_ne.1 e3
      omega)
     clear x B
     go_enter func122,ntmps122
     go_wp2_with fail
     refine(m.o _ _ _).mono ?_;rintro e D ⟨Y,b1,rfl,_,_,a⟩;have b:=Qc a;clear a;go_wp2;go_ret;exact⟨Y6 (z.o.trans L.o).symm,b.o⟩
theorem ZuU (kind:Int) (l:List Int) (a:Bool) (g:Int):Yl ⟨kind,l,a,g⟩↔(a=false->g=0)∧(0<=g∧g<=2)∧(0<=kind∧kind<6∧Zd kind l):=
 ⟨fun h=>⟨h.2.2.1,⟨h.1,h.2.1⟩,h.2.2.2.1,h.2.2.2.2.1,h.2.2.2.2.2⟩,fun h=>⟨h.2.1.1,h.2.1.2,h.1,h.2.2.1,h.2.2.2.1,h.2.2.2.2⟩⟩
theorem ZlG (v:Value) (s:St) (w:World) (O:StV w v s):
 Calls prog 82 #[v] w fun e w'=>e=.returned (.bool (decide (Yl s)))∧Below w.heap.size w w':=by
 obtain⟨J,rfl,y,-,-⟩:=O;obtain⟨kind,l,f,g⟩:=s;simp only at y ⊢;have G:=Qc (fun p q W=>Gz p q W)
 have I:=Qc (fun n Q S Y Z W U M=>Zdu n Q S Y Z W U M)
 have L:Hid (∀ W,Below w.heap.size w W->Calls prog 122 #[.int .i64 kind,J] W fun e w'=>e=.returned (.bool (decide (0<=kind∧kind<6∧Zd kind l)))∧Below W.heap.size W w'):=fun W h=>ZjK kind J l W (y.below h zL)
 have u:=Qc (ZuU kind l f g);obtain⟨R,D⟩:∃ R,R=decide (Yl ⟨kind,l,f,g⟩):=⟨_,rfl⟩;rw[<-D];have B:=Qc D;have m:Hid (∀ x,Below w.heap.size w (w.alloc x)):=fun x=>(Below.refl _ _).alloc zL x
 clear D y;by_cases t:f=false∧g≠0
 ·obtain⟨rfl,E⟩:=t
  have hq:(g != 0)=true:=bne_iff_ne.2 E;have V:Hid (decide (Yl ⟨kind,l,false,g⟩)=false):=decide_eq_false (fun h=>E ((u.o.1 h).1 rfl))
  clear E
  go_enter func82,ntmps82
  go_wp2;go_ret;exact⟨Y6 (B.o.trans V.o).symm,m.o _⟩
 ·have c:((g != 0)=false)∨((g != 0)=true∧f=true):=by
   by_cases i:g=0
   ·exact .inl (bne_eq_false_iff_eq.2 i)
   ·cases f
    ·exact absurd ⟨rfl,i⟩ t
    ·exact .inr ⟨bne_iff_ne.2 i,rfl⟩
  have HB:Hid (f=false->g=0):=fun h=>by
   by_cases i:g=0
   ·exact i
   ·exact absurd ⟨h,i⟩ t
  clear t;by_cases d:0<=g∧g<=2
  ·have F:=Qc (decide_eq_true d)
   have T:=Qc d;clear d
   have C:Hid (decide (0<=kind∧kind<6∧Zd kind l)=R):=by
    rw[B.o];exact decide_eq_decide.2 ⟨fun h=>u.o.2 ⟨HB.o,T.o,h⟩,fun h=>(u.o.1 h).2.2⟩
   rcases c with c | ⟨c,rfl⟩
   all_goals
    go_enter func82,ntmps82
    go_wp2_with fail
    refine(G.o _ _ _).mono ?_;rintro e j ⟨N,X,rfl,z,A,a⟩;have b:=(a.block w.heap.size (by simp)).trans (heap_alloc_new w _)
    have q0:=cell_of_row j w.heap.size 0 _ _ _ b;have q1:=cell_of_row j w.heap.size 1 _ _ _ b;have K:=cell_of_row j w.heap.size 3 _ _ _ b;have k:=Qc ((m.o _).trans (a.mono (m.o _).size));clear a b
    go_wp2_with fail
    refine(I.o _ _ _ _ _ _ z A).mono ?_;rintro e W2 ⟨rfl,rfl⟩;rw[F.o]
    go_wp2_with fail
    refine(L.o _ k.o).mono ?_;rintro e W3 ⟨rfl,H⟩;rw[C.o];have P:=Qc (k.o.trans (H.mono k.o.size));clear H;go_wp2;go_ret;exact⟨rfl,P.o⟩
  ·have F:=Qc (decide_eq_false d)
   have C:Hid (R=false):=B.o.trans (decide_eq_false fun h=>d (u.o.1 h).2.1)
   clear d;rcases c with c | ⟨c,rfl⟩
   all_goals
    go_enter func82,ntmps82
    go_wp2_with fail
    refine(G.o _ _ _).mono ?_;rintro e j ⟨N,X,rfl,z,A,a⟩;have b:=(a.block w.heap.size (by simp)).trans (heap_alloc_new w _)
    have K:=cell_of_row j w.heap.size 3 _ _ _ b;have k:=Qc ((m.o _).trans (a.mono (m.o _).size));clear a b
    go_wp2_with fail
    refine(I.o _ _ _ _ _ _ z A).mono ?_;rintro e W2 ⟨rfl,rfl⟩;rw[F.o];go_wp2;go_ret;exact⟨Y6 C.o.symm,k.o⟩
theorem ZlH (o:Opn) (w:World):
 Calls prog 80 #[opV o] w fun e w'=>e=.returned (.bool (decide (Ge o)))∧Below w.heap.size w w':=by
 obtain⟨c,a,b⟩:=o;have E:=Qc (fun p q W=>Gz p q W)
 have t:=Qc (fun n T V K L W Y Q=>Zdu n T V K L W Y Q)
 have l:Hid (Ge ⟨c,a,b⟩↔(0<=c∧c<=10)∧(-1099511627776<=a∧a<=1099511627776)∧(-1099511627776<=b∧b<=1099511627776)):=
  ⟨fun h=>⟨⟨h.1,h.2.1⟩,⟨h.2.2.1,h.2.2.2.1⟩,h.2.2.2.2⟩,fun h=>⟨h.1.1,h.1.2,h.2.1.1,h.2.1.2,h.2.2⟩⟩
 obtain⟨R,y⟩:∃ R,R=decide (Ge ⟨c,a,b⟩):=⟨_,rfl⟩;rw[<-y];have X:=Qc y;have J:Hid (∀ x,Below w.heap.size w (w.alloc x)):=fun x=>(Below.refl _ _).alloc zL x
 clear y
 have go:∀ j k D,Hid (decide (0<=c∧c<=10)=j)->Hid (decide (-1099511627776<=a∧a<=1099511627776)=k)->Hid (decide (-1099511627776<=b∧b<=1099511627776)=D)->Hid ((j && k && D)=R)->
  Calls prog 80 #[.agg #[.int .i64 c,.int .i64 a,.int .i64 b]] w fun e w'=>e=.returned (.bool R)∧Below w.heap.size w w':=by
  intro j k D H1 P H3 u
  go_enter func80,ntmps80
  go_wp2_with fail
  refine(E.o _ _ _).mono ?_;rintro e F ⟨S,Z,rfl,f,g,v⟩;have G:=Qc ((J.o _).trans (v.mono (J.o _).size));have z:=Qc ((v.block w.heap.size (by simp)).trans (heap_alloc_new w _))
  have B:=Qc f;have m:=Qc g;clear v f g
  go_wp2_with fail
  refine(E.o _ _ _).mono ?_;rintro e A ⟨K,L,rfl,N,H,d⟩;have i:=(d.block w.heap.size (Array.getElem?_eq_some_iff.1 z.o).1).trans z.o;have q0:=cell_of_row A w.heap.size 0 _ _ _ i;have q1:=cell_of_row A w.heap.size 1 _ _ _ i;have q2:=cell_of_row A w.heap.size 2 _ _ _ i;have f:=(d.cell (World.block_lt_of_cell? F ⟨S,0,none⟩ B.o)).trans B.o;have g:=(d.cell (World.block_lt_of_cell? F ⟨Z,0,none⟩ m.o)).trans m.o;have C:=Qc (G.o.trans (d.mono G.o.size));have aa:=Qc f;have U:=Qc g;have I:=Qc N;have M:=Qc H;clear d i z B m f g N H
  go_wp2_with fail
  refine(t.o _ _ _ _ _ _ aa.o U.o).mono ?_;rintro e O ⟨rfl,rfl⟩;rw[H1.o]
  cases j
  ·go_wp2
   go_ret;exact⟨Y6 (by rw[<-u.o];rfl),C.o⟩
  ·go_wp2_with fail
   refine(t.o _ _ _ _ _ _ I.o M.o).mono ?_;rintro e O ⟨rfl,rfl⟩;rw[P.o]
   cases k
   ·go_wp2
    go_ret;exact⟨Y6 (by rw[<-u.o];rfl),C.o⟩
   ·go_wp2_with fail
    refine(t.o _ _ _ _ _ _ I.o M.o).mono ?_;rintro e O ⟨rfl,rfl⟩;rw[H3.o];go_wp2;go_ret;exact⟨Y6 (by rw[<-u.o];rfl),C.o⟩
 refine go _ _ _ rfl rfl rfl (Qc ?_);rw[X.o,<-Bool.decide_and,<-Bool.decide_and];exact decide_eq_decide.2 ⟨fun h=>l.o.2 ⟨h.1.1,h.1.2,h.2⟩,fun h=>⟨⟨(l.o.1 h).1,(l.o.1 h).2.1⟩,(l.o.1 h).2.2⟩⟩
theorem Zxi (v:Value) (s:St) (w:World) (p:StV w v s) (d:s.L.length<=1000000):
 Calls prog 81 #[v] w fun e w'=>∃ vl',e=.returned (.agg #[.int .i64 s.kind,vl',.bool s.shut,.int .i64 s.eng])∧Qs w' w.heap.size vl' s.L∧Below w.heap.size w w':=by
 obtain⟨k,rfl,b,-,-⟩:=p;obtain⟨kind,l,u,g⟩:=s;simp only at b d ⊢;have B:Hid (∀ W,Below w.heap.size w W->Calls prog 39 #[k] W fun e w'=>∃ v',e=.returned v'∧Qs w' W.heap.size v' l∧Below W.heap.size W w'):=fun W h=>ZfI k l W (b.below h zL) d
 have i:Hid (∀ x y,Below w.heap.size w ((w.alloc x).alloc y)):=fun x y=>((Below.refl _ _).alloc zL x).alloc (by simp) y
 clear b d
 go_enter func81,ntmps81
 go_wp2_with fail
 refine(B.o _ (i.o _ _)).mono ?_;rintro e j ⟨C,rfl,m,f⟩;have a:ZoK j w.heap.size _ _:=(ZoK.made w _ _).below f (by simp)
 have N:=(a.s 0).1;have F:=(a.s 1).1;have M:=(a.s 2).1;have E:=(a.s 3).1;have J:=(a.s 1).2;have z:=(a.r 0).1;have n:=(a.r 1).1;have t:=(a.r 2).1;have A:=(a.r 3).1;have I:=(a.r 0).2;have H:=(a.r 1).2;have G:=(a.r 2).2;have K:=(a.r 3).2;have q:=Qc ((i.o _ _).trans (f.mono (i.o _ _).size))
 have c:Qs j (w.heap.size+1+1) C l:=by
  have e:∀ x y,((w.alloc x).alloc y).heap.size=w.heap.size+1+1:=fun x y=>by simp
  rwa [e] at m
 have D:=Qc c;obtain⟨ao,cap,rfl⟩:=c.shape;clear f a m c;go_wp2;refine bodyPost_ret (v:=.agg #[.int .i64 kind,.slice ao l.length cap,.bool u,.int .i64 g]) (by simp[results,Tryz.results81,go_sem,z,n,t,A]) rfl ?_
 exact⟨_,rfl,(D.o.five w.heap.size (w.heap.size+1) (by omega) (by omega) _ _ _ _ _).mono (by omega),Zue q.o w.heap.size (w.heap.size+1) zL (by omega) _ _ _ _ _⟩
open Go.RowKit Go.ChangeShapes
theorem ZlI:prog.cellsOf 52=3:=by kernel_rfl
section
variable {H:Type} {enc:TypeId × Value->H} {w:World} {base fuel:Nat} {held:Bool}
theorem ZeI {cs:List Value} {x:DataW H × List MemPlace} (h:DataW.trod enc prog w base (fun _=>true) held fuel 52 cs=some x):
 ∃ (o:Opn),cs=[.int .i64 o.code,.int .i64 o.a,.int .i64 o.b]∧Zyw o:=by
 obtain⟨xs,n,_,_,f,t,c⟩:=DataW.trod_struct underlying52 h;rw[ZlI] at f
 match xs,t,cs,f with
 | [y0,y1,y2],_,[c0,c1,c2],_=>
  have e:=c 0 _ rfl;have l:=c 1 _ rfl;have i:=c 2 _ rfl;simp[ZhT] at e l i;obtain⟨k,d,_,q⟩:=DataW.trod_int underlying3 e;obtain⟨a,j,_,p⟩:=DataW.trod_int underlying3 l;obtain⟨b,g,_,m⟩:=DataW.trod_int underlying3 i;simp only [List.cons.injEq,and_true] at d j g;subst d j g;exact⟨⟨k,a,b⟩,rfl,Z1 q,Z1 p,Z1 m⟩
end
theorem ZuV (h:Yl s):∀ x ∈ s.L,I64 x:=by
 have g:=h.2.2.2.1;have f:=h.2.2.2.2.1;have a:=h.2.2.2.2.2;by_cases b:s.kind=4
 ·rw[b,Zbq] at a
  exact ZaB (by decide) (by decide) a.2
 ·by_cases c:s.kind=5
  ·rw[c,ZaK] at a
   exact ZaB (by decide) (by decide) a.2
  ·have e:=(J6 _).1 ((Yk b c).1 a).2.2
   intro x d;have:=e x d;exact Qo (by omega) (by omega)
theorem ZlJ (h:Yl s):s.L.length<=128:=by
 have e:=h.2.2.2.1;have d:=h.2.2.2.2.1;have a:=h.2.2.2.2.2;by_cases b:s.kind=4
 ·rw[b,Zbq] at a
  exact a.1
 ·by_cases c:s.kind=5
  ·rw[c,ZaK] at a
   exact a.1
  ·have:=((Yk b c).1 a).1
   omega
theorem Zst (h:Yl s) (b:s.shut=false) (o:Opn) (c:o.code=10):Zz s o=(⟨s.kind,s.L,true,if 0<=o.a∧o.a<=2 then o.a else s.eng⟩,0):=by
 unfold Zz;rw[if_neg (fun e=>e h),if_neg (by simp[b]),if_pos c]
theorem Zkt (h:Yl s) (a:s.shut=false) (o:Opn) (b:o.code≠10):Zz s o=if s.kind<=1 then Zef s o else if s.kind<=3 then Zq s o else if s.kind=4 then Z5 s o else Yd s o:=by
 unfold Zz;rw[if_neg (fun e=>e h),if_neg (by simp[a]),if_neg b]
theorem Zpv (s:St) (o:Opn):(Z5 s o).1.kind=s.kind∧(Z5 s o).1.shut=s.shut∧(Z5 s o).1.eng=s.eng:=by
 rw[Zgi];exact Zfr s o
theorem Zpw {r:St × Int} {k:Int} {s:Bool} (h:r.1.kind=k∧r.1.shut=s∧r.1.eng=g):r=(⟨k,r.1.L,s,g⟩,r.2):=by
 obtain⟨⟨e,d,i,j⟩,f⟩:=r;obtain⟨c,a,b⟩:=h;simp only at c a b;rw[c,a,b]
theorem ZyM (s:St) (v:Value) (o:Opn) (B:Nat) (w:World) (j:Qs w B v s.L) (n:B<=w.heap.size) (d:Yl s):
 Calls prog 83 #[.agg #[.int .i64 s.kind,v,.bool s.shut,.int .i64 s.eng],opV o] w fun e w'=>Did B w v (Zz s o) e w':=by
 obtain⟨kind,l,x,g⟩:=s
 cases x with
 | true=>
  rw[ZrH d rfl];exact Zpq kind g l v o B w j
 | false=>
  have A:0<=kind:=d.2.2.2.1;have z:kind<6:=d.2.2.2.2.1;have t:=d.2.2.2.2.2;obtain⟨c,a,b⟩:=o;by_cases i:c=10
  ·rw[Zst d rfl _ i]
   subst i;exact Zpr kind g a b l v B w j
  ·rw[Zkt d rfl _ i]
   by_cases p:kind<=1
   ·rw[if_pos p]
    obtain⟨h,f,u⟩:=ZAf d p;exact Zsr kind g (by omega) l v ⟨c,a,b⟩ i B w j h f u
   ·rw[if_neg p]
    by_cases q:kind<=3
    ·rw[if_pos q,Zpw (Zhr ⟨kind,l,false,g⟩ ⟨c,a,b⟩)]
     exact Zps kind g (by omega) l _ _ v c a b i B w j (fun W h f=>Zxe kind (by omega) v l ⟨c,a,b⟩ false g B W h f (ZuV d) (ZAg d q)) n
    ·rw[if_neg q]
     by_cases m:kind=4
     ·rw[if_pos m,Zpw (Zpv ⟨kind,l,false,g⟩ ⟨c,a,b⟩)]
      subst m;have k:=(Zbq l).1 t;exact Znq 4 g rfl l _ _ v c a b i B w j (fun W h f=>Zsq v l ⟨c,a,b⟩ false g B W h f k.2 k.1) n
     ·rw[if_neg m,Zpw (ZdF ⟨kind,l,false,g⟩ ⟨c,a,b⟩)]
      have y:kind=5:=by omega
      subst y;have k:=(ZaK l).1 t;exact ZlF 5 g rfl l _ _ v c a b i B w j (fun W h f=>Zpp v l ⟨c,a,b⟩ false g B W h f k.2 k.1) n
theorem Zxj (v:Value) (s:St) (o:Opn) (w:World) (hs:StV w v s) (S:s.L.length<=1000000):
 Calls prog 42 #[v,opV o] w fun e w'=>Zfs w (lval v) s.L (Zz s o) e w':=by
 obtain⟨vl,rfl,J,E,H⟩:=hs;rw[ZqB];obtain⟨kind,l,f,g⟩:=s;simp only at J E H S ⊢;have Q:=Qc J.i64;have ag:Hid (∀ W,Below w.heap.size w W->Calls prog 81 #[.agg #[.int .i64 kind,vl,.bool f,.int .i64 g]] W fun e w'=>∃ vl',e=.returned (.agg #[.int .i64 kind,vl',.bool f,.int .i64 g])∧Qs w' W.heap.size vl' l∧Below W.heap.size W w'):=fun W h=>Zxi _ ⟨kind,l,f,g⟩ W ⟨vl,rfl,J.below h zL,E,H⟩ S
 have Z:Hid (∀ j W,RdI W j l->Calls prog 82 #[.agg #[.int .i64 kind,j,.bool f,.int .i64 g]] W fun e w'=>e=.returned (.bool (decide (Yl ⟨kind,l,f,g⟩)))∧Below W.heap.size W w'):=fun j W h=>ZlG _ ⟨kind,l,f,g⟩ W ⟨j,rfl,h,E,H⟩
 have A:Hid (∀ x y z,Below w.heap.size w (((w.alloc x).alloc y).alloc z)):=fun x y z=>(Zy w x y z).1
 have I:Hid (∀ x y z,(((w.alloc x).alloc y).alloc z).heap.size=w.heap.size+1+1+1):=fun x y z=>ZAe w x y z
 have an:=Qc E;have ak:=Qc H;obtain⟨p,a,b⟩:=o;clear J E H S;show Calls prog _ #[_,.agg #[.int .i64 p,.int .i64 a,.int .i64 b]] w _;by_cases u:Yl ⟨kind,l,f,g⟩
 ·have X:=Qc (decide_eq_true u)
  have ah:Hid (∀ j B W,Qs W B j l->B<=W.heap.size->Calls prog 83 #[.agg #[.int .i64 kind,j,.bool f,.int .i64 g],.agg #[.int .i64 p,.int .i64 a,.int .i64 b]] W fun e w'=>Did B W j (Zz ⟨kind,l,f,g⟩ ⟨p,a,b⟩) e w'):=fun j B W h1 h2=>ZyM ⟨kind,l,f,g⟩ j ⟨p,a,b⟩ B W h1 h2 u
  have C:=ZhG u ⟨p,a,b⟩;have af:=Qc (ZuV C);have aa:Hid (I64 (Zz ⟨kind,l,f,g⟩ ⟨p,a,b⟩).1.kind):=Qo (by have:=C.2.2.2.1;omega) (by have:=C.2.2.2.2.1;omega)
  have ab:Hid (I64 (Zz ⟨kind,l,f,g⟩ ⟨p,a,b⟩).1.eng):=Qo (by have:=C.1;omega) (by have:=C.2.1;omega)
  obtain⟨⟨⟨k',L',s',g'⟩,n'⟩,Y⟩:∃ r,r=Zz ⟨kind,l,f,g⟩ ⟨p,a,b⟩:=⟨_,rfl⟩;rw[<-Y] at ah af aa ab ⊢;clear u C Y
  go_enter func42,ntmps42
  go_wp2_with fail
  refine(ag.o _ (A.o _ _ _)).mono ?_;rintro e d ⟨j,rfl,q,n⟩;rw[I.o] at q;have G:=Qc ((Da.made w _ _ _).below n (by simp))
  have t:=Qc ((A.o _ _ _).trans (n.mono (A.o _ _ _).size));have D:=Qc q;have N:=n.size;rw[I.o] at N;obtain⟨ao,cap,rfl⟩:=q.shape;clear n q
  go_wp2_with fail
  refine(Z.o _ _ ((D.o.alloc _).rd Q.o)).mono ?_;rintro e m ⟨rfl,i⟩;rw[X.o];have M:=Qc ((t.o.alloc t.o.size _).trans (i.mono (by have:=t.o.size;simp;omega)))
  have F:=Qc ((D.o.alloc _).below i zL);have al:=i.size;have c:=(G.o.below ((Below.refl d.heap.size d).alloc zL _) (by omega)).below i (by simp;omega)
  have k:=(i.block d.heap.size (by simp)).trans (heap_alloc_new d _)
  have am:=Qc c;obtain⟨p0,-⟩:=c.o 0;obtain⟨p1,-⟩:=c.o 1;obtain⟨p2,-⟩:=c.o 2;have q0:=cell_of_row m d.heap.size 0 _ _ _ k;have q1:=cell_of_row m d.heap.size 1 _ _ _ k;have q2:=cell_of_row m d.heap.size 2 _ _ _ k;have q3:=cell_of_row m d.heap.size 3 _ _ _ k;have ad:w.heap.size+1+1+1<=m.heap.size:=by simp at al;omega
  clear i c k G
  go_wp2_with fail
  refine(ah.o _ _ _ F.o ad).mono ?_;rintro e W3 ⟨v3,rfl,P,ac⟩;have R:=ac.below F.o ad;have c:=am.o.below R zL;obtain⟨K,t0⟩:=c.r 0;obtain⟨V,t1⟩:=c.r 1;obtain⟨O,t2⟩:=c.r 2;obtain⟨T,t3⟩:=c.r 3;have ap:=Qc (M.o.trans (R.mono (by omega)))
  have ae:=Qc P;obtain⟨ai,aj,rfl⟩:=P.shape;clear R ac c P;go_wp2;refine bodyPost_ret (v:=.tuple #[.agg #[.int .i64 k',.slice ai L'.length aj,.bool s',.int .i64 g'],.int .i64 n']) (by simp[results,Tryz.results42,go_sem,K,V,O,T]) rfl ?_
  refine Zfs.fresh ((ae.o.four (w.heap.size+1+1) (by omega) _ _ _ _).rd af.o) aa.o ab.o n' (fun b U=>?_) (Zae ap.o (w.heap.size+1+1) (by omega) _ _ _ _)
  have:=ae.o.fresh b U;omega
 ·have X:=Qc (decide_eq_false u)
  have HR:=Qc (ZhF u ⟨p,a,b⟩);rw[HR.o];clear u
  go_enter func42,ntmps42
  go_wp2_with fail
  refine(ag.o _ (A.o _ _ _)).mono ?_;rintro e d ⟨j,rfl,q,n⟩;rw[I.o] at q;have G:=Qc ((Da.made w _ _ _).below n (by simp))
  have t:=Qc ((A.o _ _ _).trans (n.mono (A.o _ _ _).size));have D:=Qc q;have N:=n.size;rw[I.o] at N;obtain⟨ao,cap,rfl⟩:=q.shape;clear n q
  go_wp2_with fail
  refine(Z.o _ _ ((D.o.alloc _).rd Q.o)).mono ?_;rintro e m ⟨rfl,i⟩;rw[X.o];have M:=Qc ((t.o.alloc t.o.size _).trans (i.mono (by have:=t.o.size;simp;omega)))
  have F:=Qc ((D.o.alloc _).below i zL);have c:=(G.o.below ((Below.refl d.heap.size d).alloc zL _) (by omega)).below i (by simp;omega)
  have k:=(i.block d.heap.size (by simp)).trans (heap_alloc_new d _)
  obtain⟨K,t0⟩:=c.r 0;obtain⟨V,t1⟩:=c.r 1;obtain⟨O,t2⟩:=c.r 2;obtain⟨T,t3⟩:=c.r 3;have q0:=cell_of_row m d.heap.size 0 _ _ _ k;have q1:=cell_of_row m d.heap.size 1 _ _ _ k;have q2:=cell_of_row m d.heap.size 2 _ _ _ k;have q3:=cell_of_row m d.heap.size 3 _ _ _ k;clear i c k G;go_wp2;refine bodyPost_ret (v:=.tuple #[.agg #[.int .i64 kind,.slice ao l.length cap,.bool f,.int .i64 g],.int .i64 0]) (by simp[results,Tryz.results42,go_sem,K,V,O,T]) rfl ?_
  refine Zfs.fresh ((F.o.four (w.heap.size+1+1) (by omega) _ _ _ _).rd Q.o) an.o ak.o 0 (fun b U=>?_) (Zae M.o (w.heap.size+1+1) (by omega) _ _ _ _)
  have:=F.o.fresh b U;omega
theorem Zsu (s:St) (o:Opn):I64 (Zz s o).2:=by
 by_cases h:s.kind≠4∨s.shut=true∨o.code=10∨o.code=5∨o.code=6∨o.code=7∨(0<=o.a∧o.a<=255)
 ·rw[ZwJ s o h]
  exact Zug s o
 ·by_cases d:Yl s
  ·have b:s.kind=4:=by
    by_cases b:s.kind=4
    ·exact b
    ·exact absurd (.inl b) h
   have c:s.shut=false:=by
    cases c:s.shut
    ·rfl
    ·exact absurd (.inr (.inl c)) h
   have f:o.code≠10:=fun e=>h (.inr (.inr (.inl e)))
   have g:¬ (0<=o.a∧o.a<=255):=fun e=>h (.inr (.inr (.inr (.inr (.inr (.inr e))))))
   rw[Zkt d c o f,if_neg (by omega),if_neg (by omega),if_pos b]
   unfold Z5;rw[if_pos (by omega)]
   exact(Qo (by decide) (by decide):I64 (-1))
  ·rw[ZhF d]
   exact(Qo (by decide) (by decide):I64 0)
theorem ZyN (n a b:Int) (B:Bool) (g:B=decide (a<=n∧n<=b)) (w:World):
 Calls prog 79 #[.int .i64 n,.int .i64 a,.int .i64 b] w fun e w'=>e=.returned (.bool B)∧w'=w:=by
 have c:=ZZ g;clear g;by_cases i:a<=n
 ·by_cases f:n<=b
  ·have d:Hid (true=B):=ZZ (by rw[c.o,decide_eq_true ⟨i,f⟩])
   clear c
   go_enter func79,ntmps79
   go_wp2;go_ret;exact⟨Y6 d.o,rfl⟩
  ·have d:Hid (false=B):=ZZ (by rw[c.o,decide_eq_false fun h=>f h.2])
   clear c
   go_enter func79,ntmps79
   go_wp2;go_ret;exact⟨Y6 d.o,rfl⟩
 ·have d:Hid (false=B):=ZZ (by rw[c.o,decide_eq_false fun h=>i h.1])
  clear c
  go_enter func79,ntmps79
  go_wp2;go_ret;exact⟨Y6 d.o,rfl⟩
theorem Zpx (r:Rec):Qz r↔(0<=r.idx∧r.idx<=4611686018427387903)∧(0<=r.proc∧r.proc<=64)∧(0<=r.seq∧r.seq<=4611686018427387903)∧Ge r.op∧(-1125899906842624<=r.resp∧r.resp<=1125899906842624):=by
 unfold Qz;constructor
 ·rintro⟨h1,h2,h3,h4,h5,h6,h7,h8,h9⟩
  exact⟨⟨h2,by omega⟩,⟨h6,h7⟩,⟨h4,by omega⟩,h1,h8,h9⟩
 ·rintro⟨⟨h2,h3⟩,⟨h6,h7⟩,⟨h4,h5⟩,h1,h8,h9⟩
  exact⟨h1,h2,by omega,h4,by omega,h6,h7,h8,h9⟩
theorem Zig (r:Rec) (w:World):
 Calls prog 41 #[Zso r] w fun e w'=>e=.returned (.bool (decide (Qz r)))∧Below w.heap.size w w':=by
 obtain⟨B,y⟩:∃ B,B=decide (Qz r):=⟨_,rfl⟩;rw[<-y];have f:=ZZ (Zpx r);have F:=ZZ (fun W=>ZlH r.op W)
 have g:=ZZ y;clear y;obtain⟨idx,proc,seq,⟨D,a,b⟩,resp⟩:=r;show Calls prog _ #[.agg #[.int .i64 idx,.int .i64 proc,.int .i64 seq,.int .i64 D,.int .i64 a,.int .i64 b,.int .i64 resp]] w _;have m:Hid (∀ X,Below w.heap.size w (w.alloc X)):=fun X=>(Below.refl _ _).alloc zL X
 have G:Hid (∀ cs,Br (w.alloc (.cells cs 62)) w.heap.size cs):=fun cs=>heap_alloc_new w _
 have q:Hid (∀ W,Calls prog 80 #[.agg #[.int .i64 D,.int .i64 a,.int .i64 b]] W fun e w'=>e=.returned (.bool (decide (Ge ⟨D,a,b⟩)))∧Below W.heap.size W w'):=F.o
 clear F;have c:=ZZ (fun n a b B y W=>ZyN n a b B y W)
 by_cases k:0<=idx∧idx<=4611686018427387903
 case neg=>
  have i:Hid (false=B):=ZZ (by rw[g.o,decide_eq_false fun h=>k (f.o.1 h).1])
  have J:=ZZ (decide_eq_false k).symm;clear g f k q
  go_enter func41,ntmps41
  go_wp2_with fail
  refine(c.o _ _ _ _ J.o _).mono ?_;rintro e d ⟨rfl,rfl⟩;go_wp2;go_ret;exact⟨Y6 i.o,m.o _⟩
 have x:=ZZ (decide_eq_true k).symm;by_cases l:0<=proc∧proc<=64
 case neg=>
  have i:Hid (false=B):=ZZ (by rw[g.o,decide_eq_false fun h=>l (f.o.1 h).2.1])
  have u:=ZZ (decide_eq_false l).symm;clear g f k l q
  go_enter func41,ntmps41
  go_wp2_with fail
  refine(c.o _ _ _ _ x.o _).mono ?_;rintro e d ⟨rfl,rfl⟩
  go_wp2_with fail
  refine(c.o _ _ _ _ u.o _).mono ?_;rintro e d ⟨rfl,rfl⟩;go_wp2;go_ret;exact⟨Y6 i.o,m.o _⟩
 have u:=ZZ (decide_eq_true l).symm;by_cases p:0<=seq∧seq<=4611686018427387903
 case neg=>
  have i:Hid (false=B):=ZZ (by rw[g.o,decide_eq_false fun h=>p (f.o.1 h).2.2.1])
  have z:=ZZ (decide_eq_false p).symm;clear g f k l p q
  go_enter func41,ntmps41
  go_wp2_with fail
  refine(c.o _ _ _ _ x.o _).mono ?_;rintro e d ⟨rfl,rfl⟩
  go_wp2_with fail
  refine(c.o _ _ _ _ u.o _).mono ?_;rintro e d ⟨rfl,rfl⟩
  go_wp2_with fail
  refine(c.o _ _ _ _ z.o _).mono ?_;rintro e d ⟨rfl,rfl⟩;go_wp2;go_ret;exact⟨Y6 i.o,m.o _⟩
 have z:=ZZ (decide_eq_true p).symm;by_cases t:Ge ⟨D,a,b⟩
 case neg=>
  have i:Hid (false=B):=ZZ (by rw[g.o,decide_eq_false fun h=>t (f.o.1 h).2.2.2.1])
  rw[decide_eq_false t] at q;clear g f k l p t
  go_enter func41,ntmps41
  go_wp2_with fail
  refine(c.o _ _ _ _ x.o _).mono ?_;rintro e d ⟨rfl,rfl⟩
  go_wp2_with fail
  refine(c.o _ _ _ _ u.o _).mono ?_;rintro e d ⟨rfl,rfl⟩
  go_wp2_with fail
  refine(c.o _ _ _ _ z.o _).mono ?_;rintro e d ⟨rfl,rfl⟩
  go_wp2_with fail
  refine(q.o _).mono ?_;rintro e H ⟨rfl,j⟩;have C:=ZZ ((m.o _).trans (j.mono (m.o _).size));clear j;go_wp2;go_ret;exact⟨Y6 i.o,C.o⟩
 rw[decide_eq_true t] at q;by_cases v:-1125899906842624<=resp∧resp<=1125899906842624
 case neg=>
  have i:Hid (false=B):=ZZ (by rw[g.o,decide_eq_false fun h=>v (f.o.1 h).2.2.2.2])
  have E:=ZZ (decide_eq_false v).symm;clear g f k l p t v
  go_enter func41,ntmps41
  go_wp2_with fail
  refine(c.o _ _ _ _ x.o _).mono ?_;rintro e d ⟨rfl,rfl⟩
  go_wp2_with fail
  refine(c.o _ _ _ _ u.o _).mono ?_;rintro e d ⟨rfl,rfl⟩
  go_wp2_with fail
  refine(c.o _ _ _ _ z.o _).mono ?_;rintro e d ⟨rfl,rfl⟩
  go_wp2_with fail
  refine(q.o _).mono ?_;rintro e H ⟨rfl,j⟩;have A:=(G.out _).below j zL;have C:=ZZ ((m.o _).trans (j.mono (m.o _).size));obtain⟨I,-⟩:=A.cell 6;clear j A
  go_wp2_with fail
  refine(c.o _ _ _ _ E.o _).mono ?_;rintro e K ⟨rfl,rfl⟩;go_wp2;go_ret;exact⟨Y6 i.o,C.o⟩
 have i:Hid (true=B):=ZZ (by rw[g.o,decide_eq_true (f.o.2 ⟨k,l,p,t,v⟩)])
 have E:=ZZ (decide_eq_true v).symm;clear g f k l p t v
 go_enter func41,ntmps41
 go_wp2_with fail
 refine(c.o _ _ _ _ x.o _).mono ?_;rintro e d ⟨rfl,rfl⟩
 go_wp2_with fail
 refine(c.o _ _ _ _ u.o _).mono ?_;rintro e d ⟨rfl,rfl⟩
 go_wp2_with fail
 refine(c.o _ _ _ _ z.o _).mono ?_;rintro e d ⟨rfl,rfl⟩
 go_wp2_with fail
 refine(q.o _).mono ?_;rintro e H ⟨rfl,j⟩;have A:=(G.out _).below j zL;have C:=ZZ ((m.o _).trans (j.mono (m.o _).size));obtain⟨I,-⟩:=A.cell 6;clear j A
 go_wp2_with fail
 refine(c.o _ _ _ _ E.o _).mono ?_;rintro e K ⟨rfl,rfl⟩;go_wp2;go_ret;exact⟨Y6 i.o,C.o⟩
def Zih (w:World) (vl0 vt0:Value) (l:List Rec) (r:Q0 × Int) (e:Ending) (w':World):Prop:=
 ∃ vl vt,e=.returned (.tuple #[.agg #[.int .i64 r.1.idx,.int .i64 r.1.st.kind,vl,.bool r.1.st.shut,.int .i64 r.1.st.eng,vt],.int .i64 r.2])∧RdI w' vl r.1.st.L∧I64 r.1.st.kind∧I64 r.1.st.eng∧RdE w' vt r.1.tab∧I64 r.1.idx∧
  (vl=vl0∨∀ b,vl.ownBlock=some b->w.heap.size<=b)∧((l=[]∧vt=vt0)∨Xn w' w.heap.size vt r.1.tab)∧Below w.heap.size w w'
def Znt (w:World) (S:Q0) (wr:World):Prop:=
 ∃ la lc ta tc,Bn wr w.heap.size #[.int .i64 S.idx,.int .i64 S.st.kind,.slice la S.st.L.length lc,.bool S.st.shut,.int .i64 S.st.eng,.slice ta S.tab.length tc]∧
  Bn wr (w.heap.size+1) #[.int .i64 0,.int .i64 0,.slice none 0 0,.bool false,.int .i64 0,.slice none 0 0]∧
  RdI wr (.slice la S.st.L.length lc) S.st.L∧(∀ b,(Value.slice la S.st.L.length lc).ownBlock=some b->w.heap.size+2<=b)∧
  Xn wr (w.heap.size+2) (.slice ta S.tab.length tc) S.tab∧(∀ e ∈ S.tab,Zlx e)∧I64 S.idx∧I64 S.st.kind∧I64 S.st.eng∧Below w.heap.size w wr
theorem Qs.freshI {l:List Int} (h:Qs w B v l):∀ b,v.ownBlock=some b->B<=b:=fun b a=>(World.ownsRow.lt h b a).1
theorem Xn.butN {l:List Ent} (h:Xn w B v l) (i:But R T w w') (k:∀ b,v.ownBlock=some b->b≠R∧b≠T):Xn w' B v l:=by
 rcases h.row with ⟨rfl,rfl⟩ | ⟨g,cap,cur,rfl,e,f,d,j,c,a,m⟩
 ·exact Xn.nil _ _
 ·have:=k g rfl
  exact Xn.ofRow rfl e ((i.block g f this.1 this.2).trans d) j c a m
theorem Xn.but {l:List Ent} (h:Xn w B v l) (a:But R T w w') (d:R<B) (c:T<B):Xn w' B v l:=
 h.butN a (fun b a=>by have:=h.fresh b a;omega)
theorem Zii {j:Int} {l:Bool} {z q:Value} {L:List Int} {g:Option Addr}
 (m:Bn W w.heap.size #[.int .i64 idx,.int .i64 kind,z,.bool l,.int .i64 j,q]) (A:Bn W (w.heap.size+1) #[.int .i64 0,.int .i64 0,.slice none 0 0,.bool false,.int .i64 0,.slice none 0 0])
 (i:Qs W (w.heap.size+2) (.slice d L.length c) L) (x:∀ n ∈ L,I64 n) (u:Xn W (w.heap.size+2) (.slice g a.length f) a) (y:∀ e ∈ a,Zlx e) (t:I64 idx) (p:I64 kind) (B:I64 j) (v:Below w.heap.size w W):
 Znt w ⟨idx,⟨kind,L,l,j⟩,a⟩ ((W.setCell ⟨w.heap.size,2,none⟩ (.slice d L.length c)).setCell ⟨w.heap.size,5,none⟩ (.slice g a.length f)):=by
 have k:But w.heap.size w.heap.size W ((W.setCell ⟨w.heap.size,2,none⟩ (.slice d L.length c)).setCell ⟨w.heap.size,5,none⟩ (.slice g a.length f)):=((But.refl _ _ _).set _ _ (.inl rfl) _).set _ _ (.inl rfl) _;refine⟨d,c,g,f,(m.set 2 _).set 5 _,(A.other 2 _ (by omega)).other 5 _ (by omega),(i.rd x).but k (.inr fun b h=>?_),i.freshI,u.but k (by omega) (by omega),y,t,p,B,Zaf v k (by have:=m.lt;omega) zL zL⟩
 have:=i.freshI b h;omega
theorem ZuW (o:Opn) (h:s.L.length<=1000):(Zz s o).1.L.length<=1000:=by
 by_cases a:Yl s
 ·have:=(Zer (ZhG a o)).2.1
  omega
 ·rw[ZhF a]
  exact h
theorem Zsv {s:Q0} {l:List Rec} {q:Nat} (a:q<l.length):Q3 s (l.drop q)=if(l.getD q Qi).idx≠s.idx then(Yb,15) else if ¬ Qz (l.getD q Qi) then(Yb,1) else Q3 (ZhH s (l.getD q Qi)) (l.drop (q+1)):=by
 have e:l.drop q=l.getD q Qi::l.drop (q+1):=by
  rw[List.drop_eq_getElem_cons a];simp[List.getD,a]
 rw[e,Q3]
def ZfO (W:World) (R Q:Nat) (k:Int) (v:Value) (sh:Bool) (g n:Int):World:=
 ((((W.setCell ⟨R,1,none⟩ (.int .i64 k)).setCell ⟨R,2,none⟩ v).setCell ⟨R,3,none⟩ (.bool sh)).setCell ⟨R,4,none⟩ (.int .i64 g)).setCell ⟨Q,6,none⟩ (.int .i64 n)
theorem Br.other {cs:Array Value} (h:Br w b cs) (j:Nat) (x:Value) (a:b≠c):Br (w.setCell ⟨c,j,none⟩ x) b cs:=(Below.heap_setCell _ _ _ _ a).trans h
theorem Zpy (W:World) (R Q:Nat) (k:Int) (v:Value) (a:Bool) (g n:Int):But R Q W (ZfO W R Q k v a g n):=
 (((((But.refl R Q W).set _ _ (.inl rfl) _).set _ _ (.inl rfl) _).set _ _ (.inl rfl) _).set _ _ (.inl rfl) _).set _ _ (.inr rfl) _
theorem Zsw (d:R≠Q) {c f e i j a:Value} (h:Bn W R #[c,f,e,i,j,a]) (k:Int) (v:Value) (b:Bool) (g n:Int):Bn (ZfO W R Q k v b g n) R #[c,.int .i64 k,v,.bool b,.int .i64 g,a]:=
 ((((h.set 1 _).set 2 _).set 3 _).set 4 _).other 6 _ d
theorem Zsx (a:Q≠R) {f c b d i e j:Value} (h:Br W Q #[f,c,b,d,i,e,j]) (k:Int) (v:Value) (l:Bool) (g n:Int):Br (ZfO W R Q k v l g n) Q #[f,c,b,d,i,e,.int .i64 n]:=
 ((((h.other 1 _ a).other 2 _ a).other 3 _ a).other 4 _ a).set 6 _
theorem Zpz {C:Nat} (a:C≠R) (b:C≠Q) {cs:Array Value} (h:Bn W C cs) (k:Int) (v:Value) (c:Bool) (g n:Int):Bn (ZfO W R Q k v c g n) C cs:=
 ((((h.other 1 _ a).other 2 _ a).other 3 _ a).other 4 _ a).other 6 _ b
theorem ZpA {i:Int} {l:Bool} {p:Value} {L:List Int} {g:Option Addr}
 (m:Bn W w.heap.size #[.int .i64 idx,.int .i64 kind,.slice d L.length c,.bool l,.int .i64 i,p]) (y:Bn W (w.heap.size+1) #[.int .i64 0,.int .i64 0,.slice none 0 0,.bool false,.int .i64 0,.slice none 0 0])
 (q:RdI W (.slice d L.length c) L) (k:∀ b,(Value.slice d L.length c).ownBlock=some b->w.heap.size+2<=b) (u:Xn W (w.heap.size+2) (.slice g a.length f) a) (x:∀ e ∈ a,Zlx e) (t:I64 (idx+1)) (n:I64 kind) (z:I64 i) (v:Below w.heap.size w W):
 Znt w ⟨idx+1,⟨kind,L,l,i⟩,a⟩ ((W.setCell ⟨w.heap.size,5,none⟩ (.slice g a.length f)).setCell ⟨w.heap.size,0,none⟩ (.int .i64 (idx+1))):=by
 have j:But w.heap.size w.heap.size W ((W.setCell ⟨w.heap.size,5,none⟩ (.slice g a.length f)).setCell ⟨w.heap.size,0,none⟩ (.int .i64 (idx+1))):=((But.refl _ _ _).set _ _ (.inl rfl) _).set _ _ (.inl rfl) _;refine⟨d,c,g,f,(m.set 5 _).set 0 _,(y.other 5 _ (by omega)).other 0 _ (by omega),q.but j (.inr fun b h=>?_),k,u.but j (by omega) (by omega),x,t,n,z,Zaf v j (by have:=m.lt;omega) zL zL⟩
 have:=k b h;omega
theorem Zih.zero (d c:Value) (l:List Rec) (n:Int) (a:Below w.heap.size w w'):Zih w d c l (Yb,n) (.returned (.tuple #[.agg #[.int .i64 0,.int .i64 0,.slice none 0 0,.bool false,.int .i64 0,.slice none 0 0],.int .i64 n])) w':=
 ⟨_,_,rfl,RdI.nil _,(Qo (by decide) (by decide):I64 0),(Qo (by decide) (by decide):I64 0),RdE.nil _,(Qo (by decide) (by decide):I64 0),.inr (fun b a=>by simp[Value.ownBlock] at a),.inr (Xn.nil _ _),a⟩
theorem Zij {P:Q0->Prop} (aV:∀ S r,P S->Qz r->P (ZhH S r)) (bi:∀ S,P S->S.tab.length<=1500) (idx kind:Int) (vl:Value) (G:Bool) (N:Int) (vt:Value) (s:Q0) (vr:Value) (l:List Rec) (w:World) (hs:SnV w (.agg #[.int .i64 idx,.int .i64 kind,vl,.bool G,.int .i64 N,vt]) s) (hr:RdR w vr l) (a7:s.st.L.length<=1000) (bv:s.tab.length<=1000) (b1:l.length<=1000000000) (a3:P s):
 Calls prog 15 #[.agg #[.int .i64 idx,.int .i64 kind,vl,.bool G,.int .i64 N,vt],vr] w fun e w'=>Zih w vl vt l (Q3 s l) e w':=by
 obtain⟨vl',bU,Z,hl,hk,A,ht,hi⟩:=hs
 injection Z with Z
 injection Z with Z
 simp only [List.cons.injEq,Value.int.injEq,Value.bool.injEq,and_true,true_and] at Z;obtain⟨rfl,rfl,rfl,rfl,rfl,rfl⟩:=Z;obtain⟨la,lc,bH,-⟩:=id hl;obtain⟨ta,tc,bD⟩:=ht.shape;subst bH bD;obtain⟨ra,rc,rfl,bx,bT,-,bh,aU⟩:=hr;have bN:=ZZ aV;have br:=ZZ bi;clear aV bi;have bl:=ZZ aU;have a6:=ZZ bh;obtain⟨idx,⟨kind,L,G,N⟩,V⟩:=s
 dsimp only at *
 have aQ:=ZZ a3;clear a3;obtain⟨E,aM⟩:∃ E,E=Q3 ⟨idx,⟨kind,L,G,N⟩,V⟩ l:=⟨_,rfl⟩;rw[<-aM];have aP:=ZZ aM;have ba:Hid (∀ (S:Q0) (q:Nat),q<l.length->Q3 S (l.drop q)=if(l.getD q Qi).idx≠S.idx then(Yb,15) else if ¬ Qz (l.getD q Qi) then(Yb,1) else Q3 (ZhH S (l.getD q Qi)) (l.drop (q+1))):=ZZ (fun S q hq=>Zsv hq)
 clear aM aU bh bx bT;have aO:=ZZ (fun W (h:Below w.heap.size w W)=>ZfI _ L W (hl.below h zL) (by omega))
 have aZ:=ZZ (fun W (h:Below w.heap.size w W)=>ZfJ _ V W (ht.below h zL) (by omega))
 have aI:=ZZ hl.i64;have aX:∀ e ∈ V,Zlx e:=ht.choose_spec.choose_spec.2.2.2.2.1;have aW:=ZZ aX;have p:Hid (∀ X Y,Below w.heap.size w ((w.alloc X).alloc Y)):=fun X Y=>((Below.refl _ _).alloc zL X).alloc (by simp) Y
 have aa:Hid (∀ cs Q,Bn ((w.alloc (.cells cs 41)).alloc (.cells Q 41)) w.heap.size cs):=fun cs Q=>(Below.heap_alloc _ _ _ (by simp)).trans (heap_alloc_new w _)
 have j:Hid (∀ cs Q,Bn ((w.alloc (.cells cs 41)).alloc (.cells Q 41)) (w.heap.size+1) Q):=fun cs Q=>ZdR w _ _
 clear hl ht aX
 go_enter func15,ntmps15
 go_upto_region 1 with fail
 obtain⟨d,f⟩:∃ d,d=(w.alloc (.cells #[.int .i64 idx,.int .i64 kind,.slice la L.length lc,.bool G,.int .i64 N,.slice ta V.length tc] 41)).alloc (.cells #[.int .i64 0,.int .i64 0,.slice none 0 0,.bool false,.int .i64 0,.slice none 0 0] 41):=⟨_,rfl⟩;have M:Hid (Below w.heap.size w d):=ZZ (by rw[f];exact p.o _ _)
 have B:Hid (Bn d w.heap.size #[.int .i64 idx,.int .i64 kind,.slice la L.length lc,.bool G,.int .i64 N,.slice ta V.length tc]):=ZZ (by rw[f];exact aa.o _ _)
 have be:Hid (Bn d (w.heap.size+1) #[.int .i64 0,.int .i64 0,.slice none 0 0,.bool false,.int .i64 0,.slice none 0 0]):=ZZ (by rw[f];exact j.o _ _)
 have bO:d.heap.size=w.heap.size+2:=by rw[f];simp
 rw[<-f];clear f p aa j;obtain⟨p2,g2⟩:=B.o.cell 2;obtain⟨p5,g5⟩:=B.o.cell 5
 go_cut[] (fun wc=>Hid (Znt w ⟨idx,⟨kind,L,G,N⟩,V⟩ wc))
 case first=>
  go_region_with
   (first
    | (go_at_call 39;refine(aO.o _ (by first | exact M.o.drew | exact M.o)).mono ?_;rintro e W1 ⟨v1,rfl,aC,g⟩;have al:Below d.heap.size d W1:=(by first | exact((Below.refl _ _).drew).trans g | exact g);have bt:=ZZ aC;have K:=ZZ al;obtain⟨a1,c1,bK⟩:∃ a c,v1=.slice a L.length c:=(by obtain⟨a,c,h,-⟩:=aC.rd aI.o;exact⟨a,c,h⟩);subst bK;obtain⟨q2,k2⟩:=(B.o.below al zL).cell 2;obtain⟨q5,k5⟩:=(B.o.below al zL).cell 5;clear aC g al)
    | (go_at_call 40;refine(aZ.o _ (M.o.trans (K.o.mono M.o.size))).mono ?_;rintro e W2 ⟨v2,rfl,aK,m⟩;have bF:=ZZ aK;have ae:=ZZ (K.o.trans (m.mono K.o.size));have bI:=ZZ (bt.o.below m zL);obtain⟨a2,c2,aJ⟩:=aK.shape;subst aJ;obtain⟨r2,j2⟩:=(B.o.below ae.o zL).cell 2;obtain⟨r5,j5⟩:=(B.o.below ae.o zL).cell 5;clear aK m))
  all_goals
   go_wp2_with fail
   go_meet
   exact ZZ (Zii (B.o.below ae.o zL) (be.o.below ae.o zL) (bI.o.mono (by first | omega | (show w.heap.size+2<=d.heap.size;omega))) aI.o (bF.o.mono (by have:=K.o.size;omega)) aW.o hi hk A (M.o.trans (ae.o.mono M.o.size)))
 case rest=>
  have a8:=hcut;clear hcut M B be bO p2 g2 p5 g5 aO aZ aI aW d hk A hi;go_wp2
  go_loopw[20] (fun vi wr=>∃ (q:Nat) (S:Q0),vi=.int .i64 (q:Int)∧q<=l.length∧Hid (Znt w S wr)∧Hid (E=Q3 S (l.drop q))∧Hid (S.st.L.length<=1000)∧Hid (P S)) (fun vi _=>l.length-(intOf vi).toNat)
  case atStart=>exact⟨0,_,rfl,Nat.zero_le _,a8,aP,ZZ a7,aQ⟩
  case round=>
   clear a8 aP a7 bv aQ;obtain⟨q,S,rfl,hq,hT,ar,aT,aY⟩:=hrel;obtain⟨sa,sc,ea,ec,C,t,hL,bb,hE,a9,hi,hk,A,hB⟩:=hT.out;clear hT;have HX:=ZZ C;have HY:=ZZ t;have HL:=ZZ hL;have ak:=ZZ bb;have HE:=ZZ hE;have aH:=ZZ a9;have ag:=ZZ (And.intro hi (And.intro hk A));have HB:=ZZ hB;have bJ:=ZZ t.lt;obtain⟨p0,g0⟩:=C.cell 0;obtain⟨p1,g1⟩:=C.cell 1;obtain⟨p2,g2⟩:=C.cell 2;obtain⟨p3,g3⟩:=C.cell 3;obtain⟨p4,g4⟩:=C.cell 4;obtain⟨p5,g5⟩:=C.cell 5;obtain⟨z0,y0⟩:=t.cell 0;obtain⟨z1,y1⟩:=t.cell 1;obtain⟨R,y2⟩:=t.cell 2;obtain⟨U,y3⟩:=t.cell 3;obtain⟨z4,y4⟩:=t.cell 4;obtain⟨z5,y5⟩:=t.cell 5;clear C t hL bb hE a9 hi hk A hB;by_cases I:q<l.length
   case neg=>
    obtain rfl:q=l.length:=by omega
    have H:Hid (E=(S,0)):=ZZ (by rw[ar.out,List.drop_length];rfl)
    clear ar;have bZ:¬ (w.heap.size=w.heap.size+1):=by omega
    go_wp2;refine bodyPost_ret (v:=.tuple #[.agg #[.int .i64 S.idx,.int .i64 S.st.kind,.slice sa S.st.L.length sc,.bool S.st.shut,.int .i64 S.st.eng,.slice ea S.tab.length ec],.int .i64 0]) (by simp[results,Tryz.results15,go_sem,z0,z1,R,U,z4,z5]) rfl ?_
    rw[H.o];have ax:=ZqQ wr (w.heap.size+1) (.int .i64 S.idx) (.int .i64 S.st.kind) (.slice sa S.st.L.length sc) (.bool S.st.shut) (.int .i64 S.st.eng) (.slice ea S.tab.length ec);exact⟨_,_,rfl,HL.o.but ax (.inr fun b h=>by have:=ak.o b h;omega),ag.o.2.1,ag.o.2.2,(HE.o.rd aH.o).but ax (.inr fun b h=>by have:=HE.o.fresh b h;omega),ag.o.1,.inr (fun b h=>by have:=ak.o b h;omega),.inr ((HE.o.but ax (by omega) (by omega)).mono (by omega)),ZeF HB.o _ (by omega) _ _ _ _ _ _⟩
   have bX:(q:Int)<(l.length:Int):=by omega
   rcases bl.o with h0 | ⟨c,b2,rfl,hc⟩
   ·rw[h0] at I;simp at I
   obtain⟨c0,c1,c2,c3,c4,c5,c6⟩:=(hc q I).keep (HB.o.block c (hc q I).lt);have y:=ZZ (ba.o S q I);rw[<-ar.out] at y;have aj:=ZZ (fun W=>Zig (l.getD q Qi) W)
   have J:Hid (Zcx (l.getD q Qi)):=ZZ (a6.o _ (by rw[show l.getD q Qi=l[q] by simp[List.getD,I]];exact List.getElem_mem I))
   obtain⟨r,hr⟩:∃ r,r=l.getD q Qi:=⟨_,rfl⟩;rw[<-hr] at y aj J c0 c1 c2 c3 c4 c5 c6;clear hr hc ba bl a6 ar;obtain⟨bf,aN⟩:∃ bf,bf=decide (Qz r):=⟨_,rfl⟩;rw[<-aN] at aj;have aA:=ZZ aN;clear aN;have bY:=bJ.o;clear p0 p1 p2 p3 p4 p5 g0 g1 g2 g3 g4 g5 z0 z1 R U z4 z5 y0 y1 y2 y3 y4 y5
   go_upto_region 5 with fail
   obtain⟨d,f⟩:∃ d,d=wr.alloc (.cells (Ja r) 62):=⟨_,rfl⟩;have p:Hid (Below wr.heap.size wr d):=ZZ (by rw[f];exact(Below.refl _ _).alloc zL _)
   have k:Hid (Br d wr.heap.size (Ja r)):=ZZ (by rw[f];exact heap_alloc_new wr _)
   unfold Ja at f;rw[<-f];clear f c0 c1 c2 c3 c4 c5 c6;unfold Ja at k;unfold Zso at aj;obtain⟨i,an⟩:∃ i,i=wr.heap.size:=⟨_,rfl⟩;have aa:=ZZ (HX.o.below p.o zL);have j:=ZZ (HY.o.below p.o zL);have aq:=ZZ (HB.o.trans (p.o.mono HB.o.size));rw[<-an] at k ⊢;obtain⟨p0,g0⟩:=aa.o.cell 0;obtain⟨k0,-⟩:=k.o.cell 0;obtain⟨k1,-⟩:=k.o.cell 1;obtain⟨k2,-⟩:=k.o.cell 2;obtain⟨k3,-⟩:=k.o.cell 3;obtain⟨k4,-⟩:=k.o.cell 4;obtain⟨k5,-⟩:=k.o.cell 5;obtain⟨k6,-⟩:=k.o.cell 6;by_cases T:r.idx=S.idx
   case neg=>
    have H:Hid (E=(Yb,15)):=ZZ (by rw[y.o,if_pos T])
    have bA:(r.idx != S.idx)=true:=by rw[bne_iff_ne];exact T
    obtain⟨z0,y0⟩:=j.o.cell 0;obtain⟨z1,y1⟩:=j.o.cell 1;obtain⟨R,y2⟩:=j.o.cell 2;obtain⟨U,y3⟩:=j.o.cell 3;obtain⟨z4,y4⟩:=j.o.cell 4;obtain⟨z5,y5⟩:=j.o.cell 5;clear T y an;go_wp2;refine bodyPost_ret (v:=.tuple #[.agg #[.int .i64 0,.int .i64 0,.slice none 0 0,.bool false,.int .i64 0,.slice none 0 0],.int .i64 15]) (by simp[results,Tryz.results15,go_sem,z0,z1,R,U,z4,z5]) rfl ?_
    rw[H.o];exact Zih.zero _ _ _ _ (Zbf aq.o _ (by omega) _ _ _ _ _ _)
   have bA:(r.idx != S.idx)=false:=by rw[bne_eq_false_iff_eq];exact T
   have aw:=ZZ T;have ai:=ZZ an;clear T an
   go_wp2_with fail
   refine(aj.o _).mono ?_;rintro x W1 ⟨rfl,g⟩;have K:=ZZ (p.o.trans (g.mono p.o.size));have au:=ZZ (aq.o.trans (g.mono aq.o.size));have ah:=ZZ (aa.o.below g zL);have u:=ZZ (j.o.below g zL);have af:=ZZ (k.o.below g zL);clear g p aq aa j k aj p0 g0 k0 k1 k2 k3 k4 k5 k6
   cases bf with
   | false=>
    have H:Hid (E=(Yb,1)):=ZZ (by rw[y.o,if_neg (by rw[aw.o];simp),if_pos (of_decide_eq_false aA.o.symm)])
    obtain⟨z0,y0⟩:=u.o.cell 0;obtain⟨z1,y1⟩:=u.o.cell 1;obtain⟨R,y2⟩:=u.o.cell 2;obtain⟨U,y3⟩:=u.o.cell 3;obtain⟨z4,y4⟩:=u.o.cell 4;obtain⟨z5,y5⟩:=u.o.cell 5;clear y;go_wp2;refine bodyPost_ret (v:=.tuple #[.agg #[.int .i64 0,.int .i64 0,.slice none 0 0,.bool false,.int .i64 0,.slice none 0 0],.int .i64 1]) (by simp[results,Tryz.results15,go_sem,z0,z1,R,U,z4,z5]) rfl ?_
    rw[H.o];exact Zih.zero _ _ _ _ (Zbf au.o _ (by omega) _ _ _ _ _ _)
   | true=>
    have aF:Hid (Qz r):=ZZ (of_decide_eq_true aA.o.symm);have H:Hid (E=Q3 (ZhH S r) (l.drop (q+1))):=ZZ (by rw[y.o,if_neg (by rw[aw.o];simp),if_neg (fun h=>h aF.o)])
    have D:=ZZ (Zxj (.agg #[.int .i64 S.st.kind,.slice sa S.st.L.length sc,.bool S.st.shut,.int .i64 S.st.eng]) S.st r.op W1 ⟨_,rfl,HL.o.below K.o zL,ag.o.2.1,ag.o.2.2⟩ (by have:=aT.out;omega))
    rw[ZqB] at D;have ay:=ZZ (ZuW r.op aT.out);have ao:=ZZ (Zsu S.st r.op);have am:Hid (ZhH S r=⟨S.idx+1,(Zz S.st r.op).1,ZcF S.tab ⟨r.proc,r.seq,(Zz S.st r.op).2⟩⟩):=ZZ rfl;have aR:=ZZ (Zul S.tab ⟨r.proc,r.seq,(Zz S.st r.op).2⟩);obtain⟨so,aS⟩:∃ so,so=Zz S.st r.op:=⟨_,rfl⟩;rw[<-aS] at D ay ao am aR;clear aS y aA;obtain⟨⟨k',L',sh',g'⟩,n'⟩:=so
    dsimp only at D ay ao am aR
    unfold opV at D;unfold Zfs at D
    dsimp only at D
    obtain⟨p1,g1⟩:=ah.o.cell 1;obtain⟨p2,g2⟩:=ah.o.cell 2;obtain⟨p3,g3⟩:=ah.o.cell 3;obtain⟨p4,g4⟩:=ah.o.cell 4;obtain⟨k3,-⟩:=af.o.cell 3;obtain⟨k4,-⟩:=af.o.cell 4;obtain⟨k5,-⟩:=af.o.cell 5
    go_wp2_with fail
    refine D.o.mono ?_;rintro x W2 ⟨v2,rfl,aB,bd,bg,av,m⟩;clear D p1 g1 p2 g2 p3 g3 p4 g4 k3 k4 k5;have ab:=ZZ (ah.o.below m zL);have bP:=ZZ (u.o.below m zL);have z:=ZZ (af.o.below m zL);have a4:=ZZ (au.o.trans (m.mono au.o.size));have bB:=ZZ ((HE.o.below K.o zL).below m zL);obtain⟨a2,n2,aJ⟩:∃ a c,v2=.slice a L'.length c:=by obtain⟨a,c,h,-⟩:=aB;exact⟨a,c,h⟩
    subst aJ;have b0:i<W1.heap.size:=af.o.lt
    have bG:Hid (L'=[]∨∀ b,(Value.slice a2 L'.length n2).ownBlock=some b->b≠w.heap.size∧b≠i):=ZZ (by
     rcases av with ⟨F,h2⟩ | h
     ·rw[F,h2]
      rcases HL.o.old with h3 | h3
      ·exact .inl h3
      ·exact .inr fun b n=>by
        have h4:=h3 b n;have h5:=ak.o b n;have h6:=ai.o;omega
     ·exact .inr fun b n=>by
       have h4:=h b n;have h5:=u.o.lt
       omega)
    have bE:Hid (∀ b,(Value.slice a2 L'.length n2).ownBlock=some b->w.heap.size+2<=b):=ZZ (fun b n=>by
     rcases av with ⟨F,h2⟩ | h
     ·rw[F] at n
      exact ak.o b n
     ·have h4:=h b n
      have h5:=u.o.lt
      omega)
    have bR:Hid (∀ b,(Value.slice ea S.tab.length ec).ownBlock=some b->b≠w.heap.size∧b≠i):=ZZ (fun b n=>by
     have F:=World.ownsRow.lt HE.o b n;have h2:=ai.o
     omega)
    have bj:w.heap.size≠i:=by have:=ai.o;omega
    have bu:i≠w.heap.size:=fun h=>bj h.symm
    have bL:w.heap.size+1≠i:=by have:=ai.o;omega
    have bw:=ZZ aB;have a0:=ZZ (And.intro bd bg);clear aB bd bg av m;obtain⟨O,ac⟩:∃ O,O=ZfO W2 w.heap.size i k' (.slice a2 L'.length n2) sh' g' n':=⟨_,rfl⟩;have bn:Hid (Bn O w.heap.size #[.int .i64 S.idx,.int .i64 k',.slice a2 L'.length n2,.bool sh',.int .i64 g',.slice ea S.tab.length ec]):=ZZ (by rw[ac];exact Zsw bj ab.o _ _ _ _ _)
    have bW:Hid (Br O i #[.int .i64 r.idx,.int .i64 r.proc,.int .i64 r.seq,.int .i64 r.op.code,.int .i64 r.op.a,.int .i64 r.op.b,.int .i64 n']):=ZZ (by rw[ac];exact Zsx bu z.o _ _ _ _ _)
    have bm:Hid (Bn O (w.heap.size+1) #[.int .i64 0,.int .i64 0,.slice none 0 0,.bool false,.int .i64 0,.slice none 0 0]):=ZZ (by rw[ac];exact Zpz (by omega) bL bP.o _ _ _ _ _)
    have aG:Hid (But w.heap.size i W2 O):=ZZ (by rw[ac];exact Zpy _ _ _ _ _ _ _ _)
    have bQ:=ZZ (bw.o.but aG.o bG.o);have bz:=ZZ (bB.o.butN aG.o bR.o);have bk:=ZZ (Zaf a4.o aG.o a4.o.size zL (by have:=ai.o;omega))
    have ap:=ZZ (ZuP (.slice ea S.tab.length ec) S.tab ⟨r.idx,r.proc,r.seq,r.op,n'⟩ O (bz.o.rd aH.o) ⟨J.o.1,J.o.2.1,J.o.2.2.1,J.o.2.2.2.1,ao.o⟩ (by have:=br.o _ aY.out;omega))
    unfold Zso at ap
    dsimp only at ap
    have aE:=ac;unfold ZfO at aE;have s1:=(ab.o.cell 1);have s2:=(ab.o.cell 2);have s3:=(ab.o.cell 3);have s4:=(ab.o.cell 4);have s5:=(ab.o.cell 5);obtain⟨s1,u1⟩:=s1;obtain⟨s2,u2⟩:=s2;obtain⟨s3,u3⟩:=s3;obtain⟨s4,u4⟩:=s4;obtain⟨s5,u5⟩:=s5;obtain⟨t0,m0⟩:=z.o.cell 0;obtain⟨t1,m1⟩:=z.o.cell 1;obtain⟨t2,m2⟩:=z.o.cell 2;obtain⟨t3,m3⟩:=z.o.cell 3;obtain⟨t4,m4⟩:=z.o.cell 4;obtain⟨t5,m5⟩:=z.o.cell 5;obtain⟨t6,m6⟩:=z.o.cell 6;clear ac
    go_wp2_with fail
    rw[<-aE];refine ap.o.mono ?_;rintro x W5 ⟨v5,rfl,az,ad⟩;clear aE s1 s2 s3 s4 s5 u1 u2 u3 u4 u5 t0 t1 t2 t3 t4 t5 t6 m0 m1 m2 m3 m4 m5 m6 ap;have aD:=ZZ (bn.o.below ad zL);have bC:=ZZ (bm.o.below ad zL);have bo:=ZZ (bQ.o.below ad zL);have bq:=ZZ (bk.o.trans (ad.mono bk.o.size));have bp:=ZZ (az.mono (B':=w.heap.size+2) (by have:=bm.o.lt;omega))
    obtain⟨a5,c5,bM⟩:=az.shape;subst bM
    have bS:Hid (∀ e ∈ ZcF S.tab ⟨r.proc,r.seq,n'⟩,Zlx e):=ZZ (fun e A=>by
     unfold ZcF at A;rcases(ZhA _ _ _ _).1 A with ⟨-,h⟩ | ⟨h,-⟩
     ·rw[h]
      exact⟨J.o.2.1,J.o.2.2.1,ao.o⟩
     ·exact aH.o e h)
    have aL:Hid (I64 (S.idx+1)):=ZZ (by
     have F:=aF.o;unfold Qz at F;have h2:=aw.o
     exact⟨by omega,by omega⟩)
    have bV:IntKind.i64.wrap (S.idx+1)=S.idx+1:=by
     have:=aL.o;rw[IntKind.wrap_i64];obtain⟨F,h2⟩:=this;omega
    obtain⟨p0,g0⟩:=aD.o.cell 0;obtain⟨p5,g5⟩:=aD.o.cell 5;clear az ad;have bc:-9223372036854775808<=S.idx+1∧S.idx+1<=9223372036854775807:=aL.o;obtain⟨bc,g⟩:=bc;go_wp2;go_roundw
    case rel=>
     exact⟨q+1,ZhH S r,by go_num,by omega,ZZ (by rw[am.o];exact ZpA aD.o bC.o bo.o bE.o bp.o bS.o aL.o a0.o.1 a0.o.2 bq.o),H,ZZ (by rw[am.o];exact ay.o),ZZ (bN.o _ _ aY.out aF.o)⟩
    case measure=>simp[intOf];omega
def RdL (w:World) (v:Value) (L:List (List UInt8)):Prop:=
 ∃ ao cap,v=.slice ao L.length cap∧L.length<=cap∧cap<=maxLen∧(ao=none->cap=0)∧
  (L=[]∨∃ b off,ao=some ⟨b,off,none⟩∧∀ j,j<L.length->∃ x,w.cell? ⟨b,off+j,none⟩=some x∧Rd w x (L.getD j []))
def Zik (w:World) (B:Nat) (v:Value) (L:List (List UInt8)):Prop:=
 ∃ xs:List Value,w.ownsRow B 53 1 v L.length xs∧∀ j,j<L.length->∃ x,xs[j]?=some x∧Own w B x (L.getD j [])
theorem RdL.nil (w:World):RdL w (.slice none 0 0) []:=⟨none,0,rfl,Nat.le_refl _,Nat.zero_le _,fun _=>rfl,.inl rfl⟩
theorem Zik.nil (w:World) (B:Nat):Zik w B (.slice none 0 0) []:=⟨[],World.ownsRow_nil w B 53 1,fun j a=>by simp at a⟩
theorem RdL.below (h:RdL w v L) {B:Nat} (e:Below B w w') (d:w.heap.size<=B):RdL w' v L:=by
 obtain⟨ao,cap,u,k,l,q,a⟩:=h;refine⟨ao,cap,u,k,l,q,?_⟩;rcases a with a | ⟨b,c,g,m⟩
 ·exact .inl a
 ·refine .inr ⟨b,c,g,fun j t=>?_⟩
  obtain⟨x,f,i⟩:=m j t;have n:b<w.heap.size:=World.block_lt_of_cell? w ⟨b,c+j,none⟩ f;refine⟨x,?_,i.below e d⟩;rw[e.cell (p:=⟨b,c+j,none⟩) (by exact Nat.lt_of_lt_of_le n d)]
  exact f
theorem RdL.front (h:RdL w (.slice ao n cap) L) (k:Nat) (u:k<=L.length):RdL w (.slice ao k cap) (L.take k):=by
 obtain⟨y,v,c,A,i,l,a⟩:=h;simp only [Value.slice.injEq] at c;obtain⟨rfl,_,rfl⟩:=c;have p:(L.take k).length=k:=by simp;omega
 refine⟨ao,cap,by rw[p],by omega,i,l,?_⟩
 rcases a with a | ⟨b,q,d,m⟩
 ·exact .inl (by rw[a];simp)
 ·refine .inr ⟨b,q,d,fun j z=>?_⟩
  have f:j<k:=by omega
  obtain⟨x,t,g⟩:=m j (by omega)
  refine⟨x,t,?_⟩;have e:(L.take k).getD j []=L.getD j []:=by simp[List.getD,f]
  rw[e];exact g
theorem Zik.rd (h:Zik w B v L):RdL w v L:=by
 obtain⟨xs,c,k⟩:=h;rcases c.2 with ⟨a,b⟩ | ⟨g,cap,cur,a,p,n,i,f,q,t⟩
 ·exact⟨none,0,by rw[a,b],by omega,Nat.zero_le _,fun _=>rfl,.inl (List.eq_nil_of_length_eq_zero b)⟩
 ·refine⟨some ⟨g,0,none⟩,cap,a,i,f,(fun e=>by cases e),.inr ⟨g,0,rfl,fun j l=>?_⟩⟩
  obtain⟨x,d,m⟩:=k j l;have:=World.ownsRow.cells c (g:=g) (by rw[a];rfl) j _ d
  rw[Addr.add_lit] at this;exact⟨x,this,m.rd⟩
theorem Zik.mono (h:Zik w B v L) (d:B'<=B):Zik w B' v L:=by
 obtain⟨xs,⟨i,a⟩,c⟩:=h;refine⟨xs,⟨i,?_⟩,fun j f=>?_⟩
 ·rcases a with a | ⟨g,cap,cur,e,l,r⟩
  ·exact .inl a
  ·exact .inr ⟨g,cap,cur,e,by omega,r⟩
 ·obtain⟨x,b,k⟩:=c j f
  exact⟨x,b,k.mono d⟩
theorem Zik.below (h:Zik w B v L) (c:Below B' w w') (i:w.heap.size<=B'):Zik w' B v L:=by
 obtain⟨xs,⟨m,a⟩,e⟩:=h;refine⟨xs,⟨m,?_⟩,fun j l=>?_⟩
 ·rcases a with a | ⟨g,cap,cur,k,f,b,r⟩
  ·exact .inl a
  ·have p:g<w.heap.size:=(Array.getElem?_eq_some_iff.1 b).1
   exact .inr ⟨g,cap,cur,k,f,by rw[c.block g (by omega)];exact b,r⟩
 ·obtain⟨x,d,n⟩:=e j l
  exact⟨x,d,n.below c i⟩
theorem Zku:(prog.info? 53).map (fun i=>(i.zero,i.size,i.bytes))=some (some (.slice none 0 0),1,24):=by kernel_rfl
theorem Znu {x:Value} {xs:List Value} (j:w.ownsRow B 53 1 v n xs) (i:Own w B' x l):x.ownBlock=none∨x.ownBlock≠v.ownBlock:=by
 rcases i.2 with ⟨a,_⟩ | ⟨g,cap,cur,a,_,b,_⟩
 ·exact .inl (by rw[a];rfl)
 ·right
  rcases j.2 with ⟨c,_⟩ | ⟨g',k,m,c,_,f,_⟩
  ·rw[a,c]
   exact fun e=>by cases e
  ·rw[a,c]
   intro e;have d:g=g':=by simpa[Value.ownBlock] using e
   rw[d,f] at b
   have h:(53:Nat)=5:=by
    injection b with b
    injection b
   exact absurd h (by decide)
theorem Zil (w:World) (ty:TypeId) (B:Nat) (v:Value) (L:List (List UInt8)) (h:Zik w B v L) (x:Value) (d:List UInt8) (c:Own w B x d) (M:L.length<=1000000) (H:B<=w.heap.size):
 ∃ v' w',(Builtin.append_ #[144,144] ty #[v,.slice (some ⟨w.heap.size,0,none⟩) 1 1]).run prog (w.alloc (.cells #[x] 53))=.ok v' w'∧Zik w' B v' (L++[d])∧Below B w w':=by
 obtain⟨t,C,J,F,D⟩:=info_parts Zku;obtain⟨xs,b,E⟩:=h
 have I:x.oneCell'=true:=by
  rcases c.2 with ⟨m,_⟩ | ⟨g,cap,cur,m,_⟩ <;> rw[m] <;> rfl
 obtain⟨v',w',G,K,f,_⟩:=run_append_own (P:=prog) (w.alloc (.cells #[x] 53)) B 144 ty 53 t (.slice none 0 0) 1 24 underlying144 C J F D rfl (by decide) v L.length xs (b.alloc _)
  ⟨w.heap.size,0,none⟩ 1 1 [x] rfl (fun j u a=>by
   match j,a with
   | 0,a=>simp at a;subst a;simp[Addr.add]) (fun u l=>by simp at l;subst l;exact I) (by unfold maxLen;omega) (by omega) (by simp;omega)
 have A:xs.length=L.length:=by rw[b.1,Nat.mul_one]
 refine⟨v',w',G,⟨xs++[x],by rw[List.length_append];exact K,fun j a=>?_⟩,?_⟩
 ·by_cases i:j<L.length
  ·obtain⟨y,z,n⟩:=E j i
   refine⟨y,by rw[List.getElem?_append_left (by omega)];exact z,?_⟩
   have e:(L++[d]).getD j []=L.getD j []:=by simp[List.getD,List.getElem?_append_left i]
   rw[e];exact World.ownsRow.kept (World.ownsRow.alloc n _) f (Znu b n)
  ·have q:j=L.length:=by simp at a;omega
   subst q;refine⟨x,by rw[List.getElem?_append_right (by omega),A];simp,?_⟩
   have e:(L++[d]).getD L.length []=d:=by simp[List.getD]
   rw[e];exact World.ownsRow.kept (World.ownsRow.alloc c _) f (Znu b c)
 ·exact((Below.refl _ _).alloc H _).grown f (by simp;omega) (fun k p=>(World.ownsRow.lt b k p).1)
theorem ZeJ (w:World) {b:Array Oper} {rest:List Oper} {o:Oper} {a:Act} {Q:Exit->Act->World->Prop} (m:o.guard=none) (s x:Operand)
 (q:o.op=.call { callee:=.builtin .append,args:=#[s,x],argTypes:=#[144,144] })
 (B:Nat) (v:Value) (L:List (List UInt8)) (g:a.eval s=v) (i:Zik w B v L) (y:Value) (d:List UInt8) (c:a.eval x=.slice (some ⟨w.heap.size,0,none⟩) 1 1) (e:Own w B y d)
 (j:L.length<=1000000) (p:B<=w.heap.size)
 (h:∀ v' w',Zik w' B v' (L++[d])->Below B w w'->wpList prog b Q rest (a.put o.dst v') w'):wpList prog b Q (o::rest) a (w.alloc (.cells #[y] 53)):=
 wpList_plain m fun _ f=>by
  obtain⟨v',w',n,k,l⟩:=Zil w o.type B v L i y d e j p;unfold Oper.wp execOp;simp only [q,resolve,invoke,builtin,Sem.run_bind,Sem.run_pure,Result.andThen_ok,List.map_toArray,map_cons,map_nil,g,c,n];exact f _ _ (h v' w' k l)
theorem ZpB (a b:Nat) (g:a<4294967296) (f:b<4294967296):bits .xor .u32 (a:Int) (b:Int)=((a ^^^ b:Nat):Int):=by
 have e:a ^^^ b<2 ^ 32:=Nat.xor_lt_two_pow (by omega) (by omega)
 have d:(BitVec.ofInt 32 (a:Int)).toNat=a:=by
  rw[BitVec.ofInt_natCast,BitVec.toNat_ofNat];exact Nat.mod_eq_of_lt (by omega)
 have c:(BitVec.ofInt 32 (b:Int)).toNat=b:=by
  rw[BitVec.ofInt_natCast,BitVec.toNat_ofNat];exact Nat.mod_eq_of_lt (by omega)
 show IntKind.u32.wrap ((BitVec.ofInt 32 (a:Int) ^^^ BitVec.ofInt 32 (b:Int)).toNat:Int)=_;rw[BitVec.toNat_xor,d,c,IntKind.wrap_u32];omega
theorem ZzF (a b:Nat) (g:a<256) (f:b<256):bits .xor .u8 (a:Int) (b:Int)=((a ^^^ b:Nat):Int):=by
 have e:a ^^^ b<2 ^ 8:=Nat.xor_lt_two_pow (by omega) (by omega)
 have d:(BitVec.ofInt 8 (a:Int)).toNat=a:=by
  rw[BitVec.ofInt_natCast,BitVec.toNat_ofNat];exact Nat.mod_eq_of_lt (by omega)
 have c:(BitVec.ofInt 8 (b:Int)).toNat=b:=by
  rw[BitVec.ofInt_natCast,BitVec.toNat_ofNat];exact Nat.mod_eq_of_lt (by omega)
 show IntKind.u8.wrap ((BitVec.ofInt 8 (a:Int) ^^^ BitVec.ofInt 8 (b:Int)).toNat:Int)=_;rw[BitVec.toNat_xor,d,c,IntKind.wrap_u8];omega
theorem Zsy (k x:Nat):Gu (k+1) x=ZrD (Gu k x):=by
 rw[ZmA k 1];rfl
theorem ZuX (k:Nat) {x:Nat} (h:x<4294967296):Gu k x<4294967296:=by
 have:=Zlk k (Nat.le_refl 32) (by omega:x<2 ^ 32)
 omega
theorem ZpC (l:List UInt8) (x k:Nat) (h:k<l.length):Zbr x (l.take (k+1))=ZdH (Zbr x (l.take k)) (l.getD k 0).toNat:=by
 rw[Zhk l k h,Zes];rfl
theorem Zxk (x c:Nat) (a:c<256):(x ^^^ c) % 256=x % 256 ^^^ c:=by
 have h:=@Nat.xor_mod_two_pow x c 8;have e:c % 2 ^ 8=c:=Nat.mod_eq_of_lt (by omega)
 rw[e] at h;exact h
theorem ZyO (x c:Nat) (a:c<256):x % 256 ^^^ c<256:=by
 have:x % 256 ^^^ c<2 ^ 8:=Nat.xor_lt_two_pow (by omega) (by omega)
 omega
theorem Zxl (c:Nat) (h:c<256):Zdo c<4294967296:=ZuX 8 (by omega)
theorem ZuY (s:Nat) (h:s<4294967296):bits .xor .u32 IntKind.u32.max (s:Int)=((s ^^^ 4294967295:Nat):Int):=by
 have e:IntKind.u32.max=((4294967295:Nat):Int):=by decide
 rw[e,ZpB _ _ (by decide) h,Nat.xor_comm]
def Zyk (l:List UInt8):List UInt8 × Nat:=if l.length<=1048576 then(Qd l,0) else([],5)
theorem Zxm {k e:IntKind} {a b c d:Int} (h:a=b) (f:c=d):Ending.returned (.tuple #[v,.int k a,.int e c])=.returned (.tuple #[v,.int k b,.int e d]):=by rw[h,f]
theorem ZzG (h:Gn l):X8 l=([],0,2):=by unfold X8;rw[if_pos h]
theorem ZzH (h:¬ Gn l) (a:(Qb l).2=0):X8 l=([],0,3):=by unfold X8;rw[if_neg h,if_pos a]
theorem ZzI (h:¬ Gn l) (a:(Qb l).2≠0) (b:1048576<(Qb l).1):X8 l=([],0,5):=by unfold X8;rw[if_neg h,if_neg a,if_pos b]
theorem ZzJ (h:¬ Gn l) (a:(Qb l).2≠0) (b:¬ 1048576<(Qb l).1) (c:l.length<(Qb l).2+4+(Qb l).1):X8 l=([],0,2):=by
 unfold X8;rw[if_neg h,if_neg a,if_neg b,if_pos c]
theorem ZzK (h:¬ Gn l) (a:(Qb l).2≠0) (b:¬ 1048576<(Qb l).1) (c:¬ l.length<(Qb l).2+4+(Qb l).1)
 (d:Lib.leNat ((l.drop ((Qb l).2+(Qb l).1)).take 4)≠Q2 0 (l.take ((Qb l).2+(Qb l).1))):X8 l=([],0,4):=by
 unfold X8;rw[if_neg h,if_neg a,if_neg b,if_neg c,if_pos d]
theorem ZzL (h:¬ Gn l) (a:(Qb l).2≠0) (b:¬ 1048576<(Qb l).1) (c:¬ l.length<(Qb l).2+4+(Qb l).1)
 (d:Lib.leNat ((l.drop ((Qb l).2+(Qb l).1)).take 4)=Q2 0 (l.take ((Qb l).2+(Qb l).1))):X8 l=((l.drop (Qb l).2).take (Qb l).1,(Qb l).2+4+(Qb l).1,0):=by
 unfold X8;rw[if_neg h,if_neg a,if_neg b,if_neg c,if_neg (by rw[d];simp)]
theorem Zsz (l:List UInt8):(Qb l).2<=9:=by
 rcases Xf l with h | ⟨b,d,e,a⟩
 ·rw[h];decide
 ·have c:(Lib.uvarint (Qb l).1).length<=9:=Lib.uvarint_length 8 _ (Nat.lt_of_lt_of_le b (by decide))
  rw[<-a,List.length_take] at c;omega
def ZdT (w:World) (l:List UInt8) (e:Ending) (w':World):Prop:=
 ∃ v',e=.returned (.tuple #[v',.int .i64 ((X8 l).2.1:Nat),.int .i64 ((X8 l).2.2:Nat)])∧Own w' w.heap.size v' (X8 l).1∧Below w.heap.size w w'
theorem ZdT.refused (h:X8 l=([],0,c)):ZdT w l (.returned (.tuple #[.slice none 0 0,.int .i64 0,.int .i64 (c:Int)])) w:=by
 refine⟨.slice none 0 0,?_,?_,Below.refl _ _⟩
 ·rw[h];rfl
 ·rw[h];exact Own.nil _ _
def ZuZ (l:List UInt8) (A:Nat) (L:List (List UInt8)):Prop:=
 Qp l=(L++(Qp (l.drop A)).1,A+(Qp (l.drop A)).2.1,(Qp (l.drop A)).2.2)∧5*L.length<=A∧A<=l.length
theorem ZuZ.start (l:List UInt8):ZuZ l 0 []:=⟨by simp,by simp,by omega⟩
theorem ZuZ.stop (h:ZuZ l A L) (c:A<l.length) (b:(X8 (l.drop A)).2.2≠0):Qp l=(L,A,(X8 (l.drop A)).2.2):=by
 have a:l.drop A≠[]:=fun e=>by
  have:=congrArg List.length e;rw[length_drop,List.length_nil] at this;omega
 rw[h.1,ZbZ a b];simp
theorem ZuZ.whole (h:ZuZ l A L) (a:¬ A<l.length):Qp l=(L,A,0):=by
 have e:l.drop A=[]:=List.drop_of_length_le (by omega)
 rw[h.1,e,ZbL];simp
theorem ZuZ.step (h:ZuZ l A L) (d:A<l.length) (a:(X8 (l.drop A)).2.2=0):ZuZ l (A+(X8 (l.drop A)).2.1) (L++[(X8 (l.drop A)).1]):=by
 have b:l.drop A≠[]:=fun e=>by
  have:=congrArg List.length e;rw[length_drop,List.length_nil] at this;omega
 have f:=ZbK a;have c:=Zuk (l.drop A);rw[length_drop] at c;refine⟨?_,?_,by omega⟩
 ·rw[h.1,Zca b a,List.drop_drop]
  simp[Nat.add_assoc]
 ·have:=h.2.1
  simp;omega
def Zyl (l:List UInt8):List (List UInt8) × Nat:=if(Qp l).2.2=0 then((Qp l).1,0) else([],(Qp l).2.2)
theorem ZjL (w:World) (ty:TypeId) (B:Nat) (v:Value) (b:List UInt8) (c:Own w B v b) (g:Value) (l:List UInt8) (i:Rd w g l)
 (z:b.length+l.length<=70368744177664) (q:B<=w.heap.size):
 ∃ v' w',(Builtin.append_ #[53,53] ty #[v,g]).run prog w=.ok v' w'∧Own w' B v' (b++l)∧w.grownBy w' v.ownBlock:=by
 obtain⟨e,f,t,n,j⟩:=info_parts Zlf;obtain⟨ao,cap,rfl,y,A,k,m⟩:=i
 cases ao with
 | none=>
  have x:=k rfl;subst x;have h:l=[]:=List.eq_nil_of_length_eq_zero (by omega)
  subst h;have d:=run_append_owned_none (P:=prog) w B 53 ty 5 e 1 underlying53 f v b.length (Lib.byteCells b) c;exact⟨v,w,d,by rw[List.append_nil];exact c,⟨rfl,rfl,rfl,Nat.le_refl _,fun _ _ _=>rfl⟩⟩
 | some a=>
  obtain⟨v',w',d,u,p,_⟩:=run_append_own (P:=prog) w B 53 ty 5 e (.int .u8 0) 1 1 underlying53 f t n j rfl (by decide) v b.length (Lib.byteCells b) c a l.length cap (Lib.byteCells l)
   (by rw[Y0,Nat.mul_one]) (Rd.cells m a rfl) (ZaJ l) (by unfold maxLen;omega) (by omega) q
  exact⟨v',w',d,Own.mk' u (by simp) (by simp[Lib.byteCells]),p⟩
theorem ZfP (w:World) {d:Array Oper} {rest:List Oper} {o:Oper} {a:Act} {Q:Exit->Act->World->Prop} (p:o.guard=none) (s x:Operand)
 (u:o.op=.call { callee:=.builtin .append,args:=#[s,x],argTypes:=#[53,53] })
 (B:Nat) (v:Value) (b:List UInt8) (i:a.eval s=v) (j:Own w B v b) (c:Value) (l:List UInt8) (e:a.eval x=c) (g:Rd w c l)
 (k:b.length+l.length<=70368744177664) (t:B<=w.heap.size)
 (h:∀ v' w',Own w' B v' (b++l)->w.grownBy w' v.ownBlock->wpList prog d Q rest (a.put o.dst v') w'):wpList prog d Q (o::rest) a w:=
 wpList_plain p fun _ f=>by
  obtain⟨v',w',q,m,n⟩:=ZjL w o.type B v b j c l g k t;unfold Oper.wp execOp;simp only [u,resolve,invoke,builtin,Sem.run_bind,Sem.run_pure,Result.andThen_ok,List.map_toArray,map_cons,map_nil,i,e,q];exact f _ _ (h v' w' m n)
open Go.RowKit Go.ChangeShapes
theorem Zim:prog.elem 144=53:=by kernel_rfl
theorem Zkv (w:World):(sizeOf 53).run prog w=.ok 1 w:=by
 obtain⟨c,a,_,b,_⟩:=info_parts Zku;simp[sizeOf,typeInfo,a,b]
theorem Zdh:prog.underlying 144=some (.slice (prog.elem 144)):=by rw[Zim];exact underlying144
end Go.Proofs.YtnahjngbneicaaaGreatDoor
