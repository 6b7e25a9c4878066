import Derived.Test.YtnahjngbneicaaaGreatDoorPack6
namespace Go.Proofs.YtnahjngbneicaaaGreatDoor
set_option linter.unusedSimpArgs false
open _root_.Go.Proofs.Tryz
open List (length_drop map_cons map_nil)
set_option maxHeartbeats 4000000
set_option maxRecDepth 100000
open Go.RowKit
variable {W w w':World} {a:List Ent} {s:St} {v v' x:Value} {ao f:Option Addr} {A B B' Q R T c cap d n:Nat} {l:List UInt8} {L':List Int} {g i idx kind:Int} {m:Bool} {L:List (List UInt8)}
abbrev zdo:=@Go.DataW.trod_int
abbrev zdz:=@List.drop_drop
abbrev ze0:=@List.cons.injEq
abbrev zgq:=@Go.DataW.trod_struct
theorem Df.mv {a:World} {N:Nat} {s o r:Array Value} (h:Df W N s o r) (g:∀ b,v.ownBlock=some b->b<N) (i:Mv W a v v'):Df a N s o r:=by
 obtain⟨d,j,f⟩:=h
 have lt:∀ k x,W.heap[k]?=some x->N<=k->a.heap[k]?=some x:=fun k x c l=>by
  rw[i.grown.block k (zar.1 c).1 (fun e=>by have:=g k e.symm;omega)]
  exact c
 exact⟨lt _ _ d (by omega),lt _ _ j (by omega),lt _ _ f (by omega)⟩
theorem ZlU {e f F:World} {l:List Int} (p:Qt w B v l) (d:Below w.heap.size w e) (q:e.heap.size=w.heap.size+3) (a:Mv e f v v') (m:Qt f B v' L') (c:But w.heap.size (w.heap.size+1+1) f F):Qt F B v' L'∧Mv w F v v':=by
 have n:∀ b,v.ownBlock=some b->b<w.heap.size:=fun b h=>(zaz p b h).2
 have g:∀ b,v'.ownBlock=some b->v.ownBlock=some b∨w.heap.size+3<=b:=fun b h=>by
  rcases a.lies b h with h' | h'
  ·exact .inl h'
  ·exact .inr (by omega)
 have t:=a.size;refine⟨m.but c (fun b h=>?_),⟨⟨c.os.trans (a.grown.os.trans d.os),c.tape.trans (a.grown.tape.trans d.tape),c.output.trans (a.grown.output.trans d.output),by have:=c.size;omega,fun k j i=>?_⟩,fun b h=>?_⟩⟩
 ·rcases g b h with h' | h'
  ·have:=n b h'
   omega
  ·omega
 ·rw[c.block k (by omega) (by omega) (by omega),a.grown.block k (by omega) i]
  exact d.block k j
 ·rcases g b h with h' | h'
  ·exact .inl h'
  ·exact .inr (by omega)
theorem Z6 (w:World) (x y z:Obj):Below w.heap.size w (((w.alloc x).alloc y).alloc z)∧(((w.alloc x).alloc y).alloc z).heap.size=w.heap.size+3:=
 ⟨(((zac _ _).alloc zL x).alloc (by simp) y).alloc (by simp;omega) z,by simp⟩
theorem Qt.alloc3 {l:List Int} (h:Qt w B v l) (x y z:Obj):Qt (((w.alloc x).alloc y).alloc z) B v l:=((h.alloc x).alloc y).alloc z
def Did (B:Nat) (w:World) (v:Value) (r:St × Int) (e:Ending) (w':World):Prop:=
 ∃ v',e=.returned (.tuple #[.agg #[.int .i64 r.1.kind,v',.bool r.1.shut,.int .i64 r.1.eng],.int .i64 r.2])∧Qt w' B v' r.1.L∧Mv w w' v v'
theorem ZpH (kind g:Int) (l:List Int) (v:Value) (o:Opn) (B:Nat) (w:World) (c:Qt w B v l):
 Calls prog 83 #[.agg #[.int .i64 kind,v,.bool true,.int .i64 g],opV o] w fun e w'=>Did B w v (⟨kind,l,true,g⟩,-1125899906842624) e w':=by
 obtain⟨d,a,b⟩:=o;have f:=Qc c;obtain⟨ao,cap,rfl⟩:=c.shape;have i:Hid (∀ x y z,Mv w (((w.alloc x).alloc y).alloc z) (.slice ao l.length cap) (.slice ao l.length cap)):=fun x y z=>Mv.ofBelow (Z6 w x y z).1 _
 clear c;show Calls prog _ #[_,.agg #[.int .i64 d,.int .i64 a,.int .i64 b]] w _
 go_enter func83,ntmps83
 go_wp2;refine zax (v:=.tuple #[.agg #[.int .i64 kind,.slice ao l.length cap,.bool true,.int .i64 g],.int .i64 (-1125899906842624)]) (by simp[results,Tryz.results83,go_sem]) rfl ?_
 exact⟨_,rfl,f.o.alloc3 _ _ _,i.o _ _ _⟩
theorem ZpI (kind g a b:Int) (l:List Int) (v:Value) (B:Nat) (w:World) (f:Qt w B v l):
 Calls prog 83 #[.agg #[.int .i64 kind,v,.bool false,.int .i64 g],.agg #[.int .i64 10,.int .i64 a,.int .i64 b]] w fun e w'=>Did B w v (⟨kind,l,true,if 0<=a∧a<=2 then a else g⟩,0) e w':=by
 have i:=Qc f;obtain⟨ao,cap,rfl⟩:=f.shape;have u:=Qc (fun W=>ZxC kind ao l.length cap false g a W)
 generalize (if 0<=a∧a<=2 then a else g)=t at *
 clear f
 go_enter func83,ntmps83
 go_wp2_with fail
 refine(u.o _).mono ?_;rintro e C ⟨rfl,d⟩;have c:=(Df.made w _ _ _).below d (by simp)
 obtain⟨m,z⟩:=c.r 0;obtain⟨n,A⟩:=c.r 1;obtain⟨p,x⟩:=c.r 2;obtain⟨j,y⟩:=c.r 3;have k:=Qc (fun F q=>ZlU (F:=F) i.o (Z6 w _ _ _).1 (Z6 w _ _ _).2 (Mv.ofBelow d _) ((i.o.alloc3 _ _ _).below d zL) q)
 clear d c;go_wp2;refine zax (v:=.tuple #[.agg #[.int .i64 kind,.slice ao l.length cap,.bool true,.int .i64 t],.int .i64 0]) (by simp[results,Tryz.results83,go_sem,m,n,p,j]) rfl ?_
 exact⟨_,rfl,k.o _ ((But.refl _ _ _).four _ (.inr rfl) _ _ _ _)⟩
theorem ZsL (kind g:Int) (J:kind=0∨kind=1) (l:List Int) (v:Value) (o:Opn) (D:o.code≠10) (B:Nat) (w:World) (k:Qt w B v l) (A:l.length=1) (G:-1099511627776<=l.getD 0 0) (M:l.getD 0 0<=1099511627776):
 Calls prog 83 #[.agg #[.int .i64 kind,v,.bool false,.int .i64 g],opV o] w fun e w'=>Did B w v (ZdN ⟨kind,l,false,g⟩ o) e w':=by
 have j:=Qc k;have K:=Zlz ⟨kind,l,false,g⟩ o
 obtain⟨L',n',i⟩:∃ L' n',ZdN ⟨kind,l,false,g⟩ o=(⟨kind,L',false,g⟩,n'):=by
  obtain⟨t,z,u⟩:=K;refine⟨(ZdN ⟨kind,l,false,g⟩ o).1.L,(ZdN ⟨kind,l,false,g⟩ o).2,?_⟩;rcases hr:ZdN ⟨kind,l,false,g⟩ o with ⟨⟨Y,X,H,Z⟩,n1⟩
  rw[hr] at t z u;simp only at t z u;rw[t,z,u]
 have m:Hid (∀ W,Qt W B v l->Calls prog (if kind=0 then 124 else 125) #[v,opV o] W fun e w'=>e=.returned (.int .i64 n')∧Qt w' B v L'∧Mv W w' v v):=fun W h=>by
  rcases J with rfl | rfl
  ·have:=ZpE v l o false g B W h A G M
   rw[i] at this;exact this
  ·have:=ZnH v l o false g B W h A
   rw[i] at this;exact this
 rw[i];obtain⟨I,a,b⟩:=o;have aa:(I == 10)=false:=zah.2 D;obtain⟨ao,cap,rfl⟩:=k.shape;have N:∀ b,(Value.slice ao l.length cap).ownBlock=some b->b<w.heap.size:=fun b h=>(zaz k b h).2
 have E:=Qc N;clear k i K D A G M N;show Calls prog _ #[_,.agg #[.int .i64 I,.int .i64 a,.int .i64 b]] w _;rcases J with rfl | rfl
 ·rw[zab rfl] at m
  go_enter func83,ntmps83
  go_wp2_with fail
  refine(m.o _ (j.o.alloc3 _ _ _)).mono ?_;rintro e U ⟨rfl,f,d⟩;have c:=(Df.made w _ _ _).mv E.o d;obtain⟨S,-⟩:=c.s 0;obtain⟨P,-⟩:=c.s 1;obtain⟨V,-⟩:=c.s 2;obtain⟨T,-⟩:=c.s 3;obtain⟨q,Q⟩:=c.r 0;obtain⟨x,H⟩:=c.r 1;obtain⟨y,O⟩:=c.r 2;obtain⟨n,R⟩:=c.r 3;have p:=Qc (fun F C=>ZlU (F:=F) j.o (Z6 w _ _ _).1 (Z6 w _ _ _).2 d f C)
  clear c f d;go_wp2;refine zax (v:=.tuple #[.agg #[.int .i64 0,.slice ao l.length cap,.bool false,.int .i64 g],.int .i64 n']) (by simp[results,Tryz.results83,go_sem,q,x,y,n]) rfl ?_
  exact⟨_,rfl,p.o _ ((But.refl _ _ _).four _ (.inr rfl) _ _ _ _)⟩
 ·rw[zaa (by decide)] at m
  go_enter func83,ntmps83
  go_wp2_with fail
  refine(m.o _ (j.o.alloc3 _ _ _)).mono ?_;rintro e U ⟨rfl,f,d⟩;have c:=(Df.made w _ _ _).mv E.o d;obtain⟨S,-⟩:=c.s 0;obtain⟨P,-⟩:=c.s 1;obtain⟨V,-⟩:=c.s 2;obtain⟨T,-⟩:=c.s 3;obtain⟨q,Q⟩:=c.r 0;obtain⟨x,H⟩:=c.r 1;obtain⟨y,O⟩:=c.r 2;obtain⟨n,R⟩:=c.r 3;have p:=Qc (fun F C=>ZlU (F:=F) j.o (Z6 w _ _ _).1 (Z6 w _ _ _).2 d f C)
  clear c f d;go_wp2;refine zax (v:=.tuple #[.agg #[.int .i64 1,.slice ao l.length cap,.bool false,.int .i64 g],.int .i64 n']) (by simp[results,Tryz.results83,go_sem,q,x,y,n]) rfl ?_
  exact⟨_,rfl,p.o _ ((But.refl _ _ _).four _ (.inr rfl) _ _ _ _)⟩
theorem Zrl {c:World} {l:List Int} {b:Option Addr} {a:Nat} {xs i e:Array Value} (j:Qt w B (.slice ao l.length cap) l) (d:Qt c B (.slice b L'.length a) L') (f:Mv (((w.alloc (.cells xs 38)).alloc (.cells i 52)).alloc (.cells e 38)) c (.slice ao l.length cap) (.slice b L'.length a)):
 Qt (ZqW c w.heap.size (w.heap.size+1+1) (.slice b L'.length a) (.int .i64 kind) (.slice b L'.length a) (.bool false) (.int .i64 g)) B (.slice b L'.length a) L'∧Mv w (ZqW c w.heap.size (w.heap.size+1+1) (.slice b L'.length a) (.int .i64 kind) (.slice b L'.length a) (.bool false) (.int .i64 g)) (.slice ao l.length cap) (.slice b L'.length a):=
 ZlU j (Z6 w _ _ _).1 (Z6 w _ _ _).2 f d (((But.refl _ _ _).set _ _ (.inl rfl) _).four _ (.inr rfl) _ _ _ _)
theorem ZpJ (kind g:Int) (L:kind=2∨kind=3) (l L':List Int) (n':Int) (v:Value) (i a b:Int) (y:i≠10) (B:Nat) (w:World) (k:Qt w B v l)
 (A:Hid (∀ W,Qt W B v l->B<=W.heap.size->Calls prog 126 #[.int .i64 kind,v,.agg #[.int .i64 i,.int .i64 a,.int .i64 b]] W fun e w'=>Zec B W v L' n' e w')) (P:B<=w.heap.size):
 Calls prog 83 #[.agg #[.int .i64 kind,v,.bool false,.int .i64 g],.agg #[.int .i64 i,.int .i64 a,.int .i64 b]] w fun e w'=>Did B w v (⟨kind,L',false,g⟩,n') e w':=by
 have j:=Qc k;have Q:(i == 10)=false:=zah.2 y;obtain⟨ao,cap,rfl⟩:=k.shape;have C:∀ b,(Value.slice ao l.length cap).ownBlock=some b->b<w.heap.size:=fun b h=>(zaz k b h).2
 have z:=Qc C;clear k y C;rcases L with rfl | rfl
 ·go_enter func83,ntmps83
  go_wp2_with fail
  refine(A.o _ (j.o.alloc3 _ _ _) (by simp;omega)).mono ?_
  rintro e M ⟨N,rfl,d,f⟩;obtain⟨p,q,rfl⟩:=d.shape;have c:=(Df.made w _ _ _).mv z.o f;obtain⟨J,-⟩:=c.s 0;obtain⟨F,D⟩:=c.s 1;obtain⟨O,-⟩:=c.s 2;obtain⟨K,-⟩:=c.s 3;obtain⟨t,H⟩:=c.r 0;obtain⟨u,I⟩:=c.r 1;obtain⟨x,E⟩:=c.r 2;obtain⟨m,G⟩:=c.r 3;have n:=Qc (fun kind=>Zrl (kind:=kind) (g:=g) j.o d f)
  clear c d f;go_wp2;refine zax (v:=.tuple #[.agg #[.int .i64 2,.slice p L'.length q,.bool false,.int .i64 g],.int .i64 n']) (by simp[results,Tryz.results83,go_sem,t,u,x,m]) rfl ?_
  exact⟨_,rfl,n.o _⟩
 ·go_enter func83,ntmps83
  go_wp2_with fail
  refine(A.o _ (j.o.alloc3 _ _ _) (by simp;omega)).mono ?_
  rintro e M ⟨N,rfl,d,f⟩;obtain⟨p,q,rfl⟩:=d.shape;have c:=(Df.made w _ _ _).mv z.o f;obtain⟨J,-⟩:=c.s 0;obtain⟨F,D⟩:=c.s 1;obtain⟨O,-⟩:=c.s 2;obtain⟨K,-⟩:=c.s 3;obtain⟨t,H⟩:=c.r 0;obtain⟨u,I⟩:=c.r 1;obtain⟨x,E⟩:=c.r 2;obtain⟨m,G⟩:=c.r 3;have n:=Qc (fun kind=>Zrl (kind:=kind) (g:=g) j.o d f)
  clear c d f;go_wp2;refine zax (v:=.tuple #[.agg #[.int .i64 3,.slice p L'.length q,.bool false,.int .i64 g],.int .i64 n']) (by simp[results,Tryz.results83,go_sem,t,u,x,m]) rfl ?_
  exact⟨_,rfl,n.o _⟩
theorem ZnI (kind g:Int) (z:kind=4) (l L':List Int) (n':Int) (v:Value) (d a b:Int) (k:d≠10) (B:Nat) (w:World) (f:Qt w B v l)
 (A:Hid (∀ W,Qt W B v l->B<=W.heap.size->Calls prog 127 #[v,.agg #[.int .i64 d,.int .i64 a,.int .i64 b]] W fun e w'=>Zec B W v L' n' e w')) (O:B<=w.heap.size):
 Calls prog 83 #[.agg #[.int .i64 kind,v,.bool false,.int .i64 g],.agg #[.int .i64 d,.int .i64 a,.int .i64 b]] w fun e w'=>Did B w v (⟨kind,L',false,g⟩,n') e w':=by
 have m:=Qc f;have Q:(d == 10)=false:=zah.2 k;obtain⟨ao,cap,rfl⟩:=f.shape;have n:∀ b,(Value.slice ao l.length cap).ownBlock=some b->b<w.heap.size:=fun b h=>(zaz f b h).2
 have t:=Qc n;clear f k n;subst z
 all_goals
  go_enter func83,ntmps83
  go_wp2_with fail
  refine(A.o _ (m.o.alloc3 _ _ _) (by simp;omega)).mono ?_
  rintro e M ⟨N,rfl,i,j⟩;obtain⟨u,x,rfl⟩:=i.shape;have c:=(Df.made w _ _ _).mv t.o j;obtain⟨K,-⟩:=c.s 0;obtain⟨G,E⟩:=c.s 1;obtain⟨P,-⟩:=c.s 2;obtain⟨L,-⟩:=c.s 3;obtain⟨y,I⟩:=c.r 0;obtain⟨C,J⟩:=c.r 1;obtain⟨D,F⟩:=c.r 2;obtain⟨p,H⟩:=c.r 3;have q:=Qc (fun kind=>Zrl (kind:=kind) (g:=g) m.o i j)
  clear c i j;go_wp2;refine zax (v:=.tuple #[.agg #[.int .i64 4,.slice u L'.length x,.bool false,.int .i64 g],.int .i64 n']) (by simp[results,Tryz.results83,go_sem,y,C,D,p]) rfl ?_
  exact⟨_,rfl,q.o _⟩
theorem ZlV (kind g:Int) (z:kind=5) (l L':List Int) (n':Int) (v:Value) (d a b:Int) (k:d≠10) (B:Nat) (w:World) (f:Qt w B v l)
 (A:Hid (∀ W,Qt W B v l->B<=W.heap.size->Calls prog 128 #[v,.agg #[.int .i64 d,.int .i64 a,.int .i64 b]] W fun e w'=>Zec B W v L' n' e w')) (O:B<=w.heap.size):
 Calls prog 83 #[.agg #[.int .i64 kind,v,.bool false,.int .i64 g],.agg #[.int .i64 d,.int .i64 a,.int .i64 b]] w fun e w'=>Did B w v (⟨kind,L',false,g⟩,n') e w':=by
 have m:=Qc f;have Q:(d == 10)=false:=zah.2 k;obtain⟨ao,cap,rfl⟩:=f.shape;have n:∀ b,(Value.slice ao l.length cap).ownBlock=some b->b<w.heap.size:=fun b h=>(zaz f b h).2
 have t:=Qc n;clear f k n;subst z
 all_goals
  go_enter func83,ntmps83
  go_wp2_with fail
  refine(A.o _ (m.o.alloc3 _ _ _) (by simp;omega)).mono ?_
  rintro e M ⟨N,rfl,i,j⟩;obtain⟨u,x,rfl⟩:=i.shape;have c:=(Df.made w _ _ _).mv t.o j;obtain⟨K,-⟩:=c.s 0;obtain⟨G,E⟩:=c.s 1;obtain⟨P,-⟩:=c.s 2;obtain⟨L,-⟩:=c.s 3;obtain⟨y,I⟩:=c.r 0;obtain⟨C,J⟩:=c.r 1;obtain⟨D,F⟩:=c.r 2;obtain⟨p,H⟩:=c.r 3;have q:=Qc (fun kind=>Zrl (kind:=kind) (g:=g) m.o i j)
  clear c i j;go_wp2;refine zax (v:=.tuple #[.agg #[.int .i64 5,.slice u L'.length x,.bool false,.int .i64 g],.int .i64 n']) (by simp[results,Tryz.results83,go_sem,y,C,D,p]) rfl ?_
  exact⟨_,rfl,q.o _⟩
theorem ZpK (v:Value) (l:List Int) (a b:Nat) (w:World) (J:RdI w v l) (D:w.cell? ⟨a,0,none⟩=some (.int .i64 (-1099511627776))) (E:w.cell? ⟨b,0,none⟩=some (.int .i64 1099511627776)):
 Calls prog 171 #[v,.func (.func 170) #[] #[.pointer (some ⟨a,0,none⟩),.pointer (some ⟨b,0,none⟩)]] w fun e w'=>e=.returned (.bool (decide (l.length<=64∧Gh l)))∧w'=w:=by
 have B:=Qc (fun n=>ZdB n _ _ a b w D E)
 obtain⟨ao,cap,rfl,-,-,-,-,z⟩:=J;have K:=Qc z;clear z D E;obtain⟨R,q⟩:=zg7 (decide (l.length<=64∧Gh l));rw[<-q];have t:=Qc q;clear q;by_cases F:l.length<=64
 ·have G:¬ (64<(l.length:Int)):=by omega
  go_enter func171,ntmps171
  go_wp2
  go_loop [12] (fun i=>∃ k:Nat,i=.int .i64 k∧k<=l.length∧Hid (∀ j,j<k->-1099511627776<=l.getD j 0∧l.getD j 0<=1099511627776)) (fun i=>l.length-(intOf i).toNat)
  case atStart=>exact⟨0,rfl,zap _,fun j x=>by omega⟩
  case round=>
   obtain⟨k,rfl,M,A⟩:=hrel;by_cases f:k<l.length
   ·rcases K.o with L | ⟨g,N,rfl,u⟩
    ·rw[L] at f;simp at f
    have H:=u k f;clear u;obtain⟨y,p⟩:=zg7 (l.getD k 0);rw[<-p] at H;have C:=Qc p;clear p;by_cases c:-1099511627776<=y∧y<=1099511627776
    ·have d:=Qc (zan c)
     have m:=Qc c;clear c
     go_wp2_with(first | (go_at_call 170;refine(B.o _).mono ?_;rintro e I ⟨rfl,rfl⟩;rw[d.o]))
     go_round
     case rel=>
      refine⟨k+1,by go_num,by omega,fun j x=>?_⟩
      by_cases e:j=k
      ·rw[e,<-C.o];exact m.o
      ·exact A.out j (by omega)
     case measure=>simp[intOf];omega
    ·have d:=Qc (zai c)
     have m:=Qc c;clear c
     go_wp2_with(first | (go_at_call 170;refine(B.o _).mono ?_;rintro e I ⟨rfl,rfl⟩;rw[d.o]))
     go_ret;refine⟨Y9 (t.o.trans (zai fun h=>m.o ?_)).symm,rfl⟩
     rw[C.o];exact h.2 k f
   ·go_wp2
    go_ret;exact⟨Y9 (t.o.trans (zan ⟨F,fun j x=>A.out j (by omega)⟩)).symm,rfl⟩
 ·have G:64<(l.length:Int):=by omega
  have d:Hid (decide (l.length<=64∧Gh l)=false):=zai (fun h=>F h.1)
  go_enter func171,ntmps171
  go_wp2;go_ret;exact⟨Y9 (t.o.trans d.o).symm,rfl⟩
def ZfV (l:List Int) (k:Nat):Int:=if k=0 then 0 else l.getD (k-2) 0+1
theorem ZnJ {lo:Int} {l:List Int} {k:Nat} (c:k % 2=0) (b:∀ j,j<k->j % 2=0->ZhB lo l j):ZhB lo l k↔(ZfV l k<=l.getD k 0∧l.getD k 0<=255)∧lo<=l.getD (k+1) 0∧l.getD (k+1) 0<=1099511627776:=by
 unfold ZhB ZfV;by_cases a:k=0
 ·subst a
  simp;omega
 ·rw[zaa a]
  have d:=(b (k-2) (by omega) (by omega)).1
  constructor
  ·rintro⟨h1,h2,h3,h4,h5⟩
   exact⟨⟨by have:=h3 (by omega);omega,h2⟩,h4,h5⟩
  ·rintro⟨⟨h1,h2⟩,h4,h5⟩
   exact⟨by omega,h2,fun _=>by omega,h4,h5⟩
theorem ZnK (v:Value) (l:List Int) (lo:Int) (a b:Nat) (w:World) (hr:RdI w v l) (N:w.cell? ⟨a,0,none⟩=some (.int .i64 lo)) (X:w.cell? ⟨b,0,none⟩=some (.int .i64 1099511627776)):
 Calls prog 172 #[v,.func (.func 170) #[] #[.pointer (some ⟨a,0,none⟩),.pointer (some ⟨b,0,none⟩)]] w fun e w'=>e=.returned (.bool (decide (Zap lo l)))∧Below w.heap.size w w':=by
 have HI:Hid (∀ n W,Below w.heap.size w W->Calls prog 170 #[.int .i64 n,.pointer (some ⟨a,0,none⟩),.pointer (some ⟨b,0,none⟩)] W fun e w'=>e=.returned (.bool (decide (lo<=n∧n<=1099511627776)))∧w'=W):=fun n W h=>
  ZdB n _ _ a b W ((h.cell (za1 w ⟨a,0,none⟩ N)).trans N) ((h.cell (za1 w ⟨b,0,none⟩ X)).trans X)
 have P:=Qc (fun n l2 h2 E I W p1 p2=>ZdB n l2 h2 E I W p1 p2)
 have Q:=Qc (fun p q W=>G9 p q W)
 obtain⟨ao,cap,rfl,-,-,-,-,Z⟩:=hr;have ag:=Qc Z;clear Z N X;obtain⟨R,S⟩:=zg7 (decide (Zap lo l));rw[<-S];have C:=Qc S;clear S;by_cases he:l.length % 2=0
 ·by_cases ac:l.length<=128
  ·have ab:(((l.length:Int).tmod 2) != 0)=false:=by rw[zby,zcx (by omega)];omega
   have hq:¬ (128<(l.length:Int)):=by omega
   go_enter func172,ntmps172
   go_wp2
   go_loopw[5,6] (fun y i wr=>∃ k:Nat,y=.int .i64 (ZfV l k)∧i=.int .i64 k∧k<=l.length∧k % 2=0∧Hid (∀ j,j<k->j % 2=0->ZhB lo l j)∧Hid (Below w.heap.size w wr)) (fun _ i _=>l.length-(intOf i).toNat)
   case atStart=>exact⟨0,rfl,rfl,zap _,rfl,fun j Y=>by omega,zac _ _⟩
   case round=>
    obtain⟨k,rfl,rfl,hk,O,V,t⟩:=hrel;by_cases x:k<l.length
    ·rcases ag.o with h0 | ⟨g,J,rfl,D⟩
     ·rw[h0] at x;simp at x
     have aa:k+1<l.length:=by omega
     have K:Hid (∀ W,Below w.heap.size w W->W.cell? ⟨g,J+k,none⟩=some (.int .i64 (l.getD k 0))):=fun W h=>(h.cell (za1 w ⟨g,J+k,none⟩ (D k x))).trans (D k x)
     have G:Hid (∀ W,Below w.heap.size w W->W.cell? ⟨g,J+(k+1),none⟩=some (.int .i64 (l.getD (k+1) 0))):=fun W h=>(h.cell (za1 w ⟨g,J+(k+1),none⟩ (D (k+1) aa))).trans (D (k+1) aa)
     clear D;have u:=Qc (ZnJ (lo:=lo) O V.out)
     have ad:Hid (ZfV l (k+2)=l.getD k 0+1):=by
      unfold ZfV;rw[zaa (by omega)]
      exact rfl
     generalize ZfV l k=ls at *;obtain⟨y,d⟩:=zg7 (l.getD k 0);obtain⟨z,f⟩:=zg7 (l.getD (k+1) 0);rw[<-d] at K u ad;rw[<-f] at G u;have ai:=Qc d;clear d f;by_cases d:ls<=y∧y<=255
     ·have L:=Qc (zan d)
      have H:=Qc d;by_cases f:lo<=z∧z<=1099511627776
      ·have T:=Qc (zan f)
       have F:=Qc f;have ak:=d.2;have aj:0<=y:=by rw[ai.o];exact(u.o.2 ⟨H.o,F.o⟩).1
       clear d f
       go_wp2_with fail
       refine(Q.o _ _ _).mono ?_;rintro e W1 ⟨E,I,rfl,A,B,m⟩;have c:=Qc (t.out.trans (m.mono t.out.size));have ae:=K.o _ c.o;have af:=G.o _ c.o;clear m
       go_wp2_with fail
       refine(P.o _ _ _ _ _ _ A B).mono ?_;rintro e W2 ⟨rfl,rfl⟩;rw[L.o]
       go_wp2_with fail
       refine(HI.o _ _ c.o).mono ?_;rintro e W3 ⟨rfl,rfl⟩;rw[T.o];go_wp2;go_roundw
       case rel=>
        refine⟨k+2,by rw[ad.o],by go_num,by omega,by omega,fun j Y U=>?_,c⟩
        by_cases e:j=k
        ·rw[e];exact u.o.2 ⟨H.o,F.o⟩
        ·exact V.out j (by omega) U
       case measure=>simp[intOf];omega
      ·have T:=Qc (zai f)
       have F:=Qc f;clear d f
       go_wp2_with fail
       refine(Q.o _ _ _).mono ?_;rintro e W1 ⟨E,I,rfl,A,B,m⟩;have c:=Qc (t.out.trans (m.mono t.out.size));have ae:=K.o _ c.o;have af:=G.o _ c.o;clear m
       go_wp2_with fail
       refine(P.o _ _ _ _ _ _ A B).mono ?_;rintro e W2 ⟨rfl,rfl⟩;rw[L.o]
       go_wp2_with fail
       refine(HI.o _ _ c.o).mono ?_;rintro e W3 ⟨rfl,rfl⟩;rw[T.o];go_wp2;go_ret;exact⟨Y9 (C.o.trans (zai fun h=>F.o (u.o.1 (h.2.2 k x O)).2)).symm,c.o⟩
     ·have L:=Qc (zai d)
      have H:=Qc d;clear d
      go_wp2_with fail
      refine(Q.o _ _ _).mono ?_;rintro e W1 ⟨E,I,rfl,A,B,m⟩;have c:=Qc (t.out.trans (m.mono t.out.size));have ae:=K.o _ c.o;have af:=G.o _ c.o;clear m
      go_wp2_with fail
      refine(P.o _ _ _ _ _ _ A B).mono ?_;rintro e W2 ⟨rfl,rfl⟩;rw[L.o];go_wp2;go_ret;exact⟨Y9 (C.o.trans (zai fun h=>H.o (u.o.1 (h.2.2 k x O)).1)).symm,c.o⟩
    ·go_wp2
     go_ret;exact⟨Y9 (C.o.trans (zan ⟨he,ac,fun j Y U=>V.out j (by omega) U⟩)).symm,t.out⟩
  ·have ab:(((l.length:Int).tmod 2) != 0)=false:=by rw[zby,zcx (by omega)];omega
   have hq:128<(l.length:Int):=by omega
   have M:Hid (decide (Zap lo l)=false):=zai (fun h=>ac h.2.1)
   go_enter func172,ntmps172
   go_wp2;go_ret;exact⟨Y9 (C.o.trans M.o).symm,zac _ _⟩
 ·have ab:(((l.length:Int).tmod 2) != 0)=true:=by rw[zbq,zcx (by omega)];omega
  have M:Hid (decide (Zap lo l)=false):=zai (fun h=>he h.1)
  go_enter func172,ntmps172
  go_wp2;go_ret;exact⟨Y9 (C.o.trans M.o).symm,zac _ _⟩
theorem ZxD (b:kind=0∨kind=1) (l:List Int):(0<=kind∧kind<6∧Zg kind l)↔l.length=1∧-1099511627776<=l.getD 0 0∧l.getD 0 0<=1099511627776:=by
 rw[X9 (by omega) (by omega)]
 constructor
 ·rintro⟨_,_,_,h1,h2⟩
  exact⟨h1 (by omega),h2 0 (by have:=h1 (by omega);omega)⟩
 ·rintro⟨h1,h2⟩
  refine⟨by omega,by omega,by omega,fun _=>h1,fun j a=>?_⟩
  have e:j=0:=by omega
  rw[e];exact h2
theorem Zvn (a:kind=2∨kind=3) (l:List Int):(0<=kind∧kind<6∧Zg kind l)↔l.length<=64∧Gh l:=by
 rw[X9 (by omega) (by omega)]
 constructor
 ·rintro⟨_,_,h1,_,h2⟩
  exact⟨h1,h2⟩
 ·rintro⟨h1,h2⟩
  exact⟨by omega,by omega,h1,fun h=>by omega,h2⟩
theorem ZsM (l:List Int):(0<=(4:Int)∧(4:Int)<6∧Zg 4 l)↔Zap (-1099511627776) l:=by
 unfold Zg;rw[zab rfl];exact⟨fun h=>h.2.2,fun h=>⟨by decide,by decide,h⟩⟩
theorem ZpL (l:List Int):(0<=(5:Int)∧(5:Int)<6∧Zg 5 l)↔Zap 0 l:=by
 unfold Zg;rw[zaa (by decide),zab rfl]
 exact⟨fun h=>h.2.2,fun h=>⟨by decide,by decide,h⟩⟩
theorem ZjX (kind:Int) (v:Value) (l:List Int) (w:World) (H:RdI w v l):
 Calls prog 122 #[.int .i64 kind,v] w fun e w'=>e=.returned (.bool (decide (0<=kind∧kind<6∧Zg kind l)))∧Below w.heap.size w w':=by
 have m:=Qc (fun p q W=>G9 p q W)
 have I:Hid (∀ W,Below w.heap.size w W->RdI W v l):=fun W h=>H.below h zL
 obtain⟨R,N⟩:=zg7 (decide (0<=kind∧kind<6∧Zg kind l));rw[<-N];have x:=Qc N;clear N;by_cases E:kind=0∨kind=1
 ·have c:=Qc (ZxD E l)
  have i:((kind == 0)=true)∨((kind == 0)=false∧(kind == 1)=true):=by
   rcases E with rfl | rfl
   ·exact .inl rfl
   ·exact .inr ⟨rfl,rfl⟩
  have z:=Qc (fun n l2 h2 f d W B F=>ZdB n l2 h2 f d W B F)
  obtain⟨ao,cap,rfl,-,-,-,-,U⟩:=H;have V:=Qc U;clear U E I;by_cases t:l.length=1
  ·rcases V.o with h0 | ⟨g,Q,rfl,L⟩
   ·rw[h0] at t;simp at t
   have P:Hid (∀ W,Below w.heap.size w W->W.cell? ⟨g,Q,none⟩=some (.int .i64 (l.getD 0 0))):=fun W h=>(h.cell (za1 w ⟨g,Q,none⟩ (L 0 (by omega)))).trans (L 0 (by omega))
   clear L V;have HL:=Qc t;rw[t];clear t;obtain⟨y,T⟩:=zg7 (l.getD 0 0);rw[<-T] at P c;clear T;rcases i with i | ⟨i,X⟩
   all_goals
    go_enter func122,ntmps122
    go_wp2_with fail
    refine(m.o _ _ _).mono ?_;rintro e C ⟨f,d,rfl,j,k,a⟩;have b:=Qc a;have ab:=P.o _ a;clear a
    go_wp2_with fail
    refine(z.o _ _ _ _ _ _ j k).mono ?_;rintro e O ⟨rfl,rfl⟩;go_wp2;go_ret;refine⟨Y9 ?_,b.o⟩;rw[x.o,<-zeg];exact zco.2 ⟨fun h=>c.o.2 ⟨HL.o,h⟩,fun h=>(c.o.1 h).2⟩
  ·have hq:((l.length:Int) == 1)=false:=zah.2 (by omega)
   have K:Hid (decide (0<=kind∧kind<6∧Zg kind l)=false):=zai (fun h=>t (c.o.1 h).1)
   clear t;rcases i with i | ⟨i,X⟩
   all_goals
    go_enter func122,ntmps122
    go_wp2_with fail
    refine(m.o _ _ _).mono ?_;rintro e C ⟨f,d,rfl,j,k,a⟩;have b:=Qc a;clear a;go_wp2;go_ret;exact⟨Y9 (x.o.trans K.o).symm,b.o⟩
 ·have e0:(kind == 0)=false:=zah.2 (by omega)
  have e1:(kind == 1)=false:=zah.2 (by omega)
  by_cases J:kind=2∨kind=3
  ·have c:=Qc (Zvn J l)
   have i:((kind == 2)=true)∨((kind == 2)=false∧(kind == 3)=true):=by
    rcases J with rfl | rfl
    ·exact .inl rfl
    ·exact .inr ⟨rfl,rfl⟩
   have z:=Qc (fun f d W B F M=>ZpK v l f d W B F M)
   clear E J H;rcases i with i | ⟨i,X⟩
   all_goals
    go_enter func122,ntmps122
    go_wp2_with fail
    refine(m.o _ _ _).mono ?_;rintro e C ⟨f,d,rfl,j,k,a⟩;have b:=Qc a;clear a
    go_wp2_with fail
    refine(z.o _ _ _ (I.o _ b.o) j k).mono ?_;rintro e O ⟨rfl,rfl⟩;go_wp2;go_ret;refine⟨Y9 ?_,b.o⟩;rw[x.o,<-zeg];exact zco.2 c.o.symm
  ·have e2:(kind == 2)=false:=zah.2 (by omega)
   have e3:(kind == 3)=false:=zah.2 (by omega)
   have z:=Qc (fun lo f d W B F M=>ZnK v l lo f d W B F M)
   clear E J H;by_cases u:kind=4
   ·have e4:(kind == 4)=true:=zbi.2 u
    have c:Hid (Zap (-1099511627776) l↔(0<=kind∧kind<6∧Zg kind l)):=by rw[u];exact(ZsM l).symm
    clear u
    go_enter func122,ntmps122
    go_wp2_with fail
    refine(m.o _ _ _).mono ?_;rintro e C ⟨f,d,rfl,j,k,a⟩;have b:=Qc a;clear a
    go_wp2_with fail
    refine(z.o _ _ _ _ (I.o _ b.o) j k).mono ?_;rintro e O ⟨rfl,A⟩;have D:=Qc (b.o.trans (A.mono b.o.size));clear A;go_wp2;go_ret;refine⟨Y9 ?_,D.o⟩;rw[x.o];exact zco.2 c.o
   ·have e4:(kind == 4)=false:=zah.2 u
    by_cases G:kind=5
    ·have Z:(kind == 5)=true:=zbi.2 G
     have c:Hid (Zap 0 l↔(0<=kind∧kind<6∧Zg kind l)):=by rw[G];exact(ZpL l).symm
     clear u G
     go_enter func122,ntmps122
     go_wp2_with fail
     refine(m.o _ _ _).mono ?_;rintro e C ⟨a1,Y,rfl,_,_,a⟩;have b:=Qc a;clear a
     go_wp2_with fail
     refine(m.o _ _ _).mono ?_;rintro e O ⟨f,d,rfl,j,k,A⟩;have D:=Qc (b.o.trans (A.mono b.o.size));clear A
     go_wp2_with fail
     refine(z.o _ _ _ _ (I.o _ D.o) j k).mono ?_;rintro e W3 ⟨rfl,S⟩;have aa:=Qc (D.o.trans (S.mono D.o.size));clear S;go_wp2;go_ret;refine⟨Y9 ?_,aa.o⟩;rw[x.o];exact zco.2 c.o
    ·have Z:(kind == 5)=false:=zah.2 G
     have K:Hid (decide (0<=kind∧kind<6∧Zg kind l)=false):=zai (fun h=>by
      have n0:kind≠0:=zah.1 e0;have n1:kind≠1:=zah.1 e1;have n2:kind≠2:=zah.1 e2;have n3:kind≠3:=zah.1 e3
      omega)
     clear u G
     go_enter func122,ntmps122
     go_wp2_with fail
     refine(m.o _ _ _).mono ?_;rintro e C ⟨a1,Y,rfl,_,_,a⟩;have b:=Qc a;clear a;go_wp2;go_ret;exact⟨Y9 (x.o.trans K.o).symm,b.o⟩
theorem Zvo (kind:Int) (l:List Int) (a:Bool) (g:Int):Ym ⟨kind,l,a,g⟩↔(a=false->g=0)∧(0<=g∧g<=2)∧(0<=kind∧kind<6∧Zg kind l):=
 ⟨fun h=>⟨h.2.2.1,⟨h.1,h.2.1⟩,h.2.2.2.1,h.2.2.2.2.1,h.2.2.2.2.2⟩,fun h=>⟨h.2.1.1,h.2.1.2,h.1,h.2.2.1,h.2.2.2.1,h.2.2.2.2⟩⟩
theorem ZlW (v:Value) (s:St) (w:World) (K:StV w v s):
 Calls prog 82 #[v] w fun e w'=>e=.returned (.bool (decide (Ym s)))∧Below w.heap.size w w':=by
 obtain⟨G,rfl,z,-,-⟩:=K;obtain⟨kind,l,f,g⟩:=s;simp only at z ⊢;have H:=Qc (fun p q W=>G9 p q W)
 have J:=Qc (fun n S h2 V O W L Z=>ZdB n S h2 V O W L Z)
 have Y:Hid (∀ W,Below w.heap.size w W->Calls prog 122 #[.int .i64 kind,G] W fun e w'=>e=.returned (.bool (decide (0<=kind∧kind<6∧Zg kind l)))∧Below W.heap.size W w'):=fun W h=>ZjX kind G l W (z.below h zL)
 have t:=Qc (Zvo kind l f g);obtain⟨R,E⟩:=zg7 (decide (Ym ⟨kind,l,f,g⟩));rw[<-E];have F:=Qc E;have k:Hid (∀ x,Below w.heap.size w (w.alloc x)):=fun x=>(zac _ _).alloc zL x
 clear E z;by_cases u:f=false∧g≠0
 ·obtain⟨rfl,C⟩:=u
  have hq:(g != 0)=true:=zbq.2 C;have M:Hid (decide (Ym ⟨kind,l,false,g⟩)=false):=zai (fun h=>C ((t.o.1 h).1 rfl))
  clear C
  go_enter func82,ntmps82
  go_wp2;go_ret;exact⟨Y9 (F.o.trans M.o).symm,k.o _⟩
 ·have d:((g != 0)=false)∨((g != 0)=true∧f=true):=by
   by_cases i:g=0
   ·exact .inl (zby.2 i)
   ·cases f
    ·exact absurd ⟨rfl,i⟩ u
    ·exact .inr ⟨zbq.2 i,rfl⟩
  have T:Hid (f=false->g=0):=fun h=>by
   by_cases i:g=0
   ·exact i
   ·exact absurd ⟨h,i⟩ u
  clear u;by_cases c:0<=g∧g<=2
  ·have y:=Qc (zan c)
   have X:=Qc c;clear c
   have D:Hid (decide (0<=kind∧kind<6∧Zg kind l)=R):=by
    rw[F.o];exact zco.2 ⟨fun h=>t.o.2 ⟨T.o,X.o,h⟩,fun h=>(t.o.1 h).2.2⟩
   rcases d with d | ⟨d,rfl⟩
   all_goals
    go_enter func82,ntmps82
    go_wp2_with fail
    refine(H.o _ _ _).mono ?_;rintro e j ⟨U,N,rfl,A,B,b⟩;have a:=(b.block w.heap.size (by simp)).trans (zak w _)
    have q0:=zas j w.heap.size 0 _ _ _ a;have q1:=zas j w.heap.size 1 _ _ _ a;have Q:=zas j w.heap.size 3 _ _ _ a;have m:=Qc ((k.o _).trans (b.mono (k.o _).size));clear b a
    go_wp2_with fail
    refine(J.o _ _ _ _ _ _ A B).mono ?_;rintro e W2 ⟨rfl,rfl⟩;rw[y.o]
    go_wp2_with fail
    refine(Y.o _ m.o).mono ?_;rintro e W3 ⟨rfl,I⟩;rw[D.o];have P:=Qc (m.o.trans (I.mono m.o.size));clear I;go_wp2;go_ret;exact⟨rfl,P.o⟩
  ·have y:=Qc (zai c)
   have D:Hid (R=false):=F.o.trans (zai fun h=>c (t.o.1 h).2.1)
   clear c;rcases d with d | ⟨d,rfl⟩
   all_goals
    go_enter func82,ntmps82
    go_wp2_with fail
    refine(H.o _ _ _).mono ?_;rintro e j ⟨U,N,rfl,A,B,b⟩;have a:=(b.block w.heap.size (by simp)).trans (zak w _)
    have Q:=zas j w.heap.size 3 _ _ _ a;have m:=Qc ((k.o _).trans (b.mono (k.o _).size));clear b a
    go_wp2_with fail
    refine(J.o _ _ _ _ _ _ A B).mono ?_;rintro e W2 ⟨rfl,rfl⟩;rw[y.o];go_wp2;go_ret;exact⟨Y9 D.o.symm,m.o⟩
theorem ZlX (o:Opn) (w:World):
 Calls prog 80 #[opV o] w fun e w'=>e=.returned (.bool (decide (Gj o)))∧Below w.heap.size w w':=by
 obtain⟨c,a,b⟩:=o;have J:=Qc (fun p q W=>G9 p q W)
 have D:=Qc (fun n U h2 L H W Q Y=>ZdB n U h2 L H W Q Y)
 have k:Hid (Gj ⟨c,a,b⟩↔(0<=c∧c<=10)∧(-1099511627776<=a∧a<=1099511627776)∧(-1099511627776<=b∧b<=1099511627776)):=
  ⟨fun h=>⟨⟨h.1,h.2.1⟩,⟨h.2.2.1,h.2.2.2.1⟩,h.2.2.2.2⟩,fun h=>⟨h.1.1,h.1.2,h.2.1.1,h.2.1.2,h.2.2⟩⟩
 obtain⟨R,A⟩:=zg7 (decide (Gj ⟨c,a,b⟩));rw[<-A];have HR:=Qc A;have M:Hid (∀ x,Below w.heap.size w (w.alloc x)):=fun x=>(zac _ _).alloc zL x
 clear A
 have X:∀ j i y,Hid (decide (0<=c∧c<=10)=j)->Hid (decide (-1099511627776<=a∧a<=1099511627776)=i)->Hid (decide (-1099511627776<=b∧b<=1099511627776)=y)->Hid ((j && i && y)=R)->
  Calls prog 80 #[.agg #[.int .i64 c,.int .i64 a,.int .i64 b]] w fun e w'=>e=.returned (.bool R)∧Below w.heap.size w w':=by
  intro j i y Z H2 S z
  go_enter func80,ntmps80
  go_wp2_with fail
  refine(J.o _ _ _).mono ?_;rintro e I ⟨V,T,rfl,f,g,C⟩;have O:=Qc ((M.o _).trans (C.mono (M.o _).size));have t:=Qc ((C.block w.heap.size (by simp)).trans (zak w _))
  have m:=Qc f;have u:=Qc g;clear C f g
  go_wp2_with fail
  refine(J.o _ _ _).mono ?_;rintro e B ⟨L,H,rfl,E,N,d⟩;have l:=(d.block w.heap.size (zar.1 t.o).1).trans t.o;have q0:=zas B w.heap.size 0 _ _ _ l;have q1:=zas B w.heap.size 1 _ _ _ l;have q2:=zas B w.heap.size 2 _ _ _ l;have f:=(d.cell (za1 I ⟨V,0,none⟩ m.o)).trans m.o;have g:=(d.cell (za1 I ⟨T,0,none⟩ u.o)).trans u.o;have v:=Qc (O.o.trans (d.mono O.o.size));have P:=Qc f;have aa:=Qc g;have K:=Qc E;have F:=Qc N;clear d l t m u f g E N
  go_wp2_with fail
  refine(D.o _ _ _ _ _ _ P.o aa.o).mono ?_;rintro e G ⟨rfl,rfl⟩;rw[Z.o]
  cases j
  ·go_wp2
   go_ret;exact⟨Y9 (by rw[<-z.o];rfl),v.o⟩
  ·go_wp2_with fail
   refine(D.o _ _ _ _ _ _ K.o F.o).mono ?_;rintro e G ⟨rfl,rfl⟩;rw[H2.o]
   cases i
   ·go_wp2
    go_ret;exact⟨Y9 (by rw[<-z.o];rfl),v.o⟩
   ·go_wp2_with fail
    refine(D.o _ _ _ _ _ _ K.o F.o).mono ?_;rintro e G ⟨rfl,rfl⟩;rw[S.o];go_wp2;go_ret;exact⟨Y9 (by rw[<-z.o];rfl),v.o⟩
 refine X _ _ _ rfl rfl rfl (Qc ?_);rw[HR.o,<-zeg,<-zeg];exact zco.2 ⟨fun h=>k.o.2 ⟨h.1.1,h.1.2,h.2⟩,fun h=>⟨⟨(k.o.1 h).1,(k.o.1 h).2.1⟩,(k.o.1 h).2.2⟩⟩
theorem ZxE (v:Value) (s:St) (w:World) (n:StV w v s) (b:s.L.length<=1000000):
 Calls prog 81 #[v] w fun e w'=>∃ vl',e=.returned (.agg #[.int .i64 s.kind,vl',.bool s.shut,.int .i64 s.eng])∧Qt w' w.heap.size vl' s.L∧Below w.heap.size w w':=by
 obtain⟨j,rfl,d,-,-⟩:=n;obtain⟨kind,l,B,g⟩:=s;simp only at d b ⊢;have z:Hid (∀ W,Below w.heap.size w W->Calls prog 39 #[j] W fun e w'=>∃ v',e=.returned v'∧Qt w' W.heap.size v' l∧Below W.heap.size W w'):=fun W h=>ZfQ j l W (d.below h zL) b
 have f:Hid (∀ x y,Below w.heap.size w ((w.alloc x).alloc y)):=fun x y=>((zac _ _).alloc zL x).alloc (by simp) y
 clear d b
 go_enter func81,ntmps81
 go_wp2_with fail
 refine(z.o _ (f.o _ _)).mono ?_;rintro e k ⟨u,rfl,m,i⟩;have a:Zpb k w.heap.size _ _:=(Zpb.made w _ _).below i (by simp)
 have K:=(a.s 0).1;have G:=(a.s 1).1;have N:=(a.s 2).1;have M:=(a.s 3).1;have E:=(a.s 1).2;have q:=(a.r 0).1;have A:=(a.r 1).1;have C:=(a.r 2).1;have p:=(a.r 3).1;have I:=(a.r 0).2;have J:=(a.r 1).2;have F:=(a.r 2).2;have H:=(a.r 3).2;have D:=Qc ((f.o _ _).trans (i.mono (f.o _ _).size))
 have c:Qt k (w.heap.size+1+1) u l:=by
  have e:∀ x y,((w.alloc x).alloc y).heap.size=w.heap.size+1+1:=fun x y=>by simp
  rwa [e] at m
 have t:=Qc c;obtain⟨ao,cap,rfl⟩:=c.shape;clear i a m c;go_wp2;refine zax (v:=.agg #[.int .i64 kind,.slice ao l.length cap,.bool B,.int .i64 g]) (by simp[results,Tryz.results81,go_sem,q,A,C,p]) rfl ?_
 exact⟨_,rfl,(t.o.five w.heap.size (w.heap.size+1) (by omega) (by omega) _ _ _ _ _).mono (by omega),Zuy D.o w.heap.size (w.heap.size+1) zL (by omega) _ _ _ _ _⟩
open Go.RowKit Go.ChangeShapes
theorem ZlY:prog.cellsOf 52=3:=by kernel_rfl
section
variable {H:Type} {enc:TypeId × Value->H} {w:World} {base fuel:Nat} {held:Bool}
theorem ZeQ {cs:List Value} {x:DataW H × List MemPlace} (h:DataW.trod enc prog w base (fun _=>true) held fuel 52 cs=some x):
 ∃ (o:Opn),cs=[.int .i64 o.code,.int .i64 o.a,.int .i64 o.b]∧ZyL o:=by
 obtain⟨xs,n,_,_,l,q,c⟩:=zgq underlying52 h;rw[ZlY] at l
 match xs,q,cs,l with
 | [y0,y1,y2],_,[c0,c1,c2],_=>
  have g:=c 0 _ rfl;have f:=c 1 _ rfl;have e:=c 2 _ rfl;simp[Zig] at g f e;obtain⟨k,d,_,t⟩:=zdo underlying3 g;obtain⟨a,i,_,m⟩:=zdo underlying3 f;obtain⟨b,j,_,p⟩:=zdo underlying3 e;simp only [ze0,ze7] at d i j;subst d i j;exact⟨⟨k,a,b⟩,rfl,Z9 t,Z9 m,Z9 p⟩
end
theorem Zvp (h:Ym s):∀ x ∈ s.L,I64 x:=by
 have g:=h.2.2.2.1;have f:=h.2.2.2.2.1;have a:=h.2.2.2.2.2;by_cases b:s.kind=4
 ·rw[b,ZaL] at a
  exact ZaC (by decide) (by decide) a.2
 ·by_cases c:s.kind=5
  ·rw[c,Zar] at a
   exact ZaC (by decide) (by decide) a.2
  ·have d:=(J9 _).1 ((X9 b c).1 a).2.2
   intro x e;have:=d x e;exact Qo (by omega) (by omega)
theorem ZlZ (h:Ym s):s.L.length<=128:=by
 have e:=h.2.2.2.1;have d:=h.2.2.2.2.1;have a:=h.2.2.2.2.2;by_cases b:s.kind=4
 ·rw[b,ZaL] at a
  exact a.1
 ·by_cases c:s.kind=5
  ·rw[c,Zar] at a
   exact a.1
  ·have:=((X9 b c).1 a).1
   omega
theorem ZsN (h:Ym s) (b:s.shut=false) (o:Opn) (c:o.code=10):Zl s o=(⟨s.kind,s.L,true,if 0<=o.a∧o.a<=2 then o.a else s.eng⟩,0):=by
 unfold Zl;rw[zaa (fun e=>e h),zaa (by simp[b]),zab c]
theorem ZkH (h:Ym s) (a:s.shut=false) (o:Opn) (b:o.code≠10):Zl s o=if s.kind<=1 then ZdN s o else if s.kind<=3 then Zo s o else if s.kind=4 then Z2 s o else Yh s o:=by
 unfold Zl;rw[zaa (fun e=>e h),zaa (by simp[a]),zaa b]
theorem ZpM (s:St) (o:Opn):(Z2 s o).1.kind=s.kind∧(Z2 s o).1.shut=s.shut∧(Z2 s o).1.eng=s.eng:=by
 rw[Zgt];exact ZfA s o
theorem ZpN {r:St × Int} {k:Int} {s:Bool} (h:r.1.kind=k∧r.1.shut=s∧r.1.eng=g):r=(⟨k,r.1.L,s,g⟩,r.2):=by
 obtain⟨⟨j,e,d,f⟩,i⟩:=r;obtain⟨a,c,b⟩:=h;simp only at a c b;rw[a,c,b]
theorem Zzt (s:St) (v:Value) (o:Opn) (B:Nat) (w:World) (k:Qt w B v s.L) (t:B<=w.heap.size) (d:Ym s):
 Calls prog 83 #[.agg #[.int .i64 s.kind,v,.bool s.shut,.int .i64 s.eng],opV o] w fun e w'=>Did B w v (Zl s o) e w':=by
 obtain⟨kind,l,y,g⟩:=s
 cases y with
 | true=>
  rw[Zsb d rfl];exact ZpH kind g l v o B w k
 | false=>
  have C:0<=kind:=d.2.2.2.1;have A:kind<6:=d.2.2.2.2.1;have u:=d.2.2.2.2.2;obtain⟨c,a,b⟩:=o;by_cases f:c=10
  ·rw[ZsN d rfl _ f]
   subst f;exact ZpI kind g a b l v B w k
  ·rw[ZkH d rfl _ f]
   by_cases n:kind<=1
   ·rw[zab n]
    obtain⟨i,j,x⟩:=ZAL d n;exact ZsL kind g (by omega) l v ⟨c,a,b⟩ f B w k i j x
   ·rw[zaa n]
    by_cases p:kind<=3
    ·rw[zab p,ZpN (ZhH ⟨kind,l,false,g⟩ ⟨c,a,b⟩)]
     exact ZpJ kind g (by omega) l _ _ v c a b f B w k (fun W i j=>ZxA kind (by omega) v l ⟨c,a,b⟩ false g B W i j (Zvp d) (ZAM d p)) t
    ·rw[zaa p]
     by_cases q:kind=4
     ·rw[zab q,ZpN (ZpM ⟨kind,l,false,g⟩ ⟨c,a,b⟩)]
      subst q;have m:=(ZaL l).1 u;exact ZnI 4 g rfl l _ _ v c a b f B w k (fun W i j=>ZsK v l ⟨c,a,b⟩ false g B W i j m.2 m.1) t
     ·rw[zaa q,ZpN (ZdO ⟨kind,l,false,g⟩ ⟨c,a,b⟩)]
      have z:kind=5:=by omega
      subst z;have m:=(Zar l).1 u;exact ZlV 5 g rfl l _ _ v c a b f B w k (fun W i j=>ZpG v l ⟨c,a,b⟩ false g B W i j m.2 m.1) t
theorem ZxF (v:Value) (s:St) (o:Opn) (w:World) (hs:StV w v s) (S:s.L.length<=1000000):
 Calls prog 42 #[v,opV o] w fun e w'=>ZfB w (lval v) s.L (Zl s o) e w':=by
 obtain⟨vl,rfl,I,H,E⟩:=hs;rw[ZqV];obtain⟨kind,l,f,g⟩:=s;simp only at I H E S ⊢;have P:=Qc I.i64;have ab:Hid (∀ W,Below w.heap.size w W->Calls prog 81 #[.agg #[.int .i64 kind,vl,.bool f,.int .i64 g]] W fun e w'=>∃ vl',e=.returned (.agg #[.int .i64 kind,vl',.bool f,.int .i64 g])∧Qt w' W.heap.size vl' l∧Below W.heap.size W w'):=fun W h=>ZxE _ ⟨kind,l,f,g⟩ W ⟨vl,rfl,I.below h zL,H,E⟩ S
 have ae:Hid (∀ i W,RdI W i l->Calls prog 82 #[.agg #[.int .i64 kind,i,.bool f,.int .i64 g]] W fun e w'=>e=.returned (.bool (decide (Ym ⟨kind,l,f,g⟩)))∧Below W.heap.size W w'):=fun i W h=>ZlW _ ⟨kind,l,f,g⟩ W ⟨i,rfl,h,H,E⟩
 have A:Hid (∀ x y z,Below w.heap.size w (((w.alloc x).alloc y).alloc z)):=fun x y z=>(Z6 w x y z).1
 have J:Hid (∀ x y z,(((w.alloc x).alloc y).alloc z).heap.size=w.heap.size+1+1+1):=fun x y z=>ZAK w x y z
 have aj:=Qc H;have aq:=Qc E;obtain⟨q,a,b⟩:=o;clear I H E S;show Calls prog _ #[_,.agg #[.int .i64 q,.int .i64 a,.int .i64 b]] w _;by_cases u:Ym ⟨kind,l,f,g⟩
 ·have M:=Qc (zan u)
  have af:Hid (∀ i B W,Qt W B i l->B<=W.heap.size->Calls prog 83 #[.agg #[.int .i64 kind,i,.bool f,.int .i64 g],.agg #[.int .i64 q,.int .i64 a,.int .i64 b]] W fun e w'=>Did B W i (Zl ⟨kind,l,f,g⟩ ⟨q,a,b⟩) e w'):=fun i B W h1 h2=>Zzt ⟨kind,l,f,g⟩ i ⟨q,a,b⟩ B W h1 h2 u
  have C:=ZeD u ⟨q,a,b⟩;have Z:=Qc (Zvp C);have ac:Hid (I64 (Zl ⟨kind,l,f,g⟩ ⟨q,a,b⟩).1.kind):=Qo (by have:=C.2.2.2.1;omega) (by have:=C.2.2.2.2.1;omega)
  have aa:Hid (I64 (Zl ⟨kind,l,f,g⟩ ⟨q,a,b⟩).1.eng):=Qo (by have:=C.1;omega) (by have:=C.2.1;omega)
  obtain⟨⟨⟨k',L',s',g'⟩,n'⟩,ai⟩:=zg7 (Zl ⟨kind,l,f,g⟩ ⟨q,a,b⟩);rw[<-ai] at af Z ac aa ⊢;clear u C ai
  go_enter func42,ntmps42
  go_wp2_with fail
  refine(ab.o _ (A.o _ _ _)).mono ?_;rintro e d ⟨i,rfl,p,n⟩;rw[J.o] at p;have G:=Qc ((Df.made w _ _ _).below n (by simp))
  have t:=Qc ((A.o _ _ _).trans (n.mono (A.o _ _ _).size));have D:=Qc p;have U:=n.size;rw[J.o] at U;obtain⟨ao,cap,rfl⟩:=p.shape;clear n p
  go_wp2_with fail
  refine(ae.o _ _ ((D.o.alloc _).rd P.o)).mono ?_;rintro e m ⟨rfl,j⟩;rw[M.o];have X:=Qc ((t.o.alloc t.o.size _).trans (j.mono (by have:=t.o.size;simp;omega)))
  have F:=Qc ((D.o.alloc _).below j zL);have al:=j.size;have c:=(G.o.below ((zac d.heap.size d).alloc zL _) (by omega)).below j (by simp;omega)
  have k:=(j.block d.heap.size (by simp)).trans (zak d _)
  have ak:=Qc c;obtain⟨p0,-⟩:=c.o 0;obtain⟨p1,-⟩:=c.o 1;obtain⟨p2,-⟩:=c.o 2;have q0:=zas m d.heap.size 0 _ _ _ k;have q1:=zas m d.heap.size 1 _ _ _ k;have q2:=zas m d.heap.size 2 _ _ _ k;have q3:=zas m d.heap.size 3 _ _ _ k;have Y:w.heap.size+1+1+1<=m.heap.size:=by simp at al;omega
  clear j c k G
  go_wp2_with fail
  refine(af.o _ _ _ F.o Y).mono ?_;rintro e W3 ⟨v3,rfl,K,ag⟩;have R:=ag.below F.o Y;have c:=ak.o.below R zL;obtain⟨T,t0⟩:=c.r 0;obtain⟨O,t1⟩:=c.r 1;obtain⟨Q,t2⟩:=c.r 2;obtain⟨N,t3⟩:=c.r 3;have am:=Qc (X.o.trans (R.mono (by omega)))
  have ad:=Qc K;obtain⟨an,ap,rfl⟩:=K.shape;clear R ag c K;go_wp2;refine zax (v:=.tuple #[.agg #[.int .i64 k',.slice an L'.length ap,.bool s',.int .i64 g'],.int .i64 n']) (by simp[results,Tryz.results42,go_sem,T,O,Q,N]) rfl ?_
  refine ZfB.fresh ((ad.o.four (w.heap.size+1+1) (by omega) _ _ _ _).rd Z.o) ac.o aa.o n' (fun b V=>?_) (Zae am.o (w.heap.size+1+1) (by omega) _ _ _ _)
  have:=ad.o.fresh b V;omega
 ·have M:=Qc (zai u)
  have HR:=Qc (ZhU u ⟨q,a,b⟩);rw[HR.o];clear u
  go_enter func42,ntmps42
  go_wp2_with fail
  refine(ab.o _ (A.o _ _ _)).mono ?_;rintro e d ⟨i,rfl,p,n⟩;rw[J.o] at p;have G:=Qc ((Df.made w _ _ _).below n (by simp))
  have t:=Qc ((A.o _ _ _).trans (n.mono (A.o _ _ _).size));have D:=Qc p;have U:=n.size;rw[J.o] at U;obtain⟨ao,cap,rfl⟩:=p.shape;clear n p
  go_wp2_with fail
  refine(ae.o _ _ ((D.o.alloc _).rd P.o)).mono ?_;rintro e m ⟨rfl,j⟩;rw[M.o];have X:=Qc ((t.o.alloc t.o.size _).trans (j.mono (by have:=t.o.size;simp;omega)))
  have F:=Qc ((D.o.alloc _).below j zL);have c:=(G.o.below ((zac d.heap.size d).alloc zL _) (by omega)).below j (by simp;omega)
  have k:=(j.block d.heap.size (by simp)).trans (zak d _)
  obtain⟨T,t0⟩:=c.r 0;obtain⟨O,t1⟩:=c.r 1;obtain⟨Q,t2⟩:=c.r 2;obtain⟨N,t3⟩:=c.r 3;have q0:=zas m d.heap.size 0 _ _ _ k;have q1:=zas m d.heap.size 1 _ _ _ k;have q2:=zas m d.heap.size 2 _ _ _ k;have q3:=zas m d.heap.size 3 _ _ _ k;clear j c k G;go_wp2;refine zax (v:=.tuple #[.agg #[.int .i64 kind,.slice ao l.length cap,.bool f,.int .i64 g],.int .i64 0]) (by simp[results,Tryz.results42,go_sem,T,O,Q,N]) rfl ?_
  refine ZfB.fresh ((F.o.four (w.heap.size+1+1) (by omega) _ _ _ _).rd P.o) aj.o aq.o 0 (fun b V=>?_) (Zae X.o (w.heap.size+1+1) (by omega) _ _ _ _)
  have:=F.o.fresh b V;omega
theorem ZsO (s:St) (o:Opn):I64 (Zl s o).2:=by
 by_cases h:s.kind≠4∨s.shut=true∨o.code=10∨o.code=5∨o.code=6∨o.code=7∨(0<=o.a∧o.a<=255)
 ·rw[Zxe s o h]
  exact ZuA s o
 ·by_cases d:Ym s
  ·have b:s.kind=4:=by
    by_cases b:s.kind=4
    ·exact b
    ·exact absurd (.inl b) h
   have c:s.shut=false:=by
    cases c:s.shut
    ·rfl
    ·exact absurd (.inr (.inl c)) h
   have f:o.code≠10:=fun e=>h (.inr (.inr (.inl e)))
   have g:¬ (0<=o.a∧o.a<=255):=fun e=>h (.inr (.inr (.inr (.inr (.inr (.inr e))))))
   rw[ZkH d c o f,zaa (by omega),zaa (by omega),zab b]
   unfold Z2;rw[zab (by omega)]
   exact(Qo (by decide) (by decide):I64 (-1))
  ·rw[ZhU d]
   exact(Qo (by decide) (by decide):I64 0)
theorem Zzu (n a b:Int) (B:Bool) (f:B=decide (a<=n∧n<=b)) (w:World):
 Calls prog 79 #[.int .i64 n,.int .i64 a,.int .i64 b] w fun e w'=>e=.returned (.bool B)∧w'=w:=by
 have c:=ZZ f;clear f;by_cases i:a<=n
 ·by_cases g:n<=b
  ·have d:Hid (true=B):=ZZ (by rw[c.o,zan ⟨i,g⟩])
   clear c
   go_enter func79,ntmps79
   go_wp2;go_ret;exact⟨Y9 d.o,rfl⟩
  ·have d:Hid (false=B):=ZZ (by rw[c.o,zai fun h=>g h.2])
   clear c
   go_enter func79,ntmps79
   go_wp2;go_ret;exact⟨Y9 d.o,rfl⟩
 ·have d:Hid (false=B):=ZZ (by rw[c.o,zai fun h=>i h.1])
  clear c
  go_enter func79,ntmps79
  go_wp2;go_ret;exact⟨Y9 d.o,rfl⟩
theorem ZpO (r:Rec):Q1 r↔(0<=r.idx∧r.idx<=4611686018427387903)∧(0<=r.proc∧r.proc<=64)∧(0<=r.seq∧r.seq<=4611686018427387903)∧Gj r.op∧(-1125899906842624<=r.resp∧r.resp<=1125899906842624):=by
 unfold Q1;constructor
 ·rintro⟨h1,h2,h3,h4,h5,h6,h7,h8,h9⟩
  exact⟨⟨h2,by omega⟩,⟨h6,h7⟩,⟨h4,by omega⟩,h1,h8,h9⟩
 ·rintro⟨⟨h2,h3⟩,⟨h6,h7⟩,⟨h4,h5⟩,h1,h8,h9⟩
  exact⟨h1,h2,by omega,h4,by omega,h6,h7,h8,h9⟩
theorem Ziu (r:Rec) (w:World):
 Calls prog 41 #[ZsI r] w fun e w'=>e=.returned (.bool (decide (Q1 r)))∧Below w.heap.size w w':=by
 obtain⟨B,z⟩:=zg7 (decide (Q1 r));rw[<-z];have f:=ZZ (ZpO r);have G:=ZZ (fun W=>ZlX r.op W)
 have g:=ZZ z;clear z;obtain⟨idx,proc,seq,⟨D,a,b⟩,resp⟩:=r;show Calls prog _ #[.agg #[.int .i64 idx,.int .i64 proc,.int .i64 seq,.int .i64 D,.int .i64 a,.int .i64 b,.int .i64 resp]] w _;have l:Hid (∀ X,Below w.heap.size w (w.alloc X)):=fun X=>(zac _ _).alloc zL X
 have F:Hid (∀ cs,Br (w.alloc (.cells cs 62)) w.heap.size cs):=fun cs=>zak w _
 have q:Hid (∀ W,Calls prog 80 #[.agg #[.int .i64 D,.int .i64 a,.int .i64 b]] W fun e w'=>e=.returned (.bool (decide (Gj ⟨D,a,b⟩)))∧Below W.heap.size W w'):=G.o
 clear G;have c:=ZZ (fun n a b B z W=>Zzu n a b B z W)
 by_cases k:0<=idx∧idx<=4611686018427387903
 case neg=>
  have i:Hid (false=B):=ZZ (by rw[g.o,zai fun h=>k (f.o.1 h).1])
  have I:=ZZ (zai k).symm;clear g f k q
  go_enter func41,ntmps41
  go_wp2_with fail
  refine(c.o _ _ _ _ I.o _).mono ?_;rintro e d ⟨rfl,rfl⟩;go_wp2;go_ret;exact⟨Y9 i.o,l.o _⟩
 have x:=ZZ (zan k).symm;by_cases m:0<=proc∧proc<=64
 case neg=>
  have i:Hid (false=B):=ZZ (by rw[g.o,zai fun h=>m (f.o.1 h).2.1])
  have u:=ZZ (zai m).symm;clear g f k m q
  go_enter func41,ntmps41
  go_wp2_with fail
  refine(c.o _ _ _ _ x.o _).mono ?_;rintro e d ⟨rfl,rfl⟩
  go_wp2_with fail
  refine(c.o _ _ _ _ u.o _).mono ?_;rintro e d ⟨rfl,rfl⟩;go_wp2;go_ret;exact⟨Y9 i.o,l.o _⟩
 have u:=ZZ (zan m).symm;by_cases p:0<=seq∧seq<=4611686018427387903
 case neg=>
  have i:Hid (false=B):=ZZ (by rw[g.o,zai fun h=>p (f.o.1 h).2.2.1])
  have A:=ZZ (zai p).symm;clear g f k m p q
  go_enter func41,ntmps41
  go_wp2_with fail
  refine(c.o _ _ _ _ x.o _).mono ?_;rintro e d ⟨rfl,rfl⟩
  go_wp2_with fail
  refine(c.o _ _ _ _ u.o _).mono ?_;rintro e d ⟨rfl,rfl⟩
  go_wp2_with fail
  refine(c.o _ _ _ _ A.o _).mono ?_;rintro e d ⟨rfl,rfl⟩;go_wp2;go_ret;exact⟨Y9 i.o,l.o _⟩
 have A:=ZZ (zan p).symm;by_cases t:Gj ⟨D,a,b⟩
 case neg=>
  have i:Hid (false=B):=ZZ (by rw[g.o,zai fun h=>t (f.o.1 h).2.2.2.1])
  rw[zai t] at q;clear g f k m p t
  go_enter func41,ntmps41
  go_wp2_with fail
  refine(c.o _ _ _ _ x.o _).mono ?_;rintro e d ⟨rfl,rfl⟩
  go_wp2_with fail
  refine(c.o _ _ _ _ u.o _).mono ?_;rintro e d ⟨rfl,rfl⟩
  go_wp2_with fail
  refine(c.o _ _ _ _ A.o _).mono ?_;rintro e d ⟨rfl,rfl⟩
  go_wp2_with fail
  refine(q.o _).mono ?_;rintro e H ⟨rfl,j⟩;have C:=ZZ ((l.o _).trans (j.mono (l.o _).size));clear j;go_wp2;go_ret;exact⟨Y9 i.o,C.o⟩
 rw[zan t] at q;by_cases v:-1125899906842624<=resp∧resp<=1125899906842624
 case neg=>
  have i:Hid (false=B):=ZZ (by rw[g.o,zai fun h=>v (f.o.1 h).2.2.2.2])
  have E:=ZZ (zai v).symm;clear g f k m p t v
  go_enter func41,ntmps41
  go_wp2_with fail
  refine(c.o _ _ _ _ x.o _).mono ?_;rintro e d ⟨rfl,rfl⟩
  go_wp2_with fail
  refine(c.o _ _ _ _ u.o _).mono ?_;rintro e d ⟨rfl,rfl⟩
  go_wp2_with fail
  refine(c.o _ _ _ _ A.o _).mono ?_;rintro e d ⟨rfl,rfl⟩
  go_wp2_with fail
  refine(q.o _).mono ?_;rintro e H ⟨rfl,j⟩;have y:=(F.out _).below j zL;have C:=ZZ ((l.o _).trans (j.mono (l.o _).size));obtain⟨K,-⟩:=y.cell 6;clear j y
  go_wp2_with fail
  refine(c.o _ _ _ _ E.o _).mono ?_;rintro e J ⟨rfl,rfl⟩;go_wp2;go_ret;exact⟨Y9 i.o,C.o⟩
 have i:Hid (true=B):=ZZ (by rw[g.o,zan (f.o.2 ⟨k,m,p,t,v⟩)])
 have E:=ZZ (zan v).symm;clear g f k m p t v
 go_enter func41,ntmps41
 go_wp2_with fail
 refine(c.o _ _ _ _ x.o _).mono ?_;rintro e d ⟨rfl,rfl⟩
 go_wp2_with fail
 refine(c.o _ _ _ _ u.o _).mono ?_;rintro e d ⟨rfl,rfl⟩
 go_wp2_with fail
 refine(c.o _ _ _ _ A.o _).mono ?_;rintro e d ⟨rfl,rfl⟩
 go_wp2_with fail
 refine(q.o _).mono ?_;rintro e H ⟨rfl,j⟩;have y:=(F.out _).below j zL;have C:=ZZ ((l.o _).trans (j.mono (l.o _).size));obtain⟨K,-⟩:=y.cell 6;clear j y
 go_wp2_with fail
 refine(c.o _ _ _ _ E.o _).mono ?_;rintro e J ⟨rfl,rfl⟩;go_wp2;go_ret;exact⟨Y9 i.o,C.o⟩
def Ziv (w:World) (vl0 vt0:Value) (l:List Rec) (r:Q0 × Int) (e:Ending) (w':World):Prop:=
 ∃ vl vt,e=.returned (.tuple #[.agg #[.int .i64 r.1.idx,.int .i64 r.1.st.kind,vl,.bool r.1.st.shut,.int .i64 r.1.st.eng,vt],.int .i64 r.2])∧RdI w' vl r.1.st.L∧I64 r.1.st.kind∧I64 r.1.st.eng∧RdE w' vt r.1.tab∧I64 r.1.idx∧
  (vl=vl0∨∀ b,vl.ownBlock=some b->w.heap.size<=b)∧((l=[]∧vt=vt0)∨Xp w' w.heap.size vt r.1.tab)∧Below w.heap.size w w'
def ZnL (w:World) (S:Q0) (wr:World):Prop:=
 ∃ la lc ta tc,Bn wr w.heap.size #[.int .i64 S.idx,.int .i64 S.st.kind,.slice la S.st.L.length lc,.bool S.st.shut,.int .i64 S.st.eng,.slice ta S.tab.length tc]∧
  Bn wr (w.heap.size+1) #[.int .i64 0,.int .i64 0,.slice none 0 0,.bool false,.int .i64 0,.slice none 0 0]∧
  RdI wr (.slice la S.st.L.length lc) S.st.L∧(∀ b,(Value.slice la S.st.L.length lc).ownBlock=some b->w.heap.size+2<=b)∧
  Xp wr (w.heap.size+2) (.slice ta S.tab.length tc) S.tab∧(∀ e ∈ S.tab,ZlO e)∧I64 S.idx∧I64 S.st.kind∧I64 S.st.eng∧Below w.heap.size w wr
theorem Qt.freshI {l:List Int} (h:Qt w B v l):∀ b,v.ownBlock=some b->B<=b:=fun b a=>(zaz h b a).1
theorem Xp.butN {l:List Ent} (h:Xp w B v l) (j:But R T w w') (e:∀ b,v.ownBlock=some b->b≠R∧b≠T):Xp w' B v l:=by
 rcases h.row with ⟨rfl,rfl⟩ | ⟨g,cap,cur,rfl,c,k,i,f,m,a,d⟩
 ·exact Xp.nil _ _
 ·have:=e g rfl
  exact Xp.ofRow rfl c ((j.block g k this.1 this.2).trans i) f m a d
theorem Xp.but {l:List Ent} (h:Xp w B v l) (a:But R T w w') (d:R<B) (c:T<B):Xp w' B v l:=
 h.butN a (fun b a=>by have:=h.fresh b a;omega)
theorem Ziw {L:List Int} {g:Option Addr}
 (l:Bn W w.heap.size #[.int .i64 idx,.int .i64 kind,x,.bool m,.int .i64 i,v]) (B:Bn W (w.heap.size+1) #[.int .i64 0,.int .i64 0,.slice none 0 0,.bool false,.int .i64 0,.slice none 0 0])
 (k:Qt W (w.heap.size+2) (.slice f L.length d) L) (y:∀ n ∈ L,I64 n) (q:Xp W (w.heap.size+2) (.slice g a.length c) a) (p:∀ e ∈ a,ZlO e) (z:I64 idx) (t:I64 kind) (u:I64 i) (A:Below w.heap.size w W):
 ZnL w ⟨idx,⟨kind,L,m,i⟩,a⟩ ((W.setCell ⟨w.heap.size,2,none⟩ (.slice f L.length d)).setCell ⟨w.heap.size,5,none⟩ (.slice g a.length c)):=by
 have j:But w.heap.size w.heap.size W ((W.setCell ⟨w.heap.size,2,none⟩ (.slice f L.length d)).setCell ⟨w.heap.size,5,none⟩ (.slice g a.length c)):=((But.refl _ _ _).set _ _ (.inl rfl) _).set _ _ (.inl rfl) _;refine⟨f,d,g,c,(l.set 2 _).set 5 _,(B.other 2 _ (by omega)).other 5 _ (by omega),(k.rd y).but j (.inr fun b h=>?_),k.freshI,q.but j (by omega) (by omega),p,z,t,u,Zaf A j (by have:=l.lt;omega) zL zL⟩
 have:=k.freshI b h;omega
theorem Zvq (o:Opn) (h:s.L.length<=1000):(Zl s o).1.L.length<=1000:=by
 by_cases a:Ym s
 ·have:=(ZeB (ZeD a o)).2.1
  omega
 ·rw[ZhU a]
  exact h
theorem ZsP {s:Q0} {l:List Rec} {q:Nat} (a:q<l.length):Q4 s (l.drop q)=if(l.getD q Qj).idx≠s.idx then(Yf,15) else if ¬ Q1 (l.getD q Qj) then(Yf,1) else Q4 (ZgS s (l.getD q Qj)) (l.drop (q+1)):=by
 have e:l.drop q=l.getD q Qj::l.drop (q+1):=by
  rw[zd0 a];simp[List.getD,a]
 rw[e,Q4]
def ZfW (W:World) (R Q:Nat) (k:Int) (v:Value) (sh:Bool) (g n:Int):World:=
 ((((W.setCell ⟨R,1,none⟩ (.int .i64 k)).setCell ⟨R,2,none⟩ v).setCell ⟨R,3,none⟩ (.bool sh)).setCell ⟨R,4,none⟩ (.int .i64 g)).setCell ⟨Q,6,none⟩ (.int .i64 n)
theorem Br.other {b:Nat} {cs:Array Value} (h:Br w b cs) (j:Nat) (x:Value) (a:b≠c):Br (w.setCell ⟨c,j,none⟩ x) b cs:=(zat _ _ _ _ a).trans h
theorem ZpP (W:World) (R Q:Nat) (k:Int) (v:Value) (a:Bool) (g n:Int):But R Q W (ZfW W R Q k v a g n):=
 (((((But.refl R Q W).set _ _ (.inl rfl) _).set _ _ (.inl rfl) _).set _ _ (.inl rfl) _).set _ _ (.inl rfl) _).set _ _ (.inr rfl) _
theorem ZsQ (f:R≠Q) {c e j d i b:Value} (h:Bn W R #[c,e,j,d,i,b]) (k:Int) (v:Value) (a:Bool) (g n:Int):Bn (ZfW W R Q k v a g n) R #[c,.int .i64 k,v,.bool a,.int .i64 g,b]:=
 ((((h.set 1 _).set 2 _).set 3 _).set 4 _).other 6 _ f
theorem ZsR (a:Q≠R) {d e i c f b l:Value} (h:Br W Q #[d,e,i,c,f,b,l]) (k:Int) (v:Value) (j:Bool) (g n:Int):Br (ZfW W R Q k v j g n) Q #[d,e,i,c,f,b,.int .i64 n]:=
 ((((h.other 1 _ a).other 2 _ a).other 3 _ a).other 4 _ a).set 6 _
theorem ZpQ {C:Nat} (a:C≠R) (c:C≠Q) {cs:Array Value} (h:Bn W C cs) (k:Int) (v:Value) (b:Bool) (g n:Int):Bn (ZfW W R Q k v b g n) C cs:=
 ((((h.other 1 _ a).other 2 _ a).other 3 _ a).other 4 _ a).other 6 _ c
theorem ZpR {u:Value} {L:List Int} {g:Option Addr}
 (k:Bn W w.heap.size #[.int .i64 idx,.int .i64 kind,.slice f L.length d,.bool m,.int .i64 i,u]) (y:Bn W (w.heap.size+1) #[.int .i64 0,.int .i64 0,.slice none 0 0,.bool false,.int .i64 0,.slice none 0 0])
 (z:RdI W (.slice f L.length d) L) (l:∀ b,(Value.slice f L.length d).ownBlock=some b->w.heap.size+2<=b) (p:Xp W (w.heap.size+2) (.slice g a.length c) a) (n:∀ e ∈ a,ZlO e) (v:I64 (idx+1)) (q:I64 kind) (t:I64 i) (x:Below w.heap.size w W):
 ZnL w ⟨idx+1,⟨kind,L,m,i⟩,a⟩ ((W.setCell ⟨w.heap.size,5,none⟩ (.slice g a.length c)).setCell ⟨w.heap.size,0,none⟩ (.int .i64 (idx+1))):=by
 have j:But w.heap.size w.heap.size W ((W.setCell ⟨w.heap.size,5,none⟩ (.slice g a.length c)).setCell ⟨w.heap.size,0,none⟩ (.int .i64 (idx+1))):=((But.refl _ _ _).set _ _ (.inl rfl) _).set _ _ (.inl rfl) _;refine⟨f,d,g,c,(k.set 5 _).set 0 _,(y.other 5 _ (by omega)).other 0 _ (by omega),z.but j (.inr fun b h=>?_),l,p.but j (by omega) (by omega),n,v,q,t,Zaf x j (by have:=k.lt;omega) zL zL⟩
 have:=l b h;omega
theorem Ziv.zero (c d:Value) (l:List Rec) (n:Int) (a:Below w.heap.size w w'):Ziv w c d l (Yf,n) (.returned (.tuple #[.agg #[.int .i64 0,.int .i64 0,.slice none 0 0,.bool false,.int .i64 0,.slice none 0 0],.int .i64 n])) w':=
 ⟨_,_,rfl,RdI.nil _,(Qo (by decide) (by decide):I64 0),(Qo (by decide) (by decide):I64 0),RdE.nil _,(Qo (by decide) (by decide):I64 0),.inr (fun b a=>by simp[Value.ownBlock] at a),.inr (Xp.nil _ _),a⟩
theorem ZnM {P:Q0->Prop} (bm:∀ S r,P S->Q1 r->P (ZgS S r)) (bo:∀ S,P S->S.tab.length<=1500) (idx kind:Int) (vl:Value) (E:Bool) (H:Int) (vt:Value) (s:Q0) (vr:Value) (l:List Rec) (w:World) (hs:SnV w (.agg #[.int .i64 idx,.int .i64 kind,vl,.bool E,.int .i64 H,vt]) s) (hr:RdR w vr l) (be:s.st.L.length<=1000) (bU:s.tab.length<=1000) (b2:l.length<=1000000000) (aV:P s):
 Calls prog 15 #[.agg #[.int .i64 idx,.int .i64 kind,vl,.bool E,.int .i64 H,vt],vr] w fun e w'=>Ziv w vl vt l (Q4 s l) e w':=by
 obtain⟨vl',bX,U,hl,hk,A,ht,hi⟩:=hs
 injection U with U
 injection U with U
 simp only [ze0,Value.int.injEq,Value.bool.injEq,ze7,zgg] at U;obtain⟨rfl,rfl,rfl,rfl,rfl,rfl⟩:=U;obtain⟨la,lc,bP,-⟩:=id hl;obtain⟨ta,tc,bQ⟩:=ht.shape;subst bP bQ;obtain⟨ra,rc,rfl,bN,br,-,bj,aR⟩:=hr;have bv:=ZZ bm;have bw:=ZZ bo;clear bm bo;have bd:=ZZ aR;have a3:=ZZ bj;obtain⟨idx,⟨kind,L,E,H⟩,aa⟩:=s
 dsimp only at *
 have a7:=ZZ aV;clear aV;obtain⟨J,aD⟩:=zg7 (Q4 ⟨idx,⟨kind,L,E,H⟩,aa⟩ l);rw[<-aD];have a9:=ZZ aD;have bc:Hid (∀ (S:Q0) (q:Nat),q<l.length->Q4 S (l.drop q)=if(l.getD q Qj).idx≠S.idx then(Yf,15) else if ¬ Q1 (l.getD q Qj) then(Yf,1) else Q4 (ZgS S (l.getD q Qj)) (l.drop (q+1))):=ZZ (fun S q hq=>ZsP hq)
 clear aD aR bj bN br;have aY:=ZZ (fun W (h:Below w.heap.size w W)=>ZfQ _ L W (hl.below h zL) (by omega))
 have aZ:=ZZ (fun W (h:Below w.heap.size w W)=>ZfR _ aa W (ht.below h zL) (by omega))
 have aI:=ZZ hl.i64;have aU:∀ e ∈ aa,ZlO e:=ht.choose_spec.choose_spec.2.2.2.2.1;have ba:=ZZ aU;have p:Hid (∀ X Y,Below w.heap.size w ((w.alloc X).alloc Y)):=fun X Y=>((zac _ _).alloc zL X).alloc (by simp) Y
 have R:Hid (∀ cs ds,Bn ((w.alloc (.cells cs 41)).alloc (.cells ds 41)) w.heap.size cs):=fun cs ds=>(zav _ _ _ (by simp)).trans (zak w _)
 have j:Hid (∀ cs ds,Bn ((w.alloc (.cells cs 41)).alloc (.cells ds 41)) (w.heap.size+1) ds):=fun cs ds=>Zeb w _ _
 clear hl ht aU
 go_enter func15,ntmps15
 go_upto_region 1 with fail
 obtain⟨d,f⟩:=zg7 ((w.alloc (.cells #[.int .i64 idx,.int .i64 kind,.slice la L.length lc,.bool E,.int .i64 H,.slice ta aa.length tc] 41)).alloc (.cells #[.int .i64 0,.int .i64 0,.slice none 0 0,.bool false,.int .i64 0,.slice none 0 0] 41));have M:Hid (Below w.heap.size w d):=ZZ (by rw[f];exact p.o _ _)
 have D:Hid (Bn d w.heap.size #[.int .i64 idx,.int .i64 kind,.slice la L.length lc,.bool E,.int .i64 H,.slice ta aa.length tc]):=ZZ (by rw[f];exact R.o _ _)
 have bp:Hid (Bn d (w.heap.size+1) #[.int .i64 0,.int .i64 0,.slice none 0 0,.bool false,.int .i64 0,.slice none 0 0]):=ZZ (by rw[f];exact j.o _ _)
 have bO:d.heap.size=w.heap.size+2:=by rw[f];simp
 rw[<-f];clear f p R j;obtain⟨p2,g2⟩:=D.o.cell 2;obtain⟨p5,g5⟩:=D.o.cell 5
 go_cut[] (fun wc=>Hid (ZnL w ⟨idx,⟨kind,L,E,H⟩,aa⟩ wc))
 case first=>
  go_region_with
   (first
    | (go_at_call 39;refine(aY.o _ (by first | exact M.o.drew | exact M.o)).mono ?_;rintro e W1 ⟨v1,rfl,aJ,i⟩;have ap:Below d.heap.size d W1:=(by first | exact((zac _ _).drew).trans i | exact i);have bz:=ZZ aJ;have I:=ZZ ap;obtain⟨a1,c1,bu⟩:∃ a c,v1=.slice a L.length c:=(by obtain⟨a,c,h,-⟩:=aJ.rd aI.o;exact⟨a,c,h⟩);subst bu;obtain⟨q2,k2⟩:=(D.o.below ap zL).cell 2;obtain⟨q5,k5⟩:=(D.o.below ap zL).cell 5;clear aJ i ap)
    | (go_at_call 40;refine(aZ.o _ (M.o.trans (I.o.mono M.o.size))).mono ?_;rintro e W2 ⟨v2,rfl,az,m⟩;have bF:=ZZ az;have al:=ZZ (I.o.trans (m.mono I.o.size));have bH:=ZZ (bz.o.below m zL);obtain⟨a2,c2,aH⟩:=az.shape;subst aH;obtain⟨r2,j2⟩:=(D.o.below al.o zL).cell 2;obtain⟨r5,j5⟩:=(D.o.below al.o zL).cell 5;clear az m))
  all_goals
   go_wp2_with fail
   go_meet
   exact ZZ (Ziw (D.o.below al.o zL) (bp.o.below al.o zL) (bH.o.mono (by first | omega | (show w.heap.size+2<=d.heap.size;omega))) aI.o (bF.o.mono (by have:=I.o.size;omega)) ba.o hi hk A (M.o.trans (al.o.mono M.o.size)))
 case rest=>
  have a0:=hcut;clear hcut M D bp bO p2 g2 p5 g5 aY aZ aI ba d hk A hi;go_wp2
  go_loopw[20] (fun vi wr=>∃ (q:Nat) (S:Q0),vi=.int .i64 (q:Int)∧q<=l.length∧Hid (ZnL w S wr)∧Hid (J=Q4 S (l.drop q))∧Hid (S.st.L.length<=1000)∧Hid (P S)) (fun vi _=>l.length-(intOf vi).toNat)
  case atStart=>exact⟨0,_,rfl,zap _,a0,a9,ZZ be,a7⟩
  case round=>
   clear a0 a9 be bU a7;obtain⟨q,S,rfl,hq,hT,au,a8,aS⟩:=hrel;obtain⟨sa,sc,ea,ec,C,t,hL,bn,hE,bg,hi,hk,A,hB⟩:=hT.out;clear hT;have HX:=ZZ C;have HY:=ZZ t;have HL:=ZZ hL;have aq:=ZZ bn;have HE:=ZZ hE;have aM:=ZZ bg;have aj:=ZZ (And.intro hi (And.intro hk A));have HB:=ZZ hB;have bq:=ZZ t.lt;obtain⟨p0,g0⟩:=C.cell 0;obtain⟨p1,g1⟩:=C.cell 1;obtain⟨p2,g2⟩:=C.cell 2;obtain⟨p3,g3⟩:=C.cell 3;obtain⟨p4,g4⟩:=C.cell 4;obtain⟨p5,g5⟩:=C.cell 5;obtain⟨z0,y0⟩:=t.cell 0;obtain⟨Z,y1⟩:=t.cell 1;obtain⟨z2,y2⟩:=t.cell 2;obtain⟨V,y3⟩:=t.cell 3;obtain⟨T,y4⟩:=t.cell 4;obtain⟨Q,y5⟩:=t.cell 5;clear C t hL bn hE bg hi hk A hB;by_cases F:q<l.length
   case neg=>
    obtain rfl:q=l.length:=by omega
    have O:Hid (J=(S,0)):=ZZ (by rw[au.out,ze9];rfl)
    clear au;have bY:¬ (w.heap.size=w.heap.size+1):=by omega
    go_wp2;refine zax (v:=.tuple #[.agg #[.int .i64 S.idx,.int .i64 S.st.kind,.slice sa S.st.L.length sc,.bool S.st.shut,.int .i64 S.st.eng,.slice ea S.tab.length ec],.int .i64 0]) (by simp[results,Tryz.results15,go_sem,z0,Z,z2,V,T,Q]) rfl ?_
    rw[O.o];have aK:=ZnG wr (w.heap.size+1) (.int .i64 S.idx) (.int .i64 S.st.kind) (.slice sa S.st.L.length sc) (.bool S.st.shut) (.int .i64 S.st.eng) (.slice ea S.tab.length ec);exact⟨_,_,rfl,HL.o.but aK (.inr fun b h=>by have:=aq.o b h;omega),aj.o.2.1,aj.o.2.2,(HE.o.rd aM.o).but aK (.inr fun b h=>by have:=HE.o.fresh b h;omega),aj.o.1,.inr (fun b h=>by have:=aq.o b h;omega),.inr ((HE.o.but aK (by omega) (by omega)).mono (by omega)),Zdk HB.o _ (by omega) _ _ _ _ _ _⟩
   have b1:(q:Int)<(l.length:Int):=by omega
   rcases bd.o with h0 | ⟨c,b0,rfl,hc⟩
   ·rw[h0] at F;simp at F
   obtain⟨c0,c1,c2,c3,c4,c5,c6⟩:=(hc q F).keep (HB.o.block c (hc q F).lt);have B:=ZZ (bc.o S q F);rw[<-au.out] at B;have af:=ZZ (fun W=>Ziu (l.getD q Qj) W)
   have K:Hid (ZcJ (l.getD q Qj)):=ZZ (a3.o _ (by rw[show l.getD q Qj=l[q] by simp[List.getD,F]];exact zcp F))
   obtain⟨r,hr⟩:=zg7 (l.getD q Qj);rw[<-hr] at B af K c0 c1 c2 c3 c4 c5 c6;clear hr hc bc bd a3 au;obtain⟨bf,aC⟩:=zg7 (decide (Q1 r));rw[<-aC] at af;have ax:=ZZ aC;clear aC;have b4:=bq.o;clear p0 p1 p2 p3 p4 p5 g0 g1 g2 g3 g4 g5 z0 Z z2 V T Q y0 y1 y2 y3 y4 y5
   go_upto_region 5 with fail
   obtain⟨d,f⟩:=zg7 (wr.alloc (.cells (Jg r) 62));have p:Hid (Below wr.heap.size wr d):=ZZ (by rw[f];exact(zac _ _).alloc zL _)
   have g:Hid (Br d wr.heap.size (Jg r)):=ZZ (by rw[f];exact zak wr _)
   unfold Jg at f;rw[<-f];clear f c0 c1 c2 c3 c4 c5 c6;unfold Jg at g;unfold ZsI at af;obtain⟨k,av⟩:=zg7 wr.heap.size;have R:=ZZ (HX.o.below p.o zL);have j:=ZZ (HY.o.below p.o zL);have ar:=ZZ (HB.o.trans (p.o.mono HB.o.size));rw[<-av] at g ⊢;obtain⟨p0,g0⟩:=R.o.cell 0;obtain⟨k0,-⟩:=g.o.cell 0;obtain⟨k1,-⟩:=g.o.cell 1;obtain⟨k2,-⟩:=g.o.cell 2;obtain⟨k3,-⟩:=g.o.cell 3;obtain⟨k4,-⟩:=g.o.cell 4;obtain⟨k5,-⟩:=g.o.cell 5;obtain⟨k6,-⟩:=g.o.cell 6;by_cases ad:r.idx=S.idx
   case neg=>
    have O:Hid (J=(Yf,15)):=ZZ (by rw[B.o,zab ad])
    have bM:(r.idx != S.idx)=true:=by rw[zbq];exact ad
    obtain⟨z0,y0⟩:=j.o.cell 0;obtain⟨Z,y1⟩:=j.o.cell 1;obtain⟨z2,y2⟩:=j.o.cell 2;obtain⟨V,y3⟩:=j.o.cell 3;obtain⟨T,y4⟩:=j.o.cell 4;obtain⟨Q,y5⟩:=j.o.cell 5;clear ad B av;go_wp2;refine zax (v:=.tuple #[.agg #[.int .i64 0,.int .i64 0,.slice none 0 0,.bool false,.int .i64 0,.slice none 0 0],.int .i64 15]) (by simp[results,Tryz.results15,go_sem,z0,Z,z2,V,T,Q]) rfl ?_
    rw[O.o];exact Ziv.zero _ _ _ _ (Zbf ar.o _ (by omega) _ _ _ _ _ _)
   have bM:(r.idx != S.idx)=false:=by rw[zby];exact ad
   have aB:=ZZ ad;have ag:=ZZ av;clear ad av
   go_wp2_with fail
   refine(af.o _).mono ?_;rintro x W1 ⟨rfl,i⟩;have I:=ZZ (p.o.trans (i.mono p.o.size));have aG:=ZZ (ar.o.trans (i.mono ar.o.size));have ai:=ZZ (R.o.below i zL);have u:=ZZ (j.o.below i zL);have ae:=ZZ (g.o.below i zL);clear i p ar R j g af p0 g0 k0 k1 k2 k3 k4 k5 k6
   cases bf with
   | false=>
    have O:Hid (J=(Yf,1)):=ZZ (by rw[B.o,zaa (by rw[aB.o];simp),zab (zdy ax.o.symm)])
    obtain⟨z0,y0⟩:=u.o.cell 0;obtain⟨Z,y1⟩:=u.o.cell 1;obtain⟨z2,y2⟩:=u.o.cell 2;obtain⟨V,y3⟩:=u.o.cell 3;obtain⟨T,y4⟩:=u.o.cell 4;obtain⟨Q,y5⟩:=u.o.cell 5;clear B;go_wp2;refine zax (v:=.tuple #[.agg #[.int .i64 0,.int .i64 0,.slice none 0 0,.bool false,.int .i64 0,.slice none 0 0],.int .i64 1]) (by simp[results,Tryz.results15,go_sem,z0,Z,z2,V,T,Q]) rfl ?_
    rw[O.o];exact Ziv.zero _ _ _ _ (Zbf aG.o _ (by omega) _ _ _ _ _ _)
   | true=>
    have aE:Hid (Q1 r):=ZZ (zcm ax.o.symm);have O:Hid (J=Q4 (ZgS S r) (l.drop (q+1))):=ZZ (by rw[B.o,zaa (by rw[aB.o];simp),zaa (fun h=>h aE.o)])
    have z:=ZZ (ZxF (.agg #[.int .i64 S.st.kind,.slice sa S.st.L.length sc,.bool S.st.shut,.int .i64 S.st.eng]) S.st r.op W1 ⟨_,rfl,HL.o.below I.o zL,aj.o.2.1,aj.o.2.2⟩ (by have:=a8.out;omega))
    rw[ZqV] at z;have aO:=ZZ (Zvq r.op a8.out);have ao:=ZZ (ZsO S.st r.op);have am:Hid (ZgS S r=⟨S.idx+1,(Zl S.st r.op).1,Zcx S.tab ⟨r.proc,r.seq,(Zl S.st r.op).2⟩⟩):=ZZ rfl;have aW:=ZZ (ZuF S.tab ⟨r.proc,r.seq,(Zl S.st r.op).2⟩);obtain⟨so,bb⟩:=zg7 (Zl S.st r.op);rw[<-bb] at z aO ao am aW;clear bb B ax;obtain⟨⟨k',L',sh',g'⟩,n'⟩:=so
    dsimp only at z aO ao am aW
    unfold opV at z;unfold ZfB at z
    dsimp only at z
    obtain⟨p1,g1⟩:=ai.o.cell 1;obtain⟨p2,g2⟩:=ai.o.cell 2;obtain⟨p3,g3⟩:=ai.o.cell 3;obtain⟨p4,g4⟩:=ai.o.cell 4;obtain⟨k3,-⟩:=ae.o.cell 3;obtain⟨k4,-⟩:=ae.o.cell 4;obtain⟨k5,-⟩:=ae.o.cell 5
    go_wp2_with fail
    refine z.o.mono ?_;rintro x W2 ⟨v2,rfl,aL,aX,aT,aP,m⟩;clear z p1 g1 p2 g2 p3 g3 p4 g4 k3 k4 k5;have ac:=ZZ (ai.o.below m zL);have bG:=ZZ (u.o.below m zL);have y:=ZZ (ae.o.below m zL);have a6:=ZZ (aG.o.trans (m.mono aG.o.size));have bt:=ZZ ((HE.o.below I.o zL).below m zL);obtain⟨a2,n2,aH⟩:∃ a c,v2=.slice a L'.length c:=by obtain⟨a,c,h,-⟩:=aL;exact⟨a,c,h⟩
    subst aH;have b5:k<W1.heap.size:=ae.o.lt
    have bC:Hid (L'=[]∨∀ b,(Value.slice a2 L'.length n2).ownBlock=some b->b≠w.heap.size∧b≠k):=ZZ (by
     rcases aP with ⟨N,h2⟩ | h
     ·rw[N,h2]
      rcases HL.o.old with h3 | h3
      ·exact .inl h3
      ·exact .inr fun b n=>by
        have h4:=h3 b n;have h5:=aq.o b n;have h6:=ag.o;omega
     ·exact .inr fun b n=>by
       have h4:=h b n;have h5:=u.o.lt
       omega)
    have bE:Hid (∀ b,(Value.slice a2 L'.length n2).ownBlock=some b->w.heap.size+2<=b):=ZZ (fun b n=>by
     rcases aP with ⟨N,h2⟩ | h
     ·rw[N] at n
      exact aq.o b n
     ·have h4:=h b n
      have h5:=u.o.lt
      omega)
    have bK:Hid (∀ b,(Value.slice ea S.tab.length ec).ownBlock=some b->b≠w.heap.size∧b≠k):=ZZ (fun b n=>by
     have N:=zaz HE.o b n;have h2:=ag.o
     omega)
    have aQ:w.heap.size≠k:=by have:=ag.o;omega
    have bT:k≠w.heap.size:=fun h=>aQ h.symm
    have bA:w.heap.size+1≠k:=by have:=ag.o;omega
    have bB:=ZZ aL;have bi:=ZZ (And.intro aX aT);clear aL aX aT aP m;obtain⟨G,ab⟩:=zg7 (ZfW W2 w.heap.size k k' (.slice a2 L'.length n2) sh' g' n');have bR:Hid (Bn G w.heap.size #[.int .i64 S.idx,.int .i64 k',.slice a2 L'.length n2,.bool sh',.int .i64 g',.slice ea S.tab.length ec]):=ZZ (by rw[ab];exact ZsQ aQ ac.o _ _ _ _ _)
    have bZ:Hid (Br G k #[.int .i64 r.idx,.int .i64 r.proc,.int .i64 r.seq,.int .i64 r.op.code,.int .i64 r.op.a,.int .i64 r.op.b,.int .i64 n']):=ZZ (by rw[ab];exact ZsR bT y.o _ _ _ _ _)
    have a4:Hid (Bn G (w.heap.size+1) #[.int .i64 0,.int .i64 0,.slice none 0 0,.bool false,.int .i64 0,.slice none 0 0]):=ZZ (by rw[ab];exact ZpQ (by omega) bA bG.o _ _ _ _ _)
    have aF:Hid (But w.heap.size k W2 G):=ZZ (by rw[ab];exact ZpP _ _ _ _ _ _ _ _)
    have bL:=ZZ (bB.o.but aF.o bC.o);have bV:=ZZ (bt.o.butN aF.o bK.o);have bl:=ZZ (Zaf a6.o aF.o a6.o.size zL (by have:=ag.o;omega))
    have an:=ZZ (Zvj (.slice ea S.tab.length ec) S.tab ⟨r.idx,r.proc,r.seq,r.op,n'⟩ G (bV.o.rd aM.o) ⟨K.o.1,K.o.2.1,K.o.2.2.1,K.o.2.2.2.1,ao.o⟩ (by have:=bw.o _ aS.out;omega))
    unfold ZsI at an
    dsimp only at an
    have ay:=ab;unfold ZfW at ay;have s1:=(ac.o.cell 1);have s2:=(ac.o.cell 2);have s3:=(ac.o.cell 3);have s4:=(ac.o.cell 4);have s5:=(ac.o.cell 5);obtain⟨s1,u1⟩:=s1;obtain⟨s2,u2⟩:=s2;obtain⟨s3,u3⟩:=s3;obtain⟨s4,u4⟩:=s4;obtain⟨s5,u5⟩:=s5;obtain⟨t0,m0⟩:=y.o.cell 0;obtain⟨t1,m1⟩:=y.o.cell 1;obtain⟨t2,m2⟩:=y.o.cell 2;obtain⟨t3,m3⟩:=y.o.cell 3;obtain⟨t4,m4⟩:=y.o.cell 4;obtain⟨t5,m5⟩:=y.o.cell 5;obtain⟨t6,m6⟩:=y.o.cell 6;clear ab
    go_wp2_with fail
    rw[<-ay];refine an.o.mono ?_;rintro x W5 ⟨v5,rfl,aw,ak⟩;clear ay s1 s2 s3 s4 s5 u1 u2 u3 u4 u5 t0 t1 t2 t3 t4 t5 t6 m0 m1 m2 m3 m4 m5 m6 an;have aA:=ZZ (bR.o.below ak zL);have bS:=ZZ (a4.o.below ak zL);have bD:=ZZ (bL.o.below ak zL);have bW:=ZZ (bl.o.trans (ak.mono bl.o.size));have bJ:=ZZ (aw.mono (B':=w.heap.size+2) (by have:=a4.o.lt;omega))
    obtain⟨a5,c5,bI⟩:=aw.shape;subst bI
    have bx:Hid (∀ e ∈ Zcx S.tab ⟨r.proc,r.seq,n'⟩,ZlO e):=ZZ (fun e A=>by
     unfold Zcx at A;rcases(ZhQ _ _ _ _).1 A with ⟨-,h⟩ | ⟨h,-⟩
     ·rw[h]
      exact⟨K.o.2.1,K.o.2.2.1,ao.o⟩
     ·exact aM.o e h)
    have aN:Hid (I64 (S.idx+1)):=ZZ (by
     have N:=aE.o;unfold Q1 at N;have h2:=aB.o
     exact⟨by omega,by omega⟩)
    have b3:IntKind.i64.wrap (S.idx+1)=S.idx+1:=by
     have:=aN.o;rw[zbo];obtain⟨N,h2⟩:=this;omega
    obtain⟨p0,g0⟩:=aA.o.cell 0;obtain⟨p5,g5⟩:=aA.o.cell 5;clear aw ak;have bk:-9223372036854775808<=S.idx+1∧S.idx+1<=9223372036854775807:=aN.o;obtain⟨bk,i⟩:=bk;go_wp2;go_roundw
    case rel=>
     exact⟨q+1,ZgS S r,by go_num,by omega,ZZ (by rw[am.o];exact ZpR aA.o bS.o bD.o bE.o bJ.o bx.o aN.o bi.o.1 bi.o.2 bW.o),O,ZZ (by rw[am.o];exact aO.o),ZZ (bv.o _ _ aS.out aE.o)⟩
    case measure=>simp[intOf];omega
def RdL (w:World) (v:Value) (L:List (List UInt8)):Prop:=
 ∃ ao cap,v=.slice ao L.length cap∧L.length<=cap∧cap<=maxLen∧(ao=none->cap=0)∧
  (L=[]∨∃ b off,ao=some ⟨b,off,none⟩∧∀ j,j<L.length->∃ x,w.cell? ⟨b,off+j,none⟩=some x∧Rd w x (L.getD j []))
def Zix (w:World) (B:Nat) (v:Value) (L:List (List UInt8)):Prop:=
 ∃ xs:List Value,w.ownsRow B 53 1 v L.length xs∧∀ j,j<L.length->∃ x,xs[j]?=some x∧Own w B x (L.getD j [])
theorem RdL.nil (w:World):RdL w (.slice none 0 0) []:=⟨none,0,rfl,za0 _,zap _,fun _=>rfl,.inl rfl⟩
theorem Zix.nil (w:World) (B:Nat):Zix w B (.slice none 0 0) []:=⟨[],zck w B 53 1,fun j a=>by simp at a⟩
theorem RdL.below (h:RdL w v L) {B:Nat} (f:Below B w w') (e:w.heap.size<=B):RdL w' v L:=by
 obtain⟨ao,cap,m,u,q,i,a⟩:=h;refine⟨ao,cap,m,u,q,i,?_⟩;rcases a with a | ⟨b,c,k,n⟩
 ·exact .inl a
 ·refine .inr ⟨b,c,k,fun j g=>?_⟩
  obtain⟨x,d,l⟩:=n j g;have t:b<w.heap.size:=za1 w ⟨b,c+j,none⟩ d;refine⟨x,?_,l.below f e⟩;rw[f.cell (p:=⟨b,c+j,none⟩) (by exact zay t e)]
  exact d
theorem RdL.front (h:RdL w (.slice ao n cap) L) (k:Nat) (z:k<=L.length):RdL w (.slice ao k cap) (L.take k):=by
 obtain⟨u,y,c,A,t,q,a⟩:=h;simp only [zbb] at c;obtain⟨rfl,_,rfl⟩:=c;have d:(L.take k).length=k:=by simp;omega
 refine⟨ao,cap,by rw[d],by omega,t,q,?_⟩
 rcases a with a | ⟨b,m,g,p⟩
 ·exact .inl (by rw[a];simp)
 ·refine .inr ⟨b,m,g,fun j v=>?_⟩
  have l:j<k:=by omega
  obtain⟨x,f,i⟩:=p j (by omega)
  refine⟨x,f,?_⟩;have e:(L.take k).getD j []=L.getD j []:=by simp[List.getD,l]
  rw[e];exact i
theorem Zix.rd (h:Zix w B v L):RdL w v L:=by
 obtain⟨xs,c,m⟩:=h;rcases c.2 with ⟨a,b⟩ | ⟨g,cap,cur,a,t,n,f,i,q,p⟩
 ·exact⟨none,0,by rw[a,b],by omega,zap _,fun _=>rfl,.inl (zao b)⟩
 ·refine⟨some ⟨g,0,none⟩,cap,a,f,i,(fun e=>by cases e),.inr ⟨g,0,rfl,fun j d=>?_⟩⟩
  obtain⟨x,l,k⟩:=m j d;have:=zc4 c (g:=g) (by rw[a];rfl) j _ l
  rw[zbn] at this;exact⟨x,this,k.rd⟩
theorem Zix.mono (h:Zix w B v L) (f:B'<=B):Zix w B' v L:=by
 obtain⟨xs,⟨d,a⟩,e⟩:=h;refine⟨xs,⟨d,?_⟩,fun j b=>?_⟩
 ·rcases a with a | ⟨g,cap,cur,i,l,r⟩
  ·exact .inl a
  ·exact .inr ⟨g,cap,cur,i,by omega,r⟩
 ·obtain⟨x,k,c⟩:=e j b
  exact⟨x,k,c.mono f⟩
theorem Zix.below (h:Zix w B v L) (c:Below B' w w') (l:w.heap.size<=B'):Zix w' B v L:=by
 obtain⟨xs,⟨i,a⟩,k⟩:=h;refine⟨xs,⟨i,?_⟩,fun j d=>?_⟩
 ·rcases a with a | ⟨g,cap,cur,m,e,b,r⟩
  ·exact .inl a
  ·have p:g<w.heap.size:=(zar.1 b).1
   exact .inr ⟨g,cap,cur,m,e,by rw[c.block g (by omega)];exact b,r⟩
 ·obtain⟨x,n,f⟩:=k j d
  exact⟨x,n,f.below c l⟩
theorem ZkI:(prog.info? 53).map (fun i=>(i.zero,i.size,i.bytes))=some (some (.slice none 0 0),1,24):=by kernel_rfl
theorem ZnN {xs:List Value} (d:w.ownsRow B 53 1 v n xs) (k:Own w B' x l):x.ownBlock=none∨x.ownBlock≠v.ownBlock:=by
 rcases k.2 with ⟨b,_⟩ | ⟨g,cap,cur,b,_,a,_⟩
 ·exact .inl (by rw[b];rfl)
 ·right
  rcases d.2 with ⟨c,_⟩ | ⟨g',m,p,c,_,i,_⟩
  ·rw[b,c]
   exact fun e=>by cases e
  ·rw[b,c]
   intro e;have j:g=g':=by simpa[Value.ownBlock] using e
   rw[j,i] at a
   have f:(53:Nat)=5:=by
    injection a with a
    injection a
   exact absurd f (by decide)
theorem Ziy (w:World) (ty:TypeId) (B:Nat) (v:Value) (L:List (List UInt8)) (h:Zix w B v L) (x:Value) (d:List UInt8) (f:Own w B x d) (M:L.length<=1000000) (C:B<=w.heap.size):
 ∃ v' w',(Builtin.append_ #[144,144] ty #[v,.slice (some ⟨w.heap.size,0,none⟩) 1 1]).run prog (w.alloc (.cells #[x] 53))=.ok v' w'∧Zix w' B v' (L++[d])∧Below B w w':=by
 obtain⟨E,I,q,p,G⟩:=zbx ZkI;obtain⟨xs,b,H⟩:=h
 have K:x.oneCell'=true:=by
  rcases f.2 with ⟨n,_⟩ | ⟨g,cap,cur,n,_⟩ <;> rw[n] <;> rfl
 obtain⟨v',w',z,D,c,_⟩:=zdn (P:=prog) (w.alloc (.cells #[x] 53)) B 144 ty 53 E (.slice none 0 0) 1 24 underlying144 I q p G rfl (by decide) v L.length xs (b.alloc _)
  ⟨w.heap.size,0,none⟩ 1 1 [x] rfl (fun j u a=>by
   match j,a with
   | 0,a=>simp at a;subst a;simp[Addr.add]) (fun u i=>by simp at i;subst i;exact K) (by unfold maxLen;omega) (by omega) (by simp;omega)
 have J:xs.length=L.length:=by rw[b.1,zct]
 refine⟨v',w',z,⟨xs++[x],by rw[zdb];exact D,fun j a=>?_⟩,?_⟩
 ·by_cases m:j<L.length
  ·obtain⟨y,F,l⟩:=H j m
   refine⟨y,by rw[zbg (by omega)];exact F,?_⟩
   have e:(L++[d]).getD j []=L.getD j []:=by simp[List.getD,zbg m]
   rw[e];exact zfi (zb3 l _) c (ZnN b l)
  ·have t:j=L.length:=by simp at a;omega
   subst t;refine⟨x,by rw[zbs (by omega),J];simp,?_⟩
   have e:(L++[d]).getD L.length []=d:=by simp[List.getD]
   rw[e];exact zfi (zb3 f _) c (ZnN b f)
 ·exact((zac _ _).alloc C _).grown c (by simp;omega) (fun k A=>(zaz b k A).1)
theorem ZeR (w:World) {b:Array Oper} {rest:List Oper} {o:Oper} {a:Act} {Q:Exit->Act->World->Prop} (i:o.guard=none) (s x:Operand)
 (k:o.op=.call { callee:=.builtin .append,args:=#[s,x],argTypes:=#[144,144] })
 (B:Nat) (v:Value) (L:List (List UInt8)) (c:a.eval s=v) (m:Zix w B v L) (y:Value) (d:List UInt8) (p:a.eval x=.slice (some ⟨w.heap.size,0,none⟩) 1 1) (l:Own w B y d)
 (e:L.length<=1000000) (j:B<=w.heap.size)
 (h:∀ v' w',Zix w' B v' (L++[d])->Below B w w'->wpList prog b Q rest (a.put o.dst v') w'):wpList prog b Q (o::rest) a (w.alloc (.cells #[y] 53)):=
 zb0 i fun _ f=>by
  obtain⟨v',w',g,q,n⟩:=Ziy w o.type B v L m y d l e j;unfold Oper.wp execOp;simp only [k,resolve,invoke,builtin,zbt,zbv,zbe,zch,map_cons,map_nil,c,p,g];exact f _ _ (h v' w' q n)
theorem ZpS (a b:Nat) (e:a<4294967296) (f:b<4294967296):bits .xor .u32 (a:Int) (b:Int)=((a ^^^ b:Nat):Int):=by
 have g:a ^^^ b<2 ^ 32:=zec (by omega) (by omega)
 have d:(BitVec.ofInt 32 (a:Int)).toNat=a:=by
  rw[zd5,zeb];exact zdj (by omega)
 have c:(BitVec.ofInt 32 (b:Int)).toNat=b:=by
  rw[zd5,zeb];exact zdj (by omega)
 show IntKind.u32.wrap ((BitVec.ofInt 32 (a:Int) ^^^ BitVec.ofInt 32 (b:Int)).toNat:Int)=_;rw[zfx,d,c,IntKind.wrap_u32];omega
theorem ZAl (a b:Nat) (e:a<256) (f:b<256):bits .xor .u8 (a:Int) (b:Int)=((a ^^^ b:Nat):Int):=by
 have g:a ^^^ b<2 ^ 8:=zec (by omega) (by omega)
 have d:(BitVec.ofInt 8 (a:Int)).toNat=a:=by
  rw[zd5,zeb];exact zdj (by omega)
 have c:(BitVec.ofInt 8 (b:Int)).toNat=b:=by
  rw[zd5,zeb];exact zdj (by omega)
 show IntKind.u8.wrap ((BitVec.ofInt 8 (a:Int) ^^^ BitVec.ofInt 8 (b:Int)).toNat:Int)=_;rw[zfx,d,c,IntKind.wrap_u8];omega
theorem ZsS (k x:Nat):Gz (k+1) x=ZrX (Gz k x):=by
 rw[ZmS k 1];rfl
theorem Zvr (k:Nat) {x:Nat} (h:x<4294967296):Gz k x<4294967296:=by
 have:=ZlB k (za0 32) (by omega:x<2 ^ 32)
 omega
theorem ZpT (l:List UInt8) (x k:Nat) (h:k<l.length):Zbp x (l.take (k+1))=ZdQ (Zbp x (l.take k)) (l.getD k 0).toNat:=by
 rw[Zhz l k h,ZeC];rfl
theorem ZxG (x c:Nat) (a:c<256):(x ^^^ c) % 256=x % 256 ^^^ c:=by
 have h:=@Nat.xor_mod_two_pow x c 8;have e:c % 2 ^ 8=c:=zdj (by omega)
 rw[e] at h;exact h
theorem Zzv (x c:Nat) (a:c<256):x % 256 ^^^ c<256:=by
 have:x % 256 ^^^ c<2 ^ 8:=zec (by omega) (by omega)
 omega
theorem ZxH (c:Nat) (h:c<256):Zdu c<4294967296:=Zvr 8 (by omega)
theorem Zvs (s:Nat) (h:s<4294967296):bits .xor .u32 IntKind.u32.max (s:Int)=((s ^^^ 4294967295:Nat):Int):=by
 have e:IntKind.u32.max=((4294967295:Nat):Int):=by decide
 rw[e,ZpS _ _ (by decide) h,zf3]
def ZyR (l:List UInt8):List UInt8 × Nat:=if l.length<=1048576 then(Qd l,0) else([],5)
theorem ZxI {k e:IntKind} {a b c d:Int} (h:a=b) (f:c=d):Ending.returned (.tuple #[v,.int k a,.int e c])=.returned (.tuple #[v,.int k b,.int e d]):=by rw[h,f]
theorem ZAm (h:Gv l):X8 l=([],0,2):=by unfold X8;rw[zab h]
theorem ZAn (h:¬ Gv l) (a:(Qb l).2=0):X8 l=([],0,3):=by unfold X8;rw[zaa h,zab a]
theorem ZAo (h:¬ Gv l) (b:(Qb l).2≠0) (a:1048576<(Qb l).1):X8 l=([],0,5):=by unfold X8;rw[zaa h,zaa b,zab a]
theorem ZAp (h:¬ Gv l) (c:(Qb l).2≠0) (b:¬ 1048576<(Qb l).1) (a:l.length<(Qb l).2+4+(Qb l).1):X8 l=([],0,2):=by
 unfold X8;rw[zaa h,zaa c,zaa b,zab a]
theorem ZAq (h:¬ Gv l) (d:(Qb l).2≠0) (c:¬ 1048576<(Qb l).1) (b:¬ l.length<(Qb l).2+4+(Qb l).1)
 (a:Lib.leNat ((l.drop ((Qb l).2+(Qb l).1)).take 4)≠Q3 0 (l.take ((Qb l).2+(Qb l).1))):X8 l=([],0,4):=by
 unfold X8;rw[zaa h,zaa d,zaa c,zaa b,zab a]
theorem ZAr (h:¬ Gv l) (d:(Qb l).2≠0) (c:¬ 1048576<(Qb l).1) (b:¬ l.length<(Qb l).2+4+(Qb l).1)
 (a:Lib.leNat ((l.drop ((Qb l).2+(Qb l).1)).take 4)=Q3 0 (l.take ((Qb l).2+(Qb l).1))):X8 l=((l.drop (Qb l).2).take (Qb l).1,(Qb l).2+4+(Qb l).1,0):=by
 unfold X8;rw[zaa h,zaa d,zaa c,zaa b,zaa (by rw[a];simp)]
theorem ZsT (l:List UInt8):(Qb l).2<=9:=by
 rcases Xh l with h | ⟨c,e,d,b⟩
 ·rw[h];decide
 ·have a:(Lib.uvarint (Qb l).1).length<=9:=Lib.uvarint_length 8 _ (zay c (by decide))
  rw[<-b,zb5] at a;omega
def Zed (w:World) (l:List UInt8) (e:Ending) (w':World):Prop:=
 ∃ v',e=.returned (.tuple #[v',.int .i64 ((X8 l).2.1:Nat),.int .i64 ((X8 l).2.2:Nat)])∧Own w' w.heap.size v' (X8 l).1∧Below w.heap.size w w'
theorem Zed.refused (h:X8 l=([],0,c)):Zed w l (.returned (.tuple #[.slice none 0 0,.int .i64 0,.int .i64 (c:Int)])) w:=by
 refine⟨.slice none 0 0,?_,?_,zac _ _⟩
 ·rw[h];rfl
 ·rw[h];exact Own.nil _ _
def Zvt (l:List UInt8) (A:Nat) (L:List (List UInt8)):Prop:=
 Qq l=(L++(Qq (l.drop A)).1,A+(Qq (l.drop A)).2.1,(Qq (l.drop A)).2.2)∧5*L.length<=A∧A<=l.length
theorem Zvt.start (l:List UInt8):Zvt l 0 []:=⟨by simp,by simp,by omega⟩
theorem Zvt.stop (h:Zvt l A L) (c:A<l.length) (b:(X8 (l.drop A)).2.2≠0):Qq l=(L,A,(X8 (l.drop A)).2.2):=by
 have a:l.drop A≠[]:=fun e=>by
  have:=congrArg List.length e;rw[length_drop,zc0] at this;omega
 rw[h.1,ZbY a b];simp
theorem Zvt.whole (h:Zvt l A L) (a:¬ A<l.length):Qq l=(L,A,0):=by
 have e:l.drop A=[]:=List.drop_of_length_le (by omega)
 rw[h.1,e,ZbM];simp
theorem Zvt.step (h:Zvt l A L) (d:A<l.length) (a:(X8 (l.drop A)).2.2=0):Zvt l (A+(X8 (l.drop A)).2.1) (L++[(X8 (l.drop A)).1]):=by
 have b:l.drop A≠[]:=fun e=>by
  have:=congrArg List.length e;rw[length_drop,zc0] at this;omega
 have f:=ZbL a;have c:=ZuE (l.drop A);rw[length_drop] at c;refine⟨?_,?_,by omega⟩
 ·rw[h.1,ZbZ b a,zdz]
  simp[zb1]
 ·have:=h.2.1
  simp;omega
def ZyS (l:List UInt8):List (List UInt8) × Nat:=if(Qq l).2.2=0 then((Qq l).1,0) else([],(Qq l).2.2)
theorem ZjY (w:World) (ty:TypeId) (B:Nat) (v:Value) (b:List UInt8) (d:Own w B v b) (e:Value) (l:List UInt8) (n:Rd w e l)
 (z:b.length+l.length<=70368744177664) (p:B<=w.heap.size):
 ∃ v' w',(Builtin.append_ #[53,53] ty #[v,e]).run prog w=.ok v' w'∧Own w' B v' (b++l)∧w.grownBy w' v.ownBlock:=by
 obtain⟨f,g,k,j,x⟩:=zbx Zlw;obtain⟨ao,cap,rfl,A,C,m,u⟩:=n
 cases ao with
 | none=>
  have i:=m rfl;subst i;have y:l=[]:=zao (by omega)
  subst y;have c:=zc6 (P:=prog) w B 53 ty 5 f 1 underlying53 g v b.length (Lib.byteCells b) d;exact⟨v,w,c,by rw[zc8];exact d,⟨rfl,rfl,rfl,za0 _,fun _ _ _=>rfl⟩⟩
 | some a=>
  obtain⟨v',w',c,q,t,_⟩:=zdn (P:=prog) w B 53 ty 5 f (.int .u8 0) 1 1 underlying53 g k j x rfl (by decide) v b.length (Lib.byteCells b) d a l.length cap (Lib.byteCells l)
   (by rw[Y4,zct]) (Rd.cells u a rfl) (ZaK l) (by unfold maxLen;omega) (by omega) p
  exact⟨v',w',c,Own.mk' q (by simp) (by simp[Lib.byteCells]),t⟩
theorem ZfX (w:World) {d:Array Oper} {rest:List Oper} {o:Oper} {a:Act} {Q:Exit->Act->World->Prop} (j:o.guard=none) (s x:Operand)
 (n:o.op=.call { callee:=.builtin .append,args:=#[s,x],argTypes:=#[53,53] })
 (B:Nat) (v:Value) (b:List UInt8) (e:a.eval s=v) (p:Own w B v b) (c:Value) (l:List UInt8) (t:a.eval x=c) (k:Rd w c l)
 (f:b.length+l.length<=70368744177664) (m:B<=w.heap.size)
 (h:∀ v' w',Own w' B v' (b++l)->w.grownBy w' v.ownBlock->wpList prog d Q rest (a.put o.dst v') w'):wpList prog d Q (o::rest) a w:=
 zb0 j fun _ g=>by
  obtain⟨v',w',i,u,q⟩:=ZjY w o.type B v b p c l k f m;unfold Oper.wp execOp;simp only [n,resolve,invoke,builtin,zbt,zbv,zbe,zch,map_cons,map_nil,e,t,i];exact g _ _ (h v' w' u q)
open Go.RowKit Go.ChangeShapes
theorem Ziz:prog.elem 144=53:=by kernel_rfl
theorem ZkJ (w:World):(sizeOf 53).run prog w=.ok 1 w:=by
 obtain⟨c,b,_,a,_⟩:=zbx ZkI;simp[sizeOf,typeInfo,b,a]
theorem Zdn:prog.underlying 144=some (.slice (prog.elem 144)):=by rw[Ziz];exact underlying144
end Go.Proofs.YtnahjngbneicaaaGreatDoor
