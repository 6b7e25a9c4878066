import Derived.Test.YtnahjngbneicaaaGreatDoorPack6
namespace Go.Proofs.YtnahjngbneicaaaGreatDoor
open _root_.Go.Proofs.Tryz
open List (length_drop map_cons map_nil)
set_option maxHeartbeats 4000000
set_option maxRecDepth 100000
open Go.RowKit
variable {W w w':World} {a:List Ent} {s:St} {v v':Value} {ao f:Option Addr} {A B B' Q R T b c cap d n:Nat} {l:List UInt8} {L':List Int} {g idx k kind:Int} {L:List (List UInt8)}
abbrev zdd:=@Go.DataW.trod_int
abbrev zdp:=@List.drop_drop
abbrev zep:=@List.cons.injEq
abbrev zgf:=@Go.DataW.trod_struct
theorem Da.mv {a:World} {N:Nat} {s o r:Array Value} (h:Da W N s o r) (f:∀ b,v.ownBlock=some b->b<N) (j:Mv W a v v'):Da a N s o r:=by
 obtain⟨i,g,d⟩:=h
 have lt:∀ k x,W.heap[k]?=some x->N<=k->a.heap[k]?=some x:=fun k x c l=>by
  rw[j.grown.block k (zan.1 c).1 (fun e=>by have:=f k e.symm;omega)]
  exact c
 exact⟨lt _ _ i (by omega),lt _ _ g (by omega),lt _ _ d (by omega)⟩
theorem ZlE {e f F:World} {l:List Int} (n:Qs w B v l) (d:Below w.heap.size w e) (q:e.heap.size=w.heap.size+3) (c:Mv e f v v') (p:Qs f B v' L') (a:But w.heap.size (w.heap.size+1+1) f F):Qs F B v' L'∧Mv w F v v':=by
 have i:∀ b,v.ownBlock=some b->b<w.heap.size:=fun b h=>(zar n b h).2
 have g:∀ b,v'.ownBlock=some b->v.ownBlock=some b∨w.heap.size+3<=b:=fun b h=>by
  rcases c.lies b h with h' | h'
  ·exact .inl h'
  ·exact .inr (by omega)
 have t:=c.size;refine⟨p.but a (fun b h=>?_),⟨⟨a.os.trans (c.grown.os.trans d.os),a.tape.trans (c.grown.tape.trans d.tape),a.output.trans (c.grown.output.trans d.output),by have:=a.size;omega,fun k m j=>?_⟩,fun b h=>?_⟩⟩
 ·rcases g b h with h' | h'
  ·have:=i b h'
   omega
  ·omega
 ·rw[a.block k (by omega) (by omega) (by omega),c.grown.block k (by omega) j]
  exact d.block k m
 ·rcases g b h with h' | h'
  ·exact .inl h'
  ·exact .inr (by omega)
theorem Zy (w:World) (x y z:Obj):Below w.heap.size w (((w.alloc x).alloc y).alloc z)∧(((w.alloc x).alloc y).alloc z).heap.size=w.heap.size+3:=
 ⟨(((zac _ _).alloc zL x).alloc (by simp) y).alloc (by simp;omega) z,by simp⟩
theorem Qs.alloc3 {l:List Int} (h:Qs w B v l) (x y z:Obj):Qs (((w.alloc x).alloc y).alloc z) B v l:=((h.alloc x).alloc y).alloc z
def Did (B:Nat) (w:World) (v:Value) (r:St × Int) (e:Ending) (w':World):Prop:=
 ∃ v',e=.returned (.tuple #[.agg #[.int .i64 r.1.kind,v',.bool r.1.shut,.int .i64 r.1.eng],.int .i64 r.2])∧Qs w' B v' r.1.L∧Mv w w' v v'
theorem Zpq (kind g:Int) (l:List Int) (v:Value) (o:Opn) (B:Nat) (w:World) (c:Qs w B v l):
 Calls prog 83 #[.agg #[.int .i64 kind,v,.bool true,.int .i64 g],opV o] w fun e w'=>Did B w v (⟨kind,l,true,g⟩,-1125899906842624) e w':=by
 obtain⟨d,a,b⟩:=o;have i:=Qc c;obtain⟨ao,cap,rfl⟩:=c.shape;have f:Hid (∀ x y z,Mv w (((w.alloc x).alloc y).alloc z) (.slice ao l.length cap) (.slice ao l.length cap)):=fun x y z=>Mv.ofBelow (Zy w x y z).1 _
 clear c;show Calls prog _ #[_,.agg #[.int .i64 d,.int .i64 a,.int .i64 b]] w _
 go_enter func83,ntmps83
 go_wp2;refine zap (v:=.tuple #[.agg #[.int .i64 kind,.slice ao l.length cap,.bool true,.int .i64 g],.int .i64 (-1125899906842624)]) (by simp[results,Tryz.results83,go_sem]) rfl ?_
 exact⟨_,rfl,i.o.alloc3 _ _ _,f.o _ _ _⟩
theorem Zpr (kind g a b:Int) (l:List Int) (v:Value) (B:Nat) (w:World) (f:Qs w B v l):
 Calls prog 83 #[.agg #[.int .i64 kind,v,.bool false,.int .i64 g],.agg #[.int .i64 10,.int .i64 a,.int .i64 b]] w fun e w'=>Did B w v (⟨kind,l,true,if 0<=a∧a<=2 then a else g⟩,0) e w':=by
 have i:=Qc f;obtain⟨ao,cap,rfl⟩:=f.shape;have m:=Qc (fun W=>Zxg kind ao l.length cap false g a W)
 generalize (if 0<=a∧a<=2 then a else g)=t at *
 clear f
 go_enter func83,ntmps83
 go_wp2_with fail
 refine(m.o _).mono ?_;rintro e C ⟨rfl,d⟩;have c:=(Da.made w _ _ _).below d (by simp)
 obtain⟨n,x⟩:=c.r 0;obtain⟨j,y⟩:=c.r 1;obtain⟨q,z⟩:=c.r 2;obtain⟨p,A⟩:=c.r 3;have u:=Qc (fun F k=>ZlE (F:=F) i.o (Zy w _ _ _).1 (Zy w _ _ _).2 (Mv.ofBelow d _) ((i.o.alloc3 _ _ _).below d zL) k)
 clear d c;go_wp2;refine zap (v:=.tuple #[.agg #[.int .i64 kind,.slice ao l.length cap,.bool true,.int .i64 t],.int .i64 0]) (by simp[results,Tryz.results83,go_sem,n,j,q,p]) rfl ?_
 exact⟨_,rfl,u.o _ ((But.refl _ _ _).four _ (.inr rfl) _ _ _ _)⟩
theorem Zsr (kind g:Int) (H:kind=0∨kind=1) (l:List Int) (v:Value) (o:Opn) (K:o.code≠10) (B:Nat) (w:World) (k:Qs w B v l) (u:l.length=1) (J:-1099511627776<=l.getD 0 0) (N:l.getD 0 0<=1099511627776):
 Calls prog 83 #[.agg #[.int .i64 kind,v,.bool false,.int .i64 g],opV o] w fun e w'=>Did B w v (Zef ⟨kind,l,false,g⟩ o) e w':=by
 have m:=Qc k;have G:=Zli ⟨kind,l,false,g⟩ o
 obtain⟨L',n',j⟩:∃ L' n',Zef ⟨kind,l,false,g⟩ o=(⟨kind,L',false,g⟩,n'):=by
  obtain⟨C,t,n⟩:=G;refine⟨(Zef ⟨kind,l,false,g⟩ o).1.L,(Zef ⟨kind,l,false,g⟩ o).2,?_⟩;rcases hr:Zef ⟨kind,l,false,g⟩ o with ⟨⟨k1,l1,M,Z⟩,Y⟩
  rw[hr] at C t n;simp only at C t n;rw[C,t,n]
 have i:Hid (∀ W,Qs W B v l->Calls prog (if kind=0 then 124 else 125) #[v,opV o] W fun e w'=>e=.returned (.int .i64 n')∧Qs w' B v L'∧Mv W w' v v):=fun W h=>by
  rcases H with rfl | rfl
  ·have:=Zpn v l o false g B W h u J N
   rw[j] at this;exact this
  ·have:=Znp v l o false g B W h u
   rw[j] at this;exact this
 rw[j];obtain⟨E,a,b⟩:=o;have X:(E == 10)=false:=zad.2 K;obtain⟨ao,cap,rfl⟩:=k.shape;have D:∀ b,(Value.slice ao l.length cap).ownBlock=some b->b<w.heap.size:=fun b h=>(zar k b h).2
 have I:=Qc D;clear k j G K u J N D;show Calls prog _ #[_,.agg #[.int .i64 E,.int .i64 a,.int .i64 b]] w _;rcases H with rfl | rfl
 ·rw[zab rfl] at i
  go_enter func83,ntmps83
  go_wp2_with fail
  refine(i.o _ (m.o.alloc3 _ _ _)).mono ?_;rintro e U ⟨rfl,f,d⟩;have c:=(Da.made w _ _ _).mv I.o d;obtain⟨P,-⟩:=c.s 0;obtain⟨V,-⟩:=c.s 1;obtain⟨Q,-⟩:=c.s 2;obtain⟨R,-⟩:=c.s 3;obtain⟨x,O⟩:=c.r 0;obtain⟨p,M⟩:=c.r 1;obtain⟨z,S⟩:=c.r 2;obtain⟨y,T⟩:=c.r 3;have A:=Qc (fun F q=>ZlE (F:=F) m.o (Zy w _ _ _).1 (Zy w _ _ _).2 d f q)
  clear c f d;go_wp2;refine zap (v:=.tuple #[.agg #[.int .i64 0,.slice ao l.length cap,.bool false,.int .i64 g],.int .i64 n']) (by simp[results,Tryz.results83,go_sem,x,p,z,y]) rfl ?_
  exact⟨_,rfl,A.o _ ((But.refl _ _ _).four _ (.inr rfl) _ _ _ _)⟩
 ·rw[zaa (by decide)] at i
  go_enter func83,ntmps83
  go_wp2_with fail
  refine(i.o _ (m.o.alloc3 _ _ _)).mono ?_;rintro e U ⟨rfl,f,d⟩;have c:=(Da.made w _ _ _).mv I.o d;obtain⟨P,-⟩:=c.s 0;obtain⟨V,-⟩:=c.s 1;obtain⟨Q,-⟩:=c.s 2;obtain⟨R,-⟩:=c.s 3;obtain⟨x,O⟩:=c.r 0;obtain⟨p,M⟩:=c.r 1;obtain⟨z,S⟩:=c.r 2;obtain⟨y,T⟩:=c.r 3;have A:=Qc (fun F q=>ZlE (F:=F) m.o (Zy w _ _ _).1 (Zy w _ _ _).2 d f q)
  clear c f d;go_wp2;refine zap (v:=.tuple #[.agg #[.int .i64 1,.slice ao l.length cap,.bool false,.int .i64 g],.int .i64 n']) (by simp[results,Tryz.results83,go_sem,x,p,z,y]) rfl ?_
  exact⟨_,rfl,A.o _ ((But.refl _ _ _).four _ (.inr rfl) _ _ _ _)⟩
theorem ZqS {c:World} {l:List Int} {a:Option Addr} {xs f j:Array Value} (d:Qs w B (.slice ao l.length cap) l) (i:Qs c B (.slice a L'.length b) L') (e:Mv (((w.alloc (.cells xs 38)).alloc (.cells f 52)).alloc (.cells j 38)) c (.slice ao l.length cap) (.slice a L'.length b)):
 Qs (ZqC c w.heap.size (w.heap.size+1+1) (.slice a L'.length b) (.int .i64 kind) (.slice a L'.length b) (.bool false) (.int .i64 g)) B (.slice a L'.length b) L'∧Mv w (ZqC c w.heap.size (w.heap.size+1+1) (.slice a L'.length b) (.int .i64 kind) (.slice a L'.length b) (.bool false) (.int .i64 g)) (.slice ao l.length cap) (.slice a L'.length b):=
 ZlE d (Zy w _ _ _).1 (Zy w _ _ _).2 e i (((But.refl _ _ _).set _ _ (.inl rfl) _).four _ (.inr rfl) _ _ _ _)
theorem Zps (kind g:Int) (G:kind=2∨kind=3) (l L':List Int) (n':Int) (v:Value) (i a b:Int) (C:i≠10) (B:Nat) (w:World) (j:Qs w B v l)
 (z:Hid (∀ W,Qs W B v l->B<=W.heap.size->Calls prog 126 #[.int .i64 kind,v,.agg #[.int .i64 i,.int .i64 a,.int .i64 b]] W fun e w'=>ZdS B W v L' n' e w')) (Q:B<=w.heap.size):
 Calls prog 83 #[.agg #[.int .i64 kind,v,.bool false,.int .i64 g],.agg #[.int .i64 i,.int .i64 a,.int .i64 b]] w fun e w'=>Did B w v (⟨kind,L',false,g⟩,n') e w':=by
 have k:=Qc j;have P:(i == 10)=false:=zad.2 C;obtain⟨ao,cap,rfl⟩:=j.shape;have y:∀ b,(Value.slice ao l.length cap).ownBlock=some b->b<w.heap.size:=fun b h=>(zar j b h).2
 have A:=Qc y;clear j C y;rcases G with rfl | rfl
 ·go_enter func83,ntmps83
  go_wp2_with fail
  refine(z.o _ (k.o.alloc3 _ _ _) (by simp;omega)).mono ?_
  rintro e M ⟨O,rfl,d,f⟩;obtain⟨m,n,rfl⟩:=d.shape;have c:=(Da.made w _ _ _).mv A.o f;obtain⟨E,-⟩:=c.s 0;obtain⟨N,I⟩:=c.s 1;obtain⟨F,-⟩:=c.s 2;obtain⟨H,-⟩:=c.s 3;obtain⟨q,D⟩:=c.r 0;obtain⟨p,J⟩:=c.r 1;obtain⟨u,K⟩:=c.r 2;obtain⟨t,L⟩:=c.r 3;have x:=Qc (fun kind=>ZqS (kind:=kind) (g:=g) k.o d f)
  clear c d f;go_wp2;refine zap (v:=.tuple #[.agg #[.int .i64 2,.slice m L'.length n,.bool false,.int .i64 g],.int .i64 n']) (by simp[results,Tryz.results83,go_sem,q,p,u,t]) rfl ?_
  exact⟨_,rfl,x.o _⟩
 ·go_enter func83,ntmps83
  go_wp2_with fail
  refine(z.o _ (k.o.alloc3 _ _ _) (by simp;omega)).mono ?_
  rintro e M ⟨O,rfl,d,f⟩;obtain⟨m,n,rfl⟩:=d.shape;have c:=(Da.made w _ _ _).mv A.o f;obtain⟨E,-⟩:=c.s 0;obtain⟨N,I⟩:=c.s 1;obtain⟨F,-⟩:=c.s 2;obtain⟨H,-⟩:=c.s 3;obtain⟨q,D⟩:=c.r 0;obtain⟨p,J⟩:=c.r 1;obtain⟨u,K⟩:=c.r 2;obtain⟨t,L⟩:=c.r 3;have x:=Qc (fun kind=>ZqS (kind:=kind) (g:=g) k.o d f)
  clear c d f;go_wp2;refine zap (v:=.tuple #[.agg #[.int .i64 3,.slice m L'.length n,.bool false,.int .i64 g],.int .i64 n']) (by simp[results,Tryz.results83,go_sem,q,p,u,t]) rfl ?_
  exact⟨_,rfl,x.o _⟩
theorem Znq (kind g:Int) (u:kind=4) (l L':List Int) (n':Int) (v:Value) (d a b:Int) (m:d≠10) (B:Nat) (w:World) (f:Qs w B v l)
 (q:Hid (∀ W,Qs W B v l->B<=W.heap.size->Calls prog 127 #[v,.agg #[.int .i64 d,.int .i64 a,.int .i64 b]] W fun e w'=>ZdS B W v L' n' e w')) (G:B<=w.heap.size):
 Calls prog 83 #[.agg #[.int .i64 kind,v,.bool false,.int .i64 g],.agg #[.int .i64 d,.int .i64 a,.int .i64 b]] w fun e w'=>Did B w v (⟨kind,L',false,g⟩,n') e w':=by
 have n:=Qc f;have F:(d == 10)=false:=zad.2 m;obtain⟨ao,cap,rfl⟩:=f.shape;have k:∀ b,(Value.slice ao l.length cap).ownBlock=some b->b<w.heap.size:=fun b h=>(zar f b h).2
 have y:=Qc k;clear f m k;subst u
 all_goals
  go_enter func83,ntmps83
  go_wp2_with fail
  refine(q.o _ (n.o.alloc3 _ _ _) (by simp;omega)).mono ?_
  rintro e O ⟨Q,rfl,i,j⟩;obtain⟨p,t,rfl⟩:=i.shape;have c:=(Da.made w _ _ _).mv y.o j;obtain⟨H,-⟩:=c.s 0;obtain⟨P,K⟩:=c.s 1;obtain⟨I,-⟩:=c.s 2;obtain⟨J,-⟩:=c.s 3;obtain⟨z,E⟩:=c.r 0;obtain⟨x,L⟩:=c.r 1;obtain⟨C,M⟩:=c.r 2;obtain⟨A,N⟩:=c.r 3;have D:=Qc (fun kind=>ZqS (kind:=kind) (g:=g) n.o i j)
  clear c i j;go_wp2;refine zap (v:=.tuple #[.agg #[.int .i64 4,.slice p L'.length t,.bool false,.int .i64 g],.int .i64 n']) (by simp[results,Tryz.results83,go_sem,z,x,C,A]) rfl ?_
  exact⟨_,rfl,D.o _⟩
theorem ZlF (kind g:Int) (u:kind=5) (l L':List Int) (n':Int) (v:Value) (d a b:Int) (m:d≠10) (B:Nat) (w:World) (f:Qs w B v l)
 (q:Hid (∀ W,Qs W B v l->B<=W.heap.size->Calls prog 128 #[v,.agg #[.int .i64 d,.int .i64 a,.int .i64 b]] W fun e w'=>ZdS B W v L' n' e w')) (G:B<=w.heap.size):
 Calls prog 83 #[.agg #[.int .i64 kind,v,.bool false,.int .i64 g],.agg #[.int .i64 d,.int .i64 a,.int .i64 b]] w fun e w'=>Did B w v (⟨kind,L',false,g⟩,n') e w':=by
 have n:=Qc f;have F:(d == 10)=false:=zad.2 m;obtain⟨ao,cap,rfl⟩:=f.shape;have k:∀ b,(Value.slice ao l.length cap).ownBlock=some b->b<w.heap.size:=fun b h=>(zar f b h).2
 have y:=Qc k;clear f m k;subst u
 all_goals
  go_enter func83,ntmps83
  go_wp2_with fail
  refine(q.o _ (n.o.alloc3 _ _ _) (by simp;omega)).mono ?_
  rintro e O ⟨Q,rfl,i,j⟩;obtain⟨p,t,rfl⟩:=i.shape;have c:=(Da.made w _ _ _).mv y.o j;obtain⟨H,-⟩:=c.s 0;obtain⟨P,K⟩:=c.s 1;obtain⟨I,-⟩:=c.s 2;obtain⟨J,-⟩:=c.s 3;obtain⟨z,E⟩:=c.r 0;obtain⟨x,L⟩:=c.r 1;obtain⟨C,M⟩:=c.r 2;obtain⟨A,N⟩:=c.r 3;have D:=Qc (fun kind=>ZqS (kind:=kind) (g:=g) n.o i j)
  clear c i j;go_wp2;refine zap (v:=.tuple #[.agg #[.int .i64 5,.slice p L'.length t,.bool false,.int .i64 g],.int .i64 n']) (by simp[results,Tryz.results83,go_sem,z,x,C,A]) rfl ?_
  exact⟨_,rfl,D.o _⟩
theorem Zpt (v:Value) (l:List Int) (a b:Nat) (w:World) (I:RdI w v l) (D:w.cell? ⟨a,0,none⟩=some (.int .i64 (-1099511627776))) (x:w.cell? ⟨b,0,none⟩=some (.int .i64 1099511627776)):
 Calls prog 171 #[v,.func (.func 170) #[] #[.pointer (some ⟨a,0,none⟩),.pointer (some ⟨b,0,none⟩)]] w fun e w'=>e=.returned (.bool (decide (l.length<=64∧G6 l)))∧w'=w:=by
 have F:=Qc (fun n=>Zdu n _ _ a b w D x)
 obtain⟨ao,cap,rfl,-,-,-,-,A⟩:=I;have K:=Qc A;clear A D x;obtain⟨R,t⟩:=zgy (decide (l.length<=64∧G6 l));rw[<-t];have m:=Qc t;clear t;by_cases z:l.length<=64
 ·have L:¬ (64<(l.length:Int)):=by omega
  go_enter func171,ntmps171
  go_wp2
  go_loop [12] (fun i=>∃ k:Nat,i=.int .i64 k∧k<=l.length∧Hid (∀ j,j<k->-1099511627776<=l.getD j 0∧l.getD j 0<=1099511627776)) (fun i=>l.length-(intOf i).toNat)
  case atStart=>exact⟨0,rfl,zai _,fun j B=>by omega⟩
  case round=>
   obtain⟨k,rfl,M,E⟩:=hrel;by_cases f:k<l.length
   ·rcases K.o with H | ⟨g,N,rfl,C⟩
    ·rw[H] at f;simp at f
    have G:=C k f;clear C;obtain⟨y,p⟩:=zgy (l.getD k 0);rw[<-p] at G;have u:=Qc p;clear p;by_cases c:-1099511627776<=y∧y<=1099511627776
    ·have d:=Qc (zah c)
     have q:=Qc c;clear c
     go_wp2_with(first | (go_at_call 170;refine(F.o _).mono ?_;rintro e J ⟨rfl,rfl⟩;rw[d.o]))
     go_round
     case rel=>
      refine⟨k+1,by go_num,by omega,fun j B=>?_⟩
      by_cases e:j=k
      ·rw[e,<-u.o];exact q.o
      ·exact E.out j (by omega)
     case measure=>simp[intOf];omega
    ·have d:=Qc (zae c)
     have q:=Qc c;clear c
     go_wp2_with(first | (go_at_call 170;refine(F.o _).mono ?_;rintro e J ⟨rfl,rfl⟩;rw[d.o]))
     go_ret;refine⟨Y6 (m.o.trans (zae fun h=>q.o ?_)).symm,rfl⟩
     rw[u.o];exact h.2 k f
   ·go_wp2
    go_ret;exact⟨Y6 (m.o.trans (zah ⟨z,fun j B=>E.out j (by omega)⟩)).symm,rfl⟩
 ·have L:64<(l.length:Int):=by omega
  have d:Hid (decide (l.length<=64∧G6 l)=false):=zae (fun h=>z h.1)
  go_enter func171,ntmps171
  go_wp2;go_ret;exact⟨Y6 (m.o.trans d.o).symm,rfl⟩
def ZfN (l:List Int) (k:Nat):Int:=if k=0 then 0 else l.getD (k-2) 0+1
theorem Znr {lo:Int} {l:List Int} {k:Nat} (c:k % 2=0) (b:∀ j,j<k->j % 2=0->Zhm lo l j):Zhm lo l k↔(ZfN l k<=l.getD k 0∧l.getD k 0<=255)∧lo<=l.getD (k+1) 0∧l.getD (k+1) 0<=1099511627776:=by
 unfold Zhm ZfN;by_cases a:k=0
 ·subst a
  simp;omega
 ·rw[zaa a]
  have d:=(b (k-2) (by omega) (by omega)).1
  constructor
  ·rintro⟨h1,h2,h3,h4,h5⟩
   exact⟨⟨by have:=h3 (by omega);omega,h2⟩,h4,h5⟩
  ·rintro⟨⟨h1,h2⟩,h4,h5⟩
   exact⟨by omega,h2,fun _=>by omega,h4,h5⟩
theorem Zns (v:Value) (l:List Int) (lo:Int) (a b:Nat) (w:World) (hr:RdI w v l) (V:w.cell? ⟨a,0,none⟩=some (.int .i64 lo)) (U:w.cell? ⟨b,0,none⟩=some (.int .i64 1099511627776)):
 Calls prog 172 #[v,.func (.func 170) #[] #[.pointer (some ⟨a,0,none⟩),.pointer (some ⟨b,0,none⟩)]] w fun e w'=>e=.returned (.bool (decide (Zap lo l)))∧Below w.heap.size w w':=by
 have HI:Hid (∀ n W,Below w.heap.size w W->Calls prog 170 #[.int .i64 n,.pointer (some ⟨a,0,none⟩),.pointer (some ⟨b,0,none⟩)] W fun e w'=>e=.returned (.bool (decide (lo<=n∧n<=1099511627776)))∧w'=W):=fun n W h=>
  Zdu n _ _ a b W ((h.cell (zau w ⟨a,0,none⟩ V)).trans V) ((h.cell (zau w ⟨b,0,none⟩ U)).trans U)
 have Q:=Qc (fun n l2 h2 K J W p1 p2=>Zdu n l2 h2 K J W p1 p2)
 have N:=Qc (fun p q W=>Gz p q W)
 obtain⟨ao,cap,rfl,-,-,-,-,af⟩:=hr;have ai:=Qc af;clear af V U;obtain⟨R,X⟩:=zgy (decide (Zap lo l));rw[<-X];have A:=Qc X;clear X;by_cases Z:l.length % 2=0
 ·by_cases ac:l.length<=128
  ·have Y:(((l.length:Int).tmod 2) != 0)=false:=by rw[zbj,zco (by omega)];omega
   have hq:¬ (128<(l.length:Int)):=by omega
   go_enter func172,ntmps172
   go_wp2
   go_loopw[5,6] (fun y i wr=>∃ k:Nat,y=.int .i64 (ZfN l k)∧i=.int .i64 k∧k<=l.length∧k % 2=0∧Hid (∀ j,j<k->j % 2=0->Zhm lo l j)∧Hid (Below w.heap.size w wr)) (fun _ i _=>l.length-(intOf i).toNat)
   case atStart=>exact⟨0,rfl,rfl,zai _,rfl,fun j hj=>by omega,zac _ _⟩
   case round=>
    obtain⟨k,rfl,rfl,hk,O,S,t⟩:=hrel;by_cases u:k<l.length
    ·rcases ai.o with h0 | ⟨g,L,rfl,D⟩
     ·rw[h0] at u;simp at u
     have aa:k+1<l.length:=by omega
     have I:Hid (∀ W,Below w.heap.size w W->W.cell? ⟨g,L+k,none⟩=some (.int .i64 (l.getD k 0))):=fun W h=>(h.cell (zau w ⟨g,L+k,none⟩ (D k u))).trans (D k u)
     have F:Hid (∀ W,Below w.heap.size w W->W.cell? ⟨g,L+(k+1),none⟩=some (.int .i64 (l.getD (k+1) 0))):=fun W h=>(h.cell (zau w ⟨g,L+(k+1),none⟩ (D (k+1) aa))).trans (D (k+1) aa)
     clear D;have x:=Qc (Znr (lo:=lo) O S.out)
     have ad:Hid (ZfN l (k+2)=l.getD k 0+1):=by
      unfold ZfN;rw[zaa (by omega)]
      exact rfl
     generalize ZfN l k=ls at *;obtain⟨y,d⟩:=zgy (l.getD k 0);obtain⟨z,f⟩:=zgy (l.getD (k+1) 0);rw[<-d] at I x ad;rw[<-f] at F x;have ag:=Qc d;clear d f;by_cases d:ls<=y∧y<=255
     ·have G:=Qc (zah d)
      have E:=Qc d;by_cases f:lo<=z∧z<=1099511627776
      ·have T:=Qc (zah f)
       have H:=Qc f;have aj:=d.2;have ak:0<=y:=by rw[ag.o];exact(x.o.2 ⟨E.o,H.o⟩).1
       clear d f
       go_wp2_with fail
       refine(N.o _ _ _).mono ?_;rintro e W1 ⟨K,J,rfl,C,B,m⟩;have c:=Qc (t.out.trans (m.mono t.out.size));have ab:=I.o _ c.o;have ae:=F.o _ c.o;clear m
       go_wp2_with fail
       refine(Q.o _ _ _ _ _ _ C B).mono ?_;rintro e W2 ⟨rfl,rfl⟩;rw[G.o]
       go_wp2_with fail
       refine(HI.o _ _ c.o).mono ?_;rintro e W3 ⟨rfl,rfl⟩;rw[T.o];go_wp2;go_roundw
       case rel=>
        refine⟨k+2,by rw[ad.o],by go_num,by omega,by omega,fun j hj M=>?_,c⟩
        by_cases e:j=k
        ·rw[e];exact x.o.2 ⟨E.o,H.o⟩
        ·exact S.out j (by omega) M
       case measure=>simp[intOf];omega
      ·have T:=Qc (zae f)
       have H:=Qc f;clear d f
       go_wp2_with fail
       refine(N.o _ _ _).mono ?_;rintro e W1 ⟨K,J,rfl,C,B,m⟩;have c:=Qc (t.out.trans (m.mono t.out.size));have ab:=I.o _ c.o;have ae:=F.o _ c.o;clear m
       go_wp2_with fail
       refine(Q.o _ _ _ _ _ _ C B).mono ?_;rintro e W2 ⟨rfl,rfl⟩;rw[G.o]
       go_wp2_with fail
       refine(HI.o _ _ c.o).mono ?_;rintro e W3 ⟨rfl,rfl⟩;rw[T.o];go_wp2;go_ret;exact⟨Y6 (A.o.trans (zae fun h=>H.o (x.o.1 (h.2.2 k u O)).2)).symm,c.o⟩
     ·have G:=Qc (zae d)
      have E:=Qc d;clear d
      go_wp2_with fail
      refine(N.o _ _ _).mono ?_;rintro e W1 ⟨K,J,rfl,C,B,m⟩;have c:=Qc (t.out.trans (m.mono t.out.size));have ab:=I.o _ c.o;have ae:=F.o _ c.o;clear m
      go_wp2_with fail
      refine(Q.o _ _ _ _ _ _ C B).mono ?_;rintro e W2 ⟨rfl,rfl⟩;rw[G.o];go_wp2;go_ret;exact⟨Y6 (A.o.trans (zae fun h=>E.o (x.o.1 (h.2.2 k u O)).1)).symm,c.o⟩
    ·go_wp2
     go_ret;exact⟨Y6 (A.o.trans (zah ⟨Z,ac,fun j hj M=>S.out j (by omega) M⟩)).symm,t.out⟩
  ·have Y:(((l.length:Int).tmod 2) != 0)=false:=by rw[zbj,zco (by omega)];omega
   have hq:128<(l.length:Int):=by omega
   have P:Hid (decide (Zap lo l)=false):=zae (fun h=>ac h.2.1)
   go_enter func172,ntmps172
   go_wp2;go_ret;exact⟨Y6 (A.o.trans P.o).symm,zac _ _⟩
 ·have Y:(((l.length:Int).tmod 2) != 0)=true:=by rw[zbf,zco (by omega)];omega
  have P:Hid (decide (Zap lo l)=false):=zae (fun h=>Z h.1)
  go_enter func172,ntmps172
  go_wp2;go_ret;exact⟨Y6 (A.o.trans P.o).symm,zac _ _⟩
theorem Zxh (a:kind=0∨kind=1) (l:List Int):(0<=kind∧kind<6∧Zd kind l)↔l.length=1∧-1099511627776<=l.getD 0 0∧l.getD 0 0<=1099511627776:=by
 rw[Yk (by omega) (by omega)]
 constructor
 ·rintro⟨_,_,_,h1,h2⟩
  exact⟨h1 (by omega),h2 0 (by have:=h1 (by omega);omega)⟩
 ·rintro⟨h1,h2⟩
  refine⟨by omega,by omega,by omega,fun _=>h1,fun j b=>?_⟩
  have e:j=0:=by omega
  rw[e];exact h2
theorem ZuT (a:kind=2∨kind=3) (l:List Int):(0<=kind∧kind<6∧Zd kind l)↔l.length<=64∧G6 l:=by
 rw[Yk (by omega) (by omega)]
 constructor
 ·rintro⟨_,_,h1,_,h2⟩
  exact⟨h1,h2⟩
 ·rintro⟨h1,h2⟩
  exact⟨by omega,by omega,h1,fun h=>by omega,h2⟩
theorem Zss (l:List Int):(0<=(4:Int)∧(4:Int)<6∧Zd 4 l)↔Zap (-1099511627776) l:=by
 unfold Zd;rw[zab rfl];exact⟨fun h=>h.2.2,fun h=>⟨by decide,by decide,h⟩⟩
theorem Zpu (l:List Int):(0<=(5:Int)∧(5:Int)<6∧Zd 5 l)↔Zap 0 l:=by
 unfold Zd;rw[zaa (by decide),zab rfl]
 exact⟨fun h=>h.2.2,fun h=>⟨by decide,by decide,h⟩⟩
theorem ZjK (kind:Int) (v:Value) (l:List Int) (w:World) (H:RdI w v l):
 Calls prog 122 #[.int .i64 kind,v] w fun e w'=>e=.returned (.bool (decide (0<=kind∧kind<6∧Zd kind l)))∧Below w.heap.size w w':=by
 have m:=Qc (fun p q W=>Gz p q W)
 have I:Hid (∀ W,Below w.heap.size w W->RdI W v l):=fun W h=>H.below h zL
 obtain⟨R,O⟩:=zgy (decide (0<=kind∧kind<6∧Zd kind l));rw[<-O];have u:=Qc O;clear O;by_cases A:kind=0∨kind=1
 ·have d:=Qc (Zxh A l)
  have i:((kind == 0)=true)∨((kind == 0)=false∧(kind == 1)=true):=by
   rcases A with rfl | rfl
   ·exact .inl rfl
   ·exact .inr ⟨rfl,rfl⟩
  have x:=Qc (fun n l2 h2 f c W E B=>Zdu n l2 h2 f c W E B)
  obtain⟨ao,cap,rfl,-,-,-,-,S⟩:=H;have V:=Qc S;clear S A I;by_cases t:l.length=1
  ·rcases V.o with Z | ⟨g,U,rfl,N⟩
   ·rw[Z] at t;simp at t
   have X:Hid (∀ W,Below w.heap.size w W->W.cell? ⟨g,U,none⟩=some (.int .i64 (l.getD 0 0))):=fun W h=>(h.cell (zau w ⟨g,U,none⟩ (N 0 (by omega)))).trans (N 0 (by omega))
   clear N V;have Y:=Qc t;rw[t];clear t;obtain⟨y,Q⟩:=zgy (l.getD 0 0);rw[<-Q] at X d;clear Q;rcases i with i | ⟨i,P⟩
   all_goals
    go_enter func122,ntmps122
    go_wp2_with fail
    refine(m.o _ _ _).mono ?_;rintro e G ⟨f,c,rfl,k,j,a⟩;have b:=Qc a;have ab:=X.o _ a;clear a
    go_wp2_with fail
    refine(x.o _ _ _ _ _ _ k j).mono ?_;rintro e M ⟨rfl,rfl⟩;go_wp2;go_ret;refine⟨Y6 ?_,b.o⟩;rw[u.o,<-zd7];exact zcd.2 ⟨fun h=>d.o.2 ⟨Y.o,h⟩,fun h=>(d.o.1 h).2⟩
  ·have hq:((l.length:Int) == 1)=false:=zad.2 (by omega)
   have L:Hid (decide (0<=kind∧kind<6∧Zd kind l)=false):=zae (fun h=>t (d.o.1 h).1)
   clear t;rcases i with i | ⟨i,P⟩
   all_goals
    go_enter func122,ntmps122
    go_wp2_with fail
    refine(m.o _ _ _).mono ?_;rintro e G ⟨f,c,rfl,k,j,a⟩;have b:=Qc a;clear a;go_wp2;go_ret;exact⟨Y6 (u.o.trans L.o).symm,b.o⟩
 ·have e0:(kind == 0)=false:=zad.2 (by omega)
  have e1:(kind == 1)=false:=zad.2 (by omega)
  by_cases J:kind=2∨kind=3
  ·have d:=Qc (ZuT J l)
   have i:((kind == 2)=true)∨((kind == 2)=false∧(kind == 3)=true):=by
    rcases J with rfl | rfl
    ·exact .inl rfl
    ·exact .inr ⟨rfl,rfl⟩
   have x:=Qc (fun f c W E B K=>Zpt v l f c W E B K)
   clear A J H;rcases i with i | ⟨i,P⟩
   all_goals
    go_enter func122,ntmps122
    go_wp2_with fail
    refine(m.o _ _ _).mono ?_;rintro e G ⟨f,c,rfl,k,j,a⟩;have b:=Qc a;clear a
    go_wp2_with fail
    refine(x.o _ _ _ (I.o _ b.o) k j).mono ?_;rintro e M ⟨rfl,rfl⟩;go_wp2;go_ret;refine⟨Y6 ?_,b.o⟩;rw[u.o,<-zd7];exact zcd.2 d.o.symm
  ·have e2:(kind == 2)=false:=zad.2 (by omega)
   have e3:(kind == 3)=false:=zad.2 (by omega)
   have x:=Qc (fun lo f c W E B K=>Zns v l lo f c W E B K)
   clear A J H;by_cases z:kind=4
   ·have e4:(kind == 4)=true:=za8.2 z
    have d:Hid (Zap (-1099511627776) l↔(0<=kind∧kind<6∧Zd kind l)):=by rw[z];exact(Zss l).symm
    clear z
    go_enter func122,ntmps122
    go_wp2_with fail
    refine(m.o _ _ _).mono ?_;rintro e G ⟨f,c,rfl,k,j,a⟩;have b:=Qc a;clear a
    go_wp2_with fail
    refine(x.o _ _ _ _ (I.o _ b.o) k j).mono ?_;rintro e M ⟨rfl,C⟩;have D:=Qc (b.o.trans (C.mono b.o.size));clear C;go_wp2;go_ret;refine⟨Y6 ?_,D.o⟩;rw[u.o];exact zcd.2 d.o
   ·have e4:(kind == 4)=false:=zad.2 z
    by_cases F:kind=5
    ·have e5:(kind == 5)=true:=za8.2 F
     have d:Hid (Zap 0 l↔(0<=kind∧kind<6∧Zd kind l)):=by rw[F];exact(Zpu l).symm
     clear z F
     go_enter func122,ntmps122
     go_wp2_with fail
     refine(m.o _ _ _).mono ?_;rintro e G ⟨a1,b1,rfl,_,_,a⟩;have b:=Qc a;clear a
     go_wp2_with fail
     refine(m.o _ _ _).mono ?_;rintro e M ⟨f,c,rfl,k,j,C⟩;have D:=Qc (b.o.trans (C.mono b.o.size));clear C
     go_wp2_with fail
     refine(x.o _ _ _ _ (I.o _ D.o) k j).mono ?_;rintro e W3 ⟨rfl,T⟩;have aa:=Qc (D.o.trans (T.mono D.o.size));clear T;go_wp2;go_ret;refine⟨Y6 ?_,aa.o⟩;rw[u.o];exact zcd.2 d.o
    ·have e5:(kind == 5)=false:=zad.2 F
     have L:Hid (decide (0<=kind∧kind<6∧Zd kind l)=false):=zae (fun h=>by
      have n0:kind≠0:=zad.1 e0;have n1:kind≠1:=zad.1 e1;have n2:kind≠2:=zad.1 e2;have n3:kind≠3:=zad.1 e3
      omega)
     clear z F
     go_enter func122,ntmps122
     go_wp2_with fail
     refine(m.o _ _ _).mono ?_;rintro e G ⟨a1,b1,rfl,_,_,a⟩;have b:=Qc a;clear a;go_wp2;go_ret;exact⟨Y6 (u.o.trans L.o).symm,b.o⟩
theorem ZuU (kind:Int) (l:List Int) (a:Bool) (g:Int):Yl ⟨kind,l,a,g⟩↔(a=false->g=0)∧(0<=g∧g<=2)∧(0<=kind∧kind<6∧Zd kind l):=
 ⟨fun h=>⟨h.2.2.1,⟨h.1,h.2.1⟩,h.2.2.2.1,h.2.2.2.2.1,h.2.2.2.2.2⟩,fun h=>⟨h.2.1.1,h.2.1.2,h.1,h.2.2.1,h.2.2.2.1,h.2.2.2.2⟩⟩
theorem ZlG (v:Value) (s:St) (w:World) (Z:StV w v s):
 Calls prog 82 #[v] w fun e w'=>e=.returned (.bool (decide (Yl s)))∧Below w.heap.size w w':=by
 obtain⟨H,rfl,C,-,-⟩:=Z;obtain⟨kind,l,f,g⟩:=s;simp only at C ⊢;have G:=Qc (fun p q W=>Gz p q W)
 have I:=Qc (fun n l2 Q Y T W P N=>Zdu n l2 Q Y T W P N)
 have K:Hid (∀ W,Below w.heap.size w W->Calls prog 122 #[.int .i64 kind,H] W fun e w'=>e=.returned (.bool (decide (0<=kind∧kind<6∧Zd kind l)))∧Below W.heap.size W w'):=fun W h=>ZjK kind H l W (C.below h zL)
 have t:=Qc (ZuU kind l f g);obtain⟨R,F⟩:=zgy (decide (Yl ⟨kind,l,f,g⟩));rw[<-F];have y:=Qc F;have k:Hid (∀ x,Below w.heap.size w (w.alloc x)):=fun x=>(zac _ _).alloc zL x
 clear F C;by_cases u:f=false∧g≠0
 ·obtain⟨rfl,z⟩:=u
  have hq:(g != 0)=true:=zbf.2 z;have L:Hid (decide (Yl ⟨kind,l,false,g⟩)=false):=zae (fun h=>z ((t.o.1 h).1 rfl))
  clear z
  go_enter func82,ntmps82
  go_wp2;go_ret;exact⟨Y6 (y.o.trans L.o).symm,k.o _⟩
 ·have i:((g != 0)=false)∨((g != 0)=true∧f=true):=by
   by_cases c:g=0
   ·exact .inl (zbj.2 c)
   ·cases f
    ·exact absurd ⟨rfl,c⟩ u
    ·exact .inr ⟨zbf.2 c,rfl⟩
  have M:Hid (f=false->g=0):=fun h=>by
   by_cases c:g=0
   ·exact c
   ·exact absurd ⟨h,c⟩ u
  clear u;by_cases d:0<=g∧g<=2
  ·have E:=Qc (zah d)
   have X:=Qc d;clear d
   have A:Hid (decide (0<=kind∧kind<6∧Zd kind l)=R):=by
    rw[y.o];exact zcd.2 ⟨fun h=>t.o.2 ⟨M.o,X.o,h⟩,fun h=>(t.o.1 h).2.2⟩
   rcases i with i | ⟨i,rfl⟩
   all_goals
    go_enter func82,ntmps82
    go_wp2_with fail
    refine(G.o _ _ _).mono ?_;rintro e m ⟨V,U,rfl,D,B,b⟩;have a:=(b.block w.heap.size (by simp)).trans (zaf w _)
    have q0:=zam m w.heap.size 0 _ _ _ a;have q1:=zam m w.heap.size 1 _ _ _ a;have O:=zam m w.heap.size 3 _ _ _ a;have j:=Qc ((k.o _).trans (b.mono (k.o _).size));clear b a
    go_wp2_with fail
    refine(I.o _ _ _ _ _ _ D B).mono ?_;rintro e S ⟨rfl,rfl⟩;rw[E.o]
    go_wp2_with fail
    refine(K.o _ j.o).mono ?_;rintro e W3 ⟨rfl,J⟩;rw[A.o];have aa:=Qc (j.o.trans (J.mono j.o.size));clear J;go_wp2;go_ret;exact⟨rfl,aa.o⟩
  ·have E:=Qc (zae d)
   have A:Hid (R=false):=y.o.trans (zae fun h=>d (t.o.1 h).2.1)
   clear d;rcases i with i | ⟨i,rfl⟩
   all_goals
    go_enter func82,ntmps82
    go_wp2_with fail
    refine(G.o _ _ _).mono ?_;rintro e m ⟨V,U,rfl,D,B,b⟩;have a:=(b.block w.heap.size (by simp)).trans (zaf w _)
    have O:=zam m w.heap.size 3 _ _ _ a;have j:=Qc ((k.o _).trans (b.mono (k.o _).size));clear b a
    go_wp2_with fail
    refine(I.o _ _ _ _ _ _ D B).mono ?_;rintro e S ⟨rfl,rfl⟩;rw[E.o];go_wp2;go_ret;exact⟨Y6 A.o.symm,j.o⟩
theorem ZlH (o:Opn) (w:World):
 Calls prog 80 #[opV o] w fun e w'=>e=.returned (.bool (decide (Ge o)))∧Below w.heap.size w w':=by
 obtain⟨c,a,b⟩:=o;have E:=Qc (fun p q W=>Gz p q W)
 have z:=Qc (fun n l2 Y L H W X V=>Zdu n l2 Y L H W X V)
 have i:Hid (Ge ⟨c,a,b⟩↔(0<=c∧c<=10)∧(-1099511627776<=a∧a<=1099511627776)∧(-1099511627776<=b∧b<=1099511627776)):=
  ⟨fun h=>⟨⟨h.1,h.2.1⟩,⟨h.2.2.1,h.2.2.2.1⟩,h.2.2.2.2⟩,fun h=>⟨h.1.1,h.1.2,h.2.1.1,h.2.1.2,h.2.2⟩⟩
 obtain⟨R,D⟩:=zgy (decide (Ge ⟨c,a,b⟩));rw[<-D];have U:=Qc D;have K:Hid (∀ x,Below w.heap.size w (w.alloc x)):=fun x=>(zac _ _).alloc zL x
 clear D
 have go:∀ k j m,Hid (decide (0<=c∧c<=10)=k)->Hid (decide (-1099511627776<=a∧a<=1099511627776)=j)->Hid (decide (-1099511627776<=b∧b<=1099511627776)=m)->Hid ((k && j && m)=R)->
  Calls prog 80 #[.agg #[.int .i64 c,.int .i64 a,.int .i64 b]] w fun e w'=>e=.returned (.bool R)∧Below w.heap.size w w':=by
  intro k j m P Q T y
  go_enter func80,ntmps80
  go_wp2_with fail
  refine(E.o _ _ _).mono ?_;rintro e M ⟨a1,b1,rfl,g,f,B⟩;have I:=Qc ((K.o _).trans (B.mono (K.o _).size));have C:=Qc ((B.block w.heap.size (by simp)).trans (zaf w _))
  have u:=Qc g;have t:=Qc f;clear B g f
  go_wp2_with fail
  refine(E.o _ _ _).mono ?_;rintro e A ⟨L,H,rfl,N,O,d⟩;have l:=(d.block w.heap.size (zan.1 C.o).1).trans C.o;have q0:=zam A w.heap.size 0 _ _ _ l;have q1:=zam A w.heap.size 1 _ _ _ l;have q2:=zam A w.heap.size 2 _ _ _ l;have g:=(d.cell (zau M ⟨a1,0,none⟩ u.o)).trans u.o;have f:=(d.cell (zau M ⟨b1,0,none⟩ t.o)).trans t.o;have v:=Qc (I.o.trans (d.mono I.o.size));have Z:=Qc g;have S:=Qc f;have J:=Qc N;have F:=Qc O;clear d l C u t g f N O
  go_wp2_with fail
  refine(z.o _ _ _ _ _ _ Z.o S.o).mono ?_;rintro e G ⟨rfl,rfl⟩;rw[P.o]
  cases k
  ·go_wp2
   go_ret;exact⟨Y6 (by rw[<-y.o];rfl),v.o⟩
  ·go_wp2_with fail
   refine(z.o _ _ _ _ _ _ J.o F.o).mono ?_;rintro e G ⟨rfl,rfl⟩;rw[Q.o]
   cases j
   ·go_wp2
    go_ret;exact⟨Y6 (by rw[<-y.o];rfl),v.o⟩
   ·go_wp2_with fail
    refine(z.o _ _ _ _ _ _ J.o F.o).mono ?_;rintro e G ⟨rfl,rfl⟩;rw[T.o];go_wp2;go_ret;exact⟨Y6 (by rw[<-y.o];rfl),v.o⟩
 refine go _ _ _ rfl rfl rfl (Qc ?_);rw[U.o,<-zd7,<-zd7];exact zcd.2 ⟨fun h=>i.o.2 ⟨h.1.1,h.1.2,h.2⟩,fun h=>⟨⟨(i.o.1 h).1,(i.o.1 h).2.1⟩,(i.o.1 h).2.2⟩⟩
theorem Zxi (v:Value) (s:St) (w:World) (B:StV w v s) (b:s.L.length<=1000000):
 Calls prog 81 #[v] w fun e w'=>∃ vl',e=.returned (.agg #[.int .i64 s.kind,vl',.bool s.shut,.int .i64 s.eng])∧Qs w' w.heap.size vl' s.L∧Below w.heap.size w w':=by
 obtain⟨j,rfl,d,-,-⟩:=B;obtain⟨kind,l,u,g⟩:=s;simp only at d b ⊢;have n:Hid (∀ W,Below w.heap.size w W->Calls prog 39 #[j] W fun e w'=>∃ v',e=.returned v'∧Qs w' W.heap.size v' l∧Below W.heap.size W w'):=fun W h=>ZfI j l W (d.below h zL) b
 have f:Hid (∀ x y,Below w.heap.size w ((w.alloc x).alloc y)):=fun x y=>((zac _ _).alloc zL x).alloc (by simp) y
 clear d b
 go_enter func81,ntmps81
 go_wp2_with fail
 refine(n.o _ (f.o _ _)).mono ?_;rintro e m ⟨D,rfl,k,i⟩;have a:ZoK m w.heap.size _ _:=(ZoK.made w _ _).below i (by simp)
 have F:=(a.s 0).1;have N:=(a.s 1).1;have G:=(a.s 2).1;have H:=(a.s 3).1;have I:=(a.s 1).2;have z:=(a.r 0).1;have p:=(a.r 1).1;have C:=(a.r 2).1;have A:=(a.r 3).1;have E:=(a.r 0).2;have J:=(a.r 1).2;have K:=(a.r 2).2;have M:=(a.r 3).2;have q:=Qc ((f.o _ _).trans (i.mono (f.o _ _).size))
 have c:Qs m (w.heap.size+1+1) D l:=by
  have e:∀ x y,((w.alloc x).alloc y).heap.size=w.heap.size+1+1:=fun x y=>by simp
  rwa [e] at k
 have t:=Qc c;obtain⟨ao,cap,rfl⟩:=c.shape;clear i a k c;go_wp2;refine zap (v:=.agg #[.int .i64 kind,.slice ao l.length cap,.bool u,.int .i64 g]) (by simp[results,Tryz.results81,go_sem,z,p,C,A]) rfl ?_
 exact⟨_,rfl,(t.o.five w.heap.size (w.heap.size+1) (by omega) (by omega) _ _ _ _ _).mono (by omega),Zue q.o w.heap.size (w.heap.size+1) zL (by omega) _ _ _ _ _⟩
open Go.RowKit Go.ChangeShapes
theorem ZlI:prog.cellsOf 52=3:=by kernel_rfl
section
variable {H:Type} {enc:TypeId × Value->H} {w:World} {base fuel:Nat} {held:Bool}
theorem ZeI {cs:List Value} {x:DataW H × List MemPlace} (h:DataW.trod enc prog w base (fun _=>true) held fuel 52 cs=some x):
 ∃ (o:Opn),cs=[.int .i64 o.code,.int .i64 o.a,.int .i64 o.b]∧Zyw o:=by
 obtain⟨xs,n,_,_,g,t,c⟩:=zgf underlying52 h;rw[ZlI] at g
 match xs,t,cs,g with
 | [y0,y1,y2],_,[c0,c1,c2],_=>
  have f:=c 0 _ rfl;have e:=c 1 _ rfl;have j:=c 2 _ rfl;simp[ZhT] at f e j;obtain⟨k,d,_,q⟩:=zdd underlying3 f;obtain⟨a,l,_,m⟩:=zdd underlying3 e;obtain⟨b,i,_,p⟩:=zdd underlying3 j;simp only [zep,zew] at d l i;subst d l i;exact⟨⟨k,a,b⟩,rfl,Z1 q,Z1 m,Z1 p⟩
end
theorem ZuV (h:Yl s):∀ x ∈ s.L,I64 x:=by
 have f:=h.2.2.2.1;have g:=h.2.2.2.2.1;have a:=h.2.2.2.2.2;by_cases b:s.kind=4
 ·rw[b,Zbq] at a
  exact ZaB (by decide) (by decide) a.2
 ·by_cases c:s.kind=5
  ·rw[c,ZaK] at a
   exact ZaB (by decide) (by decide) a.2
  ·have d:=(J6 _).1 ((Yk b c).1 a).2.2
   intro x e;have:=d x e;exact Qo (by omega) (by omega)
theorem ZlJ (h:Yl s):s.L.length<=128:=by
 have d:=h.2.2.2.1;have e:=h.2.2.2.2.1;have a:=h.2.2.2.2.2;by_cases b:s.kind=4
 ·rw[b,Zbq] at a
  exact a.1
 ·by_cases c:s.kind=5
  ·rw[c,ZaK] at a
   exact a.1
  ·have:=((Yk b c).1 a).1
   omega
theorem Zst (h:Yl s) (b:s.shut=false) (o:Opn) (c:o.code=10):Zz s o=(⟨s.kind,s.L,true,if 0<=o.a∧o.a<=2 then o.a else s.eng⟩,0):=by
 unfold Zz;rw[zaa (fun e=>e h),zaa (by simp[b]),zab c]
theorem Zkt (h:Yl s) (a:s.shut=false) (o:Opn) (b:o.code≠10):Zz s o=if s.kind<=1 then Zef s o else if s.kind<=3 then Zq s o else if s.kind=4 then Z5 s o else Yd s o:=by
 unfold Zz;rw[zaa (fun e=>e h),zaa (by simp[a]),zaa b]
theorem Zpv (s:St) (o:Opn):(Z5 s o).1.kind=s.kind∧(Z5 s o).1.shut=s.shut∧(Z5 s o).1.eng=s.eng:=by
 rw[Zgi];exact Zfr s o
theorem Zpw {r:St × Int} {s:Bool} (h:r.1.kind=k∧r.1.shut=s∧r.1.eng=g):r=(⟨k,r.1.L,s,g⟩,r.2):=by
 obtain⟨⟨d,j,f,e⟩,i⟩:=r;obtain⟨b,c,a⟩:=h;simp only at b c a;rw[b,c,a]
theorem ZyM (s:St) (v:Value) (o:Opn) (B:Nat) (w:World) (k:Qs w B v s.L) (n:B<=w.heap.size) (d:Yl s):
 Calls prog 83 #[.agg #[.int .i64 s.kind,v,.bool s.shut,.int .i64 s.eng],opV o] w fun e w'=>Did B w v (Zz s o) e w':=by
 obtain⟨kind,l,z,g⟩:=s
 cases z with
 | true=>
  rw[ZrH d rfl];exact Zpq kind g l v o B w k
 | false=>
  have A:0<=kind:=d.2.2.2.1;have C:kind<6:=d.2.2.2.2.1;have u:=d.2.2.2.2.2;obtain⟨c,a,b⟩:=o;by_cases i:c=10
  ·rw[Zst d rfl _ i]
   subst i;exact Zpr kind g a b l v B w k
  ·rw[Zkt d rfl _ i]
   by_cases q:kind<=1
   ·rw[zab q]
    obtain⟨j,f,x⟩:=ZAf d q;exact Zsr kind g (by omega) l v ⟨c,a,b⟩ i B w k j f x
   ·rw[zaa q]
    by_cases t:kind<=3
    ·rw[zab t,Zpw (Zhr ⟨kind,l,false,g⟩ ⟨c,a,b⟩)]
     exact Zps kind g (by omega) l _ _ v c a b i B w k (fun W j f=>Zxe kind (by omega) v l ⟨c,a,b⟩ false g B W j f (ZuV d) (ZAg d t)) n
    ·rw[zaa t]
     by_cases p:kind=4
     ·rw[zab p,Zpw (Zpv ⟨kind,l,false,g⟩ ⟨c,a,b⟩)]
      subst p;have m:=(Zbq l).1 u;exact Znq 4 g rfl l _ _ v c a b i B w k (fun W j f=>Zsq v l ⟨c,a,b⟩ false g B W j f m.2 m.1) n
     ·rw[zaa p,Zpw (ZdF ⟨kind,l,false,g⟩ ⟨c,a,b⟩)]
      have y:kind=5:=by omega
      subst y;have m:=(ZaK l).1 u;exact ZlF 5 g rfl l _ _ v c a b i B w k (fun W j f=>Zpp v l ⟨c,a,b⟩ false g B W j f m.2 m.1) n
theorem Zxj (v:Value) (s:St) (o:Opn) (w:World) (hs:StV w v s) (M:s.L.length<=1000000):
 Calls prog 42 #[v,opV o] w fun e w'=>Zfs w (lval v) s.L (Zz s o) e w':=by
 obtain⟨vl,rfl,I,D,G⟩:=hs;rw[ZqB];obtain⟨kind,l,f,g⟩:=s;simp only at I D G M ⊢;have O:=Qc I.i64;have Y:Hid (∀ W,Below w.heap.size w W->Calls prog 81 #[.agg #[.int .i64 kind,vl,.bool f,.int .i64 g]] W fun e w'=>∃ vl',e=.returned (.agg #[.int .i64 kind,vl',.bool f,.int .i64 g])∧Qs w' W.heap.size vl' l∧Below W.heap.size W w'):=fun W h=>Zxi _ ⟨kind,l,f,g⟩ W ⟨vl,rfl,I.below h zL,D,G⟩ M
 have ad:Hid (∀ j W,RdI W j l->Calls prog 82 #[.agg #[.int .i64 kind,j,.bool f,.int .i64 g]] W fun e w'=>e=.returned (.bool (decide (Yl ⟨kind,l,f,g⟩)))∧Below W.heap.size W w'):=fun j W h=>ZlG _ ⟨kind,l,f,g⟩ W ⟨j,rfl,h,D,G⟩
 have A:Hid (∀ x y z,Below w.heap.size w (((w.alloc x).alloc y).alloc z)):=fun x y z=>(Zy w x y z).1
 have J:Hid (∀ x y z,(((w.alloc x).alloc y).alloc z).heap.size=w.heap.size+1+1+1):=fun x y z=>ZAe w x y z
 have al:=Qc D;have ak:=Qc G;obtain⟨n,a,b⟩:=o;clear I D G M;show Calls prog _ #[_,.agg #[.int .i64 n,.int .i64 a,.int .i64 b]] w _;by_cases t:Yl ⟨kind,l,f,g⟩
 ·have U:=Qc (zah t)
  have af:Hid (∀ j B W,Qs W B j l->B<=W.heap.size->Calls prog 83 #[.agg #[.int .i64 kind,j,.bool f,.int .i64 g],.agg #[.int .i64 n,.int .i64 a,.int .i64 b]] W fun e w'=>Did B W j (Zz ⟨kind,l,f,g⟩ ⟨n,a,b⟩) e w'):=fun j B W h1 h2=>ZyM ⟨kind,l,f,g⟩ j ⟨n,a,b⟩ B W h1 h2 t
  have C:=ZhG t ⟨n,a,b⟩;have Z:=Qc (ZuV C);have ai:Hid (I64 (Zz ⟨kind,l,f,g⟩ ⟨n,a,b⟩).1.kind):=Qo (by have:=C.2.2.2.1;omega) (by have:=C.2.2.2.2.1;omega)
  have ac:Hid (I64 (Zz ⟨kind,l,f,g⟩ ⟨n,a,b⟩).1.eng):=Qo (by have:=C.1;omega) (by have:=C.2.1;omega)
  obtain⟨⟨⟨k',L',s',g'⟩,n'⟩,ag⟩:=zgy (Zz ⟨kind,l,f,g⟩ ⟨n,a,b⟩);rw[<-ag] at af Z ai ac ⊢;clear t C ag
  go_enter func42,ntmps42
  go_wp2_with fail
  refine(Y.o _ (A.o _ _ _)).mono ?_;rintro e c ⟨j,rfl,p,q⟩;rw[J.o] at p;have H:=Qc ((Da.made w _ _ _).below q (by simp))
  have u:=Qc ((A.o _ _ _).trans (q.mono (A.o _ _ _).size));have E:=Qc p;have T:=q.size;rw[J.o] at T;obtain⟨ao,cap,rfl⟩:=p.shape;clear q p
  go_wp2_with fail
  refine(ad.o _ _ ((E.o.alloc _).rd O.o)).mono ?_;rintro e m ⟨rfl,i⟩;rw[U.o];have K:=Qc ((u.o.alloc u.o.size _).trans (i.mono (by have:=u.o.size;simp;omega)))
  have F:=Qc ((E.o.alloc _).below i zL);have aq:=i.size;have d:=(H.o.below ((zac c.heap.size c).alloc zL _) (by omega)).below i (by simp;omega)
  have k:=(i.block c.heap.size (by simp)).trans (zaf c _)
  have am:=Qc d;obtain⟨p0,-⟩:=d.o 0;obtain⟨p1,-⟩:=d.o 1;obtain⟨p2,-⟩:=d.o 2;have q0:=zam m c.heap.size 0 _ _ _ k;have q1:=zam m c.heap.size 1 _ _ _ k;have q2:=zam m c.heap.size 2 _ _ _ k;have q3:=zam m c.heap.size 3 _ _ _ k;have ab:w.heap.size+1+1+1<=m.heap.size:=by simp at aq;omega
  clear i d k H
  go_wp2_with fail
  refine(af.o _ _ _ F.o ab).mono ?_;rintro e W3 ⟨v3,rfl,R,ae⟩;have S:=ae.below F.o ab;have d:=am.o.below S zL;obtain⟨N,t0⟩:=d.r 0;obtain⟨Q,t1⟩:=d.r 1;obtain⟨P,t2⟩:=d.r 2;obtain⟨X,t3⟩:=d.r 3;have an:=Qc (K.o.trans (S.mono (by omega)))
  have aa:=Qc R;obtain⟨ap,aj,rfl⟩:=R.shape;clear S ae d R;go_wp2;refine zap (v:=.tuple #[.agg #[.int .i64 k',.slice ap L'.length aj,.bool s',.int .i64 g'],.int .i64 n']) (by simp[results,Tryz.results42,go_sem,N,Q,P,X]) rfl ?_
  refine Zfs.fresh ((aa.o.four (w.heap.size+1+1) (by omega) _ _ _ _).rd Z.o) ai.o ac.o n' (fun b V=>?_) (Zae an.o (w.heap.size+1+1) (by omega) _ _ _ _)
  have:=aa.o.fresh b V;omega
 ·have U:=Qc (zae t)
  have HR:=Qc (ZhF t ⟨n,a,b⟩);rw[HR.o];clear t
  go_enter func42,ntmps42
  go_wp2_with fail
  refine(Y.o _ (A.o _ _ _)).mono ?_;rintro e c ⟨j,rfl,p,q⟩;rw[J.o] at p;have H:=Qc ((Da.made w _ _ _).below q (by simp))
  have u:=Qc ((A.o _ _ _).trans (q.mono (A.o _ _ _).size));have E:=Qc p;have T:=q.size;rw[J.o] at T;obtain⟨ao,cap,rfl⟩:=p.shape;clear q p
  go_wp2_with fail
  refine(ad.o _ _ ((E.o.alloc _).rd O.o)).mono ?_;rintro e m ⟨rfl,i⟩;rw[U.o];have K:=Qc ((u.o.alloc u.o.size _).trans (i.mono (by have:=u.o.size;simp;omega)))
  have F:=Qc ((E.o.alloc _).below i zL);have d:=(H.o.below ((zac c.heap.size c).alloc zL _) (by omega)).below i (by simp;omega)
  have k:=(i.block c.heap.size (by simp)).trans (zaf c _)
  obtain⟨N,t0⟩:=d.r 0;obtain⟨Q,t1⟩:=d.r 1;obtain⟨P,t2⟩:=d.r 2;obtain⟨X,t3⟩:=d.r 3;have q0:=zam m c.heap.size 0 _ _ _ k;have q1:=zam m c.heap.size 1 _ _ _ k;have q2:=zam m c.heap.size 2 _ _ _ k;have q3:=zam m c.heap.size 3 _ _ _ k;clear i d k H;go_wp2;refine zap (v:=.tuple #[.agg #[.int .i64 kind,.slice ao l.length cap,.bool f,.int .i64 g],.int .i64 0]) (by simp[results,Tryz.results42,go_sem,N,Q,P,X]) rfl ?_
  refine Zfs.fresh ((F.o.four (w.heap.size+1+1) (by omega) _ _ _ _).rd O.o) al.o ak.o 0 (fun b V=>?_) (Zae K.o (w.heap.size+1+1) (by omega) _ _ _ _)
  have:=F.o.fresh b V;omega
theorem Zsu (s:St) (o:Opn):I64 (Zz s o).2:=by
 by_cases h:s.kind≠4∨s.shut=true∨o.code=10∨o.code=5∨o.code=6∨o.code=7∨(0<=o.a∧o.a<=255)
 ·rw[ZwJ s o h]
  exact Zug s o
 ·by_cases d:Yl s
  ·have b:s.kind=4:=by
    by_cases b:s.kind=4
    ·exact b
    ·exact absurd (.inl b) h
   have c:s.shut=false:=by
    cases c:s.shut
    ·rfl
    ·exact absurd (.inr (.inl c)) h
   have f:o.code≠10:=fun e=>h (.inr (.inr (.inl e)))
   have g:¬ (0<=o.a∧o.a<=255):=fun e=>h (.inr (.inr (.inr (.inr (.inr (.inr e))))))
   rw[Zkt d c o f,zaa (by omega),zaa (by omega),zab b]
   unfold Z5;rw[zab (by omega)]
   exact(Qo (by decide) (by decide):I64 (-1))
  ·rw[ZhF d]
   exact(Qo (by decide) (by decide):I64 0)
theorem ZyN (n a b:Int) (B:Bool) (f:B=decide (a<=n∧n<=b)) (w:World):
 Calls prog 79 #[.int .i64 n,.int .i64 a,.int .i64 b] w fun e w'=>e=.returned (.bool B)∧w'=w:=by
 have c:=ZZ f;clear f;by_cases g:a<=n
 ·by_cases i:n<=b
  ·have d:Hid (true=B):=ZZ (by rw[c.o,zah ⟨g,i⟩])
   clear c
   go_enter func79,ntmps79
   go_wp2;go_ret;exact⟨Y6 d.o,rfl⟩
  ·have d:Hid (false=B):=ZZ (by rw[c.o,zae fun h=>i h.2])
   clear c
   go_enter func79,ntmps79
   go_wp2;go_ret;exact⟨Y6 d.o,rfl⟩
 ·have d:Hid (false=B):=ZZ (by rw[c.o,zae fun h=>g h.1])
  clear c
  go_enter func79,ntmps79
  go_wp2;go_ret;exact⟨Y6 d.o,rfl⟩
theorem Zpx (r:Rec):Qz r↔(0<=r.idx∧r.idx<=4611686018427387903)∧(0<=r.proc∧r.proc<=64)∧(0<=r.seq∧r.seq<=4611686018427387903)∧Ge r.op∧(-1125899906842624<=r.resp∧r.resp<=1125899906842624):=by
 unfold Qz;constructor
 ·rintro⟨h1,h2,h3,h4,h5,h6,h7,h8,h9⟩
  exact⟨⟨h2,by omega⟩,⟨h6,h7⟩,⟨h4,by omega⟩,h1,h8,h9⟩
 ·rintro⟨⟨h2,h3⟩,⟨h6,h7⟩,⟨h4,h5⟩,h1,h8,h9⟩
  exact⟨h1,h2,by omega,h4,by omega,h6,h7,h8,h9⟩
theorem Zig (r:Rec) (w:World):
 Calls prog 41 #[Zso r] w fun e w'=>e=.returned (.bool (decide (Qz r)))∧Below w.heap.size w w':=by
 obtain⟨B,x⟩:=zgy (decide (Qz r));rw[<-x];have g:=ZZ (Zpx r);have G:=ZZ (fun W=>ZlH r.op W)
 have f:=ZZ x;clear x;obtain⟨idx,proc,seq,⟨D,a,b⟩,resp⟩:=r;show Calls prog _ #[.agg #[.int .i64 idx,.int .i64 proc,.int .i64 seq,.int .i64 D,.int .i64 a,.int .i64 b,.int .i64 resp]] w _;have l:Hid (∀ X,Below w.heap.size w (w.alloc X)):=fun X=>(zac _ _).alloc zL X
 have F:Hid (∀ cs,Br (w.alloc (.cells cs 62)) w.heap.size cs):=fun cs=>zaf w _
 have q:Hid (∀ W,Calls prog 80 #[.agg #[.int .i64 D,.int .i64 a,.int .i64 b]] W fun e w'=>e=.returned (.bool (decide (Ge ⟨D,a,b⟩)))∧Below W.heap.size W w'):=G.o
 clear G;have c:=ZZ (fun n a b B x W=>ZyN n a b B x W)
 by_cases k:0<=idx∧idx<=4611686018427387903
 case neg=>
  have i:Hid (false=B):=ZZ (by rw[f.o,zae fun h=>k (g.o.1 h).1])
  have I:=ZZ (zae k).symm;clear f g k q
  go_enter func41,ntmps41
  go_wp2_with fail
  refine(c.o _ _ _ _ I.o _).mono ?_;rintro e d ⟨rfl,rfl⟩;go_wp2;go_ret;exact⟨Y6 i.o,l.o _⟩
 have A:=ZZ (zah k).symm;by_cases m:0<=proc∧proc<=64
 case neg=>
  have i:Hid (false=B):=ZZ (by rw[f.o,zae fun h=>m (g.o.1 h).2.1])
  have v:=ZZ (zae m).symm;clear f g k m q
  go_enter func41,ntmps41
  go_wp2_with fail
  refine(c.o _ _ _ _ A.o _).mono ?_;rintro e d ⟨rfl,rfl⟩
  go_wp2_with fail
  refine(c.o _ _ _ _ v.o _).mono ?_;rintro e d ⟨rfl,rfl⟩;go_wp2;go_ret;exact⟨Y6 i.o,l.o _⟩
 have v:=ZZ (zah m).symm;by_cases p:0<=seq∧seq<=4611686018427387903
 case neg=>
  have i:Hid (false=B):=ZZ (by rw[f.o,zae fun h=>p (g.o.1 h).2.2.1])
  have y:=ZZ (zae p).symm;clear f g k m p q
  go_enter func41,ntmps41
  go_wp2_with fail
  refine(c.o _ _ _ _ A.o _).mono ?_;rintro e d ⟨rfl,rfl⟩
  go_wp2_with fail
  refine(c.o _ _ _ _ v.o _).mono ?_;rintro e d ⟨rfl,rfl⟩
  go_wp2_with fail
  refine(c.o _ _ _ _ y.o _).mono ?_;rintro e d ⟨rfl,rfl⟩;go_wp2;go_ret;exact⟨Y6 i.o,l.o _⟩
 have y:=ZZ (zah p).symm;by_cases t:Ge ⟨D,a,b⟩
 case neg=>
  have i:Hid (false=B):=ZZ (by rw[f.o,zae fun h=>t (g.o.1 h).2.2.2.1])
  rw[zae t] at q;clear f g k m p t
  go_enter func41,ntmps41
  go_wp2_with fail
  refine(c.o _ _ _ _ A.o _).mono ?_;rintro e d ⟨rfl,rfl⟩
  go_wp2_with fail
  refine(c.o _ _ _ _ v.o _).mono ?_;rintro e d ⟨rfl,rfl⟩
  go_wp2_with fail
  refine(c.o _ _ _ _ y.o _).mono ?_;rintro e d ⟨rfl,rfl⟩
  go_wp2_with fail
  refine(q.o _).mono ?_;rintro e H ⟨rfl,j⟩;have z:=ZZ ((l.o _).trans (j.mono (l.o _).size));clear j;go_wp2;go_ret;exact⟨Y6 i.o,z.o⟩
 rw[zah t] at q;by_cases u:-1125899906842624<=resp∧resp<=1125899906842624
 case neg=>
  have i:Hid (false=B):=ZZ (by rw[f.o,zae fun h=>u (g.o.1 h).2.2.2.2])
  have E:=ZZ (zae u).symm;clear f g k m p t u
  go_enter func41,ntmps41
  go_wp2_with fail
  refine(c.o _ _ _ _ A.o _).mono ?_;rintro e d ⟨rfl,rfl⟩
  go_wp2_with fail
  refine(c.o _ _ _ _ v.o _).mono ?_;rintro e d ⟨rfl,rfl⟩
  go_wp2_with fail
  refine(c.o _ _ _ _ y.o _).mono ?_;rintro e d ⟨rfl,rfl⟩
  go_wp2_with fail
  refine(q.o _).mono ?_;rintro e H ⟨rfl,j⟩;have C:=(F.out _).below j zL;have z:=ZZ ((l.o _).trans (j.mono (l.o _).size));obtain⟨J,-⟩:=C.cell 6;clear j C
  go_wp2_with fail
  refine(c.o _ _ _ _ E.o _).mono ?_;rintro e K ⟨rfl,rfl⟩;go_wp2;go_ret;exact⟨Y6 i.o,z.o⟩
 have i:Hid (true=B):=ZZ (by rw[f.o,zah (g.o.2 ⟨k,m,p,t,u⟩)])
 have E:=ZZ (zah u).symm;clear f g k m p t u
 go_enter func41,ntmps41
 go_wp2_with fail
 refine(c.o _ _ _ _ A.o _).mono ?_;rintro e d ⟨rfl,rfl⟩
 go_wp2_with fail
 refine(c.o _ _ _ _ v.o _).mono ?_;rintro e d ⟨rfl,rfl⟩
 go_wp2_with fail
 refine(c.o _ _ _ _ y.o _).mono ?_;rintro e d ⟨rfl,rfl⟩
 go_wp2_with fail
 refine(q.o _).mono ?_;rintro e H ⟨rfl,j⟩;have C:=(F.out _).below j zL;have z:=ZZ ((l.o _).trans (j.mono (l.o _).size));obtain⟨J,-⟩:=C.cell 6;clear j C
 go_wp2_with fail
 refine(c.o _ _ _ _ E.o _).mono ?_;rintro e K ⟨rfl,rfl⟩;go_wp2;go_ret;exact⟨Y6 i.o,z.o⟩
def Zih (w:World) (vl0 vt0:Value) (l:List Rec) (r:Q0 × Int) (e:Ending) (w':World):Prop:=
 ∃ vl vt,e=.returned (.tuple #[.agg #[.int .i64 r.1.idx,.int .i64 r.1.st.kind,vl,.bool r.1.st.shut,.int .i64 r.1.st.eng,vt],.int .i64 r.2])∧RdI w' vl r.1.st.L∧I64 r.1.st.kind∧I64 r.1.st.eng∧RdE w' vt r.1.tab∧I64 r.1.idx∧
  (vl=vl0∨∀ b,vl.ownBlock=some b->w.heap.size<=b)∧((l=[]∧vt=vt0)∨Xn w' w.heap.size vt r.1.tab)∧Below w.heap.size w w'
def Znt (w:World) (S:Q0) (wr:World):Prop:=
 ∃ la lc ta tc,Bn wr w.heap.size #[.int .i64 S.idx,.int .i64 S.st.kind,.slice la S.st.L.length lc,.bool S.st.shut,.int .i64 S.st.eng,.slice ta S.tab.length tc]∧
  Bn wr (w.heap.size+1) #[.int .i64 0,.int .i64 0,.slice none 0 0,.bool false,.int .i64 0,.slice none 0 0]∧
  RdI wr (.slice la S.st.L.length lc) S.st.L∧(∀ b,(Value.slice la S.st.L.length lc).ownBlock=some b->w.heap.size+2<=b)∧
  Xn wr (w.heap.size+2) (.slice ta S.tab.length tc) S.tab∧(∀ e ∈ S.tab,Zlx e)∧I64 S.idx∧I64 S.st.kind∧I64 S.st.eng∧Below w.heap.size w wr
theorem Qs.freshI {l:List Int} (h:Qs w B v l):∀ b,v.ownBlock=some b->B<=b:=fun b a=>(zar h b a).1
theorem Xn.butN {l:List Ent} (h:Xn w B v l) (f:But R T w w') (j:∀ b,v.ownBlock=some b->b≠R∧b≠T):Xn w' B v l:=by
 rcases h.row with ⟨rfl,rfl⟩ | ⟨g,cap,cur,rfl,a,d,c,e,m,k,i⟩
 ·exact Xn.nil _ _
 ·have:=j g rfl
  exact Xn.ofRow rfl a ((f.block g d this.1 this.2).trans c) e m k i
theorem Xn.but {l:List Ent} (h:Xn w B v l) (a:But R T w w') (d:R<B) (c:T<B):Xn w' B v l:=
 h.butN a (fun b a=>by have:=h.fresh b a;omega)
theorem Zii {m:Bool} {z:Value} {L:List Int} {g:Option Addr}
 (l:Bn W w.heap.size #[.int .i64 idx,.int .i64 kind,z,.bool m,.int .i64 k,v]) (A:Bn W (w.heap.size+1) #[.int .i64 0,.int .i64 0,.slice none 0 0,.bool false,.int .i64 0,.slice none 0 0])
 (i:Qs W (w.heap.size+2) (.slice f L.length c) L) (y:∀ n ∈ L,I64 n) (x:Xn W (w.heap.size+2) (.slice g a.length d) a) (B:∀ e ∈ a,Zlx e) (t:I64 idx) (u:I64 kind) (q:I64 k) (p:Below w.heap.size w W):
 Znt w ⟨idx,⟨kind,L,m,k⟩,a⟩ ((W.setCell ⟨w.heap.size,2,none⟩ (.slice f L.length c)).setCell ⟨w.heap.size,5,none⟩ (.slice g a.length d)):=by
 have j:But w.heap.size w.heap.size W ((W.setCell ⟨w.heap.size,2,none⟩ (.slice f L.length c)).setCell ⟨w.heap.size,5,none⟩ (.slice g a.length d)):=((But.refl _ _ _).set _ _ (.inl rfl) _).set _ _ (.inl rfl) _;refine⟨f,c,g,d,(l.set 2 _).set 5 _,(A.other 2 _ (by omega)).other 5 _ (by omega),(i.rd y).but j (.inr fun b h=>?_),i.freshI,x.but j (by omega) (by omega),B,t,u,q,Zaf p j (by have:=l.lt;omega) zL zL⟩
 have:=i.freshI b h;omega
theorem ZuW (o:Opn) (h:s.L.length<=1000):(Zz s o).1.L.length<=1000:=by
 by_cases a:Yl s
 ·have:=(Zer (ZhG a o)).2.1
  omega
 ·rw[ZhF a]
  exact h
theorem Zsv {s:Q0} {l:List Rec} {q:Nat} (a:q<l.length):Q3 s (l.drop q)=if(l.getD q Qi).idx≠s.idx then(Yb,15) else if ¬ Qz (l.getD q Qi) then(Yb,1) else Q3 (ZhH s (l.getD q Qi)) (l.drop (q+1)):=by
 have e:l.drop q=l.getD q Qi::l.drop (q+1):=by
  rw[zdr a];simp[List.getD,a]
 rw[e,Q3]
def ZfO (W:World) (R Q:Nat) (k:Int) (v:Value) (sh:Bool) (g n:Int):World:=
 ((((W.setCell ⟨R,1,none⟩ (.int .i64 k)).setCell ⟨R,2,none⟩ v).setCell ⟨R,3,none⟩ (.bool sh)).setCell ⟨R,4,none⟩ (.int .i64 g)).setCell ⟨Q,6,none⟩ (.int .i64 n)
theorem Br.other {cs:Array Value} (h:Br w b cs) (j:Nat) (x:Value) (a:b≠c):Br (w.setCell ⟨c,j,none⟩ x) b cs:=(zal _ _ _ _ a).trans h
theorem Zpy (W:World) (R Q:Nat) (k:Int) (v:Value) (a:Bool) (g n:Int):But R Q W (ZfO W R Q k v a g n):=
 (((((But.refl R Q W).set _ _ (.inl rfl) _).set _ _ (.inl rfl) _).set _ _ (.inl rfl) _).set _ _ (.inl rfl) _).set _ _ (.inr rfl) _
theorem Zsw (i:R≠Q) {c f d e j b:Value} (h:Bn W R #[c,f,d,e,j,b]) (k:Int) (v:Value) (a:Bool) (g n:Int):Bn (ZfO W R Q k v a g n) R #[c,.int .i64 k,v,.bool a,.int .i64 g,b]:=
 ((((h.set 1 _).set 2 _).set 3 _).set 4 _).other 6 _ i
theorem Zsx (a:Q≠R) {i d b c f e j:Value} (h:Br W Q #[i,d,b,c,f,e,j]) (k:Int) (v:Value) (l:Bool) (g n:Int):Br (ZfO W R Q k v l g n) Q #[i,d,b,c,f,e,.int .i64 n]:=
 ((((h.other 1 _ a).other 2 _ a).other 3 _ a).other 4 _ a).set 6 _
theorem Zpz {C:Nat} (a:C≠R) (c:C≠Q) {cs:Array Value} (h:Bn W C cs) (k:Int) (v:Value) (b:Bool) (g n:Int):Bn (ZfO W R Q k v b g n) C cs:=
 ((((h.other 1 _ a).other 2 _ a).other 3 _ a).other 4 _ a).other 6 _ c
theorem ZpA {j:Int} {l:Bool} {u:Value} {L:List Int} {g:Option Addr}
 (m:Bn W w.heap.size #[.int .i64 idx,.int .i64 kind,.slice f L.length c,.bool l,.int .i64 j,u]) (y:Bn W (w.heap.size+1) #[.int .i64 0,.int .i64 0,.slice none 0 0,.bool false,.int .i64 0,.slice none 0 0])
 (x:RdI W (.slice f L.length c) L) (k:∀ b,(Value.slice f L.length c).ownBlock=some b->w.heap.size+2<=b) (v:Xn W (w.heap.size+2) (.slice g a.length d) a) (z:∀ e ∈ a,Zlx e) (q:I64 (idx+1)) (t:I64 kind) (p:I64 j) (n:Below w.heap.size w W):
 Znt w ⟨idx+1,⟨kind,L,l,j⟩,a⟩ ((W.setCell ⟨w.heap.size,5,none⟩ (.slice g a.length d)).setCell ⟨w.heap.size,0,none⟩ (.int .i64 (idx+1))):=by
 have i:But w.heap.size w.heap.size W ((W.setCell ⟨w.heap.size,5,none⟩ (.slice g a.length d)).setCell ⟨w.heap.size,0,none⟩ (.int .i64 (idx+1))):=((But.refl _ _ _).set _ _ (.inl rfl) _).set _ _ (.inl rfl) _;refine⟨f,c,g,d,(m.set 5 _).set 0 _,(y.other 5 _ (by omega)).other 0 _ (by omega),x.but i (.inr fun b h=>?_),k,v.but i (by omega) (by omega),z,q,t,p,Zaf n i (by have:=m.lt;omega) zL zL⟩
 have:=k b h;omega
theorem Zih.zero (c d:Value) (l:List Rec) (n:Int) (a:Below w.heap.size w w'):Zih w c d l (Yb,n) (.returned (.tuple #[.agg #[.int .i64 0,.int .i64 0,.slice none 0 0,.bool false,.int .i64 0,.slice none 0 0],.int .i64 n])) w':=
 ⟨_,_,rfl,RdI.nil _,(Qo (by decide) (by decide):I64 0),(Qo (by decide) (by decide):I64 0),RdE.nil _,(Qo (by decide) (by decide):I64 0),.inr (fun b a=>by simp[Value.ownBlock] at a),.inr (Xn.nil _ _),a⟩
theorem Zij {P:Q0->Prop} (aP:∀ S r,P S->Qz r->P (ZhH S r)) (a4:∀ S,P S->S.tab.length<=1500) (idx kind:Int) (vl:Value) (K:Bool) (J:Int) (vt:Value) (s:Q0) (vr:Value) (l:List Rec) (w:World) (hs:SnV w (.agg #[.int .i64 idx,.int .i64 kind,vl,.bool K,.int .i64 J,vt]) s) (hr:RdR w vr l) (aR:s.st.L.length<=1000) (bC:s.tab.length<=1000) (bY:l.length<=1000000000) (bd:P s):
 Calls prog 15 #[.agg #[.int .i64 idx,.int .i64 kind,vl,.bool K,.int .i64 J,vt],vr] w fun e w'=>Zih w vl vt l (Q3 s l) e w':=by
 obtain⟨vl',bX,Z,hl,hk,y,ht,hi⟩:=hs
 injection Z with Z
 injection Z with Z
 simp only [zep,Value.int.injEq,Value.bool.injEq,zew,zf3] at Z;obtain⟨rfl,rfl,rfl,rfl,rfl,rfl⟩:=Z;obtain⟨la,lc,bp,-⟩:=id hl;obtain⟨ta,tc,bB⟩:=ht.shape;subst bp bB;obtain⟨ra,rc,rfl,bU,bK,-,aY,bb⟩:=hr;have bI:=ZZ aP;have bE:=ZZ a4;clear aP a4;have a3:=ZZ bb;have a7:=ZZ aY;obtain⟨idx,⟨kind,L,K,J⟩,aa⟩:=s
 dsimp only at *
 have a6:=ZZ bd;clear bd;obtain⟨N,aD⟩:=zgy (Q3 ⟨idx,⟨kind,L,K,J⟩,aa⟩ l);rw[<-aD];have aZ:=ZZ aD;have aQ:Hid (∀ (S:Q0) (q:Nat),q<l.length->Q3 S (l.drop q)=if(l.getD q Qi).idx≠S.idx then(Yb,15) else if ¬ Qz (l.getD q Qi) then(Yb,1) else Q3 (ZhH S (l.getD q Qi)) (l.drop (q+1))):=ZZ (fun S q hq=>Zsv hq)
 clear aD bb aY bU bK;have bi:=ZZ (fun W (h:Below w.heap.size w W)=>ZfI _ L W (hl.below h zL) (by omega))
 have bn:=ZZ (fun W (h:Below w.heap.size w W)=>ZfJ _ aa W (ht.below h zL) (by omega))
 have aI:=ZZ hl.i64;have bc:∀ e ∈ aa,Zlx e:=ht.choose_spec.choose_spec.2.2.2.2.1;have a0:=ZZ bc;have p:Hid (∀ X Y,Below w.heap.size w ((w.alloc X).alloc Y)):=fun X Y=>((zac _ _).alloc zL X).alloc (by simp) Y
 have R:Hid (∀ cs ds,Bn ((w.alloc (.cells cs 41)).alloc (.cells ds 41)) w.heap.size cs):=fun cs ds=>(zao _ _ _ (by simp)).trans (zaf w _)
 have g:Hid (∀ cs ds,Bn ((w.alloc (.cells cs 41)).alloc (.cells ds 41)) (w.heap.size+1) ds):=fun cs ds=>ZdR w _ _
 clear hl ht bc
 go_enter func15,ntmps15
 go_upto_region 1 with fail
 obtain⟨d,f⟩:=zgy ((w.alloc (.cells #[.int .i64 idx,.int .i64 kind,.slice la L.length lc,.bool K,.int .i64 J,.slice ta aa.length tc] 41)).alloc (.cells #[.int .i64 0,.int .i64 0,.slice none 0 0,.bool false,.int .i64 0,.slice none 0 0] 41));have H:Hid (Below w.heap.size w d):=ZZ (by rw[f];exact p.o _ _)
 have A:Hid (Bn d w.heap.size #[.int .i64 idx,.int .i64 kind,.slice la L.length lc,.bool K,.int .i64 J,.slice ta aa.length tc]):=ZZ (by rw[f];exact R.o _ _)
 have aS:Hid (Bn d (w.heap.size+1) #[.int .i64 0,.int .i64 0,.slice none 0 0,.bool false,.int .i64 0,.slice none 0 0]):=ZZ (by rw[f];exact g.o _ _)
 have bw:d.heap.size=w.heap.size+2:=by rw[f];simp
 rw[<-f];clear f p R g;obtain⟨p2,g2⟩:=A.o.cell 2;obtain⟨p5,g5⟩:=A.o.cell 5
 go_cut[] (fun wc=>Hid (Znt w ⟨idx,⟨kind,L,K,J⟩,aa⟩ wc))
 case first=>
  go_region_with
   (first
    | (go_at_call 39;refine(bi.o _ (by first | exact H.o.drew | exact H.o)).mono ?_;rintro e W1 ⟨v1,rfl,aJ,i⟩;have al:Below d.heap.size d W1:=(by first | exact((zac _ _).drew).trans i | exact i);have bu:=ZZ aJ;have O:=ZZ al;obtain⟨a1,c1,bL⟩:∃ a c,v1=.slice a L.length c:=(by obtain⟨a,c,h,-⟩:=aJ.rd aI.o;exact⟨a,c,h⟩);subst bL;obtain⟨q2,k2⟩:=(A.o.below al zL).cell 2;obtain⟨q5,k5⟩:=(A.o.below al zL).cell 5;clear aJ i al)
    | (go_at_call 40;refine(bn.o _ (H.o.trans (O.o.mono H.o.size))).mono ?_;rintro e W2 ⟨v2,rfl,aN,m⟩;have bG:=ZZ aN;have ad:=ZZ (O.o.trans (m.mono O.o.size));have bO:=ZZ (bu.o.below m zL);obtain⟨a2,c2,aK⟩:=aN.shape;subst aK;obtain⟨r2,j2⟩:=(A.o.below ad.o zL).cell 2;obtain⟨r5,j5⟩:=(A.o.below ad.o zL).cell 5;clear aN m))
  all_goals
   go_wp2_with fail
   go_meet
   exact ZZ (Zii (A.o.below ad.o zL) (aS.o.below ad.o zL) (bO.o.mono (by first | omega | (show w.heap.size+2<=d.heap.size;omega))) aI.o (bG.o.mono (by have:=O.o.size;omega)) a0.o hi hk y (H.o.trans (ad.o.mono H.o.size)))
 case rest=>
  have bl:=hcut;clear hcut H A aS bw p2 g2 p5 g5 bi bn aI a0 d hk y hi;go_wp2
  go_loopw[20] (fun vi wr=>∃ (q:Nat) (S:Q0),vi=.int .i64 (q:Int)∧q<=l.length∧Hid (Znt w S wr)∧Hid (N=Q3 S (l.drop q))∧Hid (S.st.L.length<=1000)∧Hid (P S)) (fun vi _=>l.length-(intOf vi).toNat)
  case atStart=>exact⟨0,_,rfl,zai _,bl,aZ,ZZ aR,a6⟩
  case round=>
   clear bl aZ aR bC a6;obtain⟨q,S,rfl,hq,hT,ar,bk,ba⟩:=hrel;obtain⟨sa,sc,ea,ec,z,u,hL,bm,hE,bo,hi,hk,y,hB⟩:=hT.out;clear hT;have HX:=ZZ z;have HY:=ZZ u;have HL:=ZZ hL;have ap:=ZZ bm;have HE:=ZZ hE;have ay:=ZZ bo;have aj:=ZZ (And.intro hi (And.intro hk y));have HB:=ZZ hB;have bq:=ZZ u.lt;obtain⟨p0,g0⟩:=z.cell 0;obtain⟨p1,g1⟩:=z.cell 1;obtain⟨p2,g2⟩:=z.cell 2;obtain⟨p3,g3⟩:=z.cell 3;obtain⟨p4,g4⟩:=z.cell 4;obtain⟨p5,g5⟩:=z.cell 5;obtain⟨z0,y0⟩:=u.cell 0;obtain⟨T,y1⟩:=u.cell 1;obtain⟨z2,y2⟩:=u.cell 2;obtain⟨Q,y3⟩:=u.cell 3;obtain⟨U,y4⟩:=u.cell 4;obtain⟨z5,y5⟩:=u.cell 5;clear z u hL bm hE bo hi hk y hB;by_cases F:q<l.length
   case neg=>
    obtain rfl:q=l.length:=by omega
    have G:Hid (N=(S,0)):=ZZ (by rw[ar.out,zez];rfl)
    clear ar;have b1:¬ (w.heap.size=w.heap.size+1):=by omega
    go_wp2;refine zap (v:=.tuple #[.agg #[.int .i64 S.idx,.int .i64 S.st.kind,.slice sa S.st.L.length sc,.bool S.st.shut,.int .i64 S.st.eng,.slice ea S.tab.length ec],.int .i64 0]) (by simp[results,Tryz.results15,go_sem,z0,T,z2,Q,U,z5]) rfl ?_
    rw[G.o];have aA:=ZqQ wr (w.heap.size+1) (.int .i64 S.idx) (.int .i64 S.st.kind) (.slice sa S.st.L.length sc) (.bool S.st.shut) (.int .i64 S.st.eng) (.slice ea S.tab.length ec);exact⟨_,_,rfl,HL.o.but aA (.inr fun b h=>by have:=ap.o b h;omega),aj.o.2.1,aj.o.2.2,(HE.o.rd ay.o).but aA (.inr fun b h=>by have:=HE.o.fresh b h;omega),aj.o.1,.inr (fun b h=>by have:=ap.o b h;omega),.inr ((HE.o.but aA (by omega) (by omega)).mono (by omega)),ZeF HB.o _ (by omega) _ _ _ _ _ _⟩
   have bZ:(q:Int)<(l.length:Int):=by omega
   rcases a3.o with h0 | ⟨c,b4,rfl,hc⟩
   ·rw[h0] at F;simp at F
   obtain⟨c0,c1,c2,c3,c4,c5,c6⟩:=(hc q F).keep (HB.o.block c (hc q F).lt);have D:=ZZ (aQ.o S q F);rw[<-ar.out] at D;have ag:=ZZ (fun W=>Zig (l.getD q Qi) W)
   have I:Hid (Zcx (l.getD q Qi)):=ZZ (a7.o _ (by rw[show l.getD q Qi=l[q] by simp[List.getD,F]];exact zcs F))
   obtain⟨r,hr⟩:=zgy (l.getD q Qi);rw[<-hr] at D ag I c0 c1 c2 c3 c4 c5 c6;clear hr hc aQ a3 a7 ar;obtain⟨bf,aO⟩:=zgy (decide (Qz r));rw[<-aO] at ag;have aw:=ZZ aO;clear aO;have b3:=bq.o;clear p0 p1 p2 p3 p4 p5 g0 g1 g2 g3 g4 g5 z0 T z2 Q U z5 y0 y1 y2 y3 y4 y5
   go_upto_region 5 with fail
   obtain⟨d,f⟩:=zgy (wr.alloc (.cells (Ja r) 62));have p:Hid (Below wr.heap.size wr d):=ZZ (by rw[f];exact(zac _ _).alloc zL _)
   have k:Hid (Br d wr.heap.size (Ja r)):=ZZ (by rw[f];exact zaf wr _)
   unfold Ja at f;rw[<-f];clear f c0 c1 c2 c3 c4 c5 c6;unfold Ja at k;unfold Zso at ag;obtain⟨j,am⟩:=zgy wr.heap.size;have R:=ZZ (HX.o.below p.o zL);have g:=ZZ (HY.o.below p.o zL);have aq:=ZZ (HB.o.trans (p.o.mono HB.o.size));rw[<-am] at k ⊢;obtain⟨p0,g0⟩:=R.o.cell 0;obtain⟨k0,-⟩:=k.o.cell 0;obtain⟨k1,-⟩:=k.o.cell 1;obtain⟨k2,-⟩:=k.o.cell 2;obtain⟨k3,-⟩:=k.o.cell 3;obtain⟨k4,-⟩:=k.o.cell 4;obtain⟨k5,-⟩:=k.o.cell 5;obtain⟨k6,-⟩:=k.o.cell 6;by_cases ab:r.idx=S.idx
   case neg=>
    have G:Hid (N=(Yb,15)):=ZZ (by rw[D.o,zab ab])
    have bP:(r.idx != S.idx)=true:=by rw[zbf];exact ab
    obtain⟨z0,y0⟩:=g.o.cell 0;obtain⟨T,y1⟩:=g.o.cell 1;obtain⟨z2,y2⟩:=g.o.cell 2;obtain⟨Q,y3⟩:=g.o.cell 3;obtain⟨U,y4⟩:=g.o.cell 4;obtain⟨z5,y5⟩:=g.o.cell 5;clear ab D am;go_wp2;refine zap (v:=.tuple #[.agg #[.int .i64 0,.int .i64 0,.slice none 0 0,.bool false,.int .i64 0,.slice none 0 0],.int .i64 15]) (by simp[results,Tryz.results15,go_sem,z0,T,z2,Q,U,z5]) rfl ?_
    rw[G.o];exact Zih.zero _ _ _ _ (Zbf aq.o _ (by omega) _ _ _ _ _ _)
   have bP:(r.idx != S.idx)=false:=by rw[zbj];exact ab
   have aE:=ZZ ab;have af:=ZZ am;clear ab am
   go_wp2_with fail
   refine(ag.o _).mono ?_;rintro x W1 ⟨rfl,i⟩;have O:=ZZ (p.o.trans (i.mono p.o.size));have aL:=ZZ (aq.o.trans (i.mono aq.o.size));have ak:=ZZ (R.o.below i zL);have t:=ZZ (g.o.below i zL);have ae:=ZZ (k.o.below i zL);clear i p aq R g k ag p0 g0 k0 k1 k2 k3 k4 k5 k6
   cases bf with
   | false=>
    have G:Hid (N=(Yb,1)):=ZZ (by rw[D.o,zaa (by rw[aE.o];simp),zab (zdo aw.o.symm)])
    obtain⟨z0,y0⟩:=t.o.cell 0;obtain⟨T,y1⟩:=t.o.cell 1;obtain⟨z2,y2⟩:=t.o.cell 2;obtain⟨Q,y3⟩:=t.o.cell 3;obtain⟨U,y4⟩:=t.o.cell 4;obtain⟨z5,y5⟩:=t.o.cell 5;clear D;go_wp2;refine zap (v:=.tuple #[.agg #[.int .i64 0,.int .i64 0,.slice none 0 0,.bool false,.int .i64 0,.slice none 0 0],.int .i64 1]) (by simp[results,Tryz.results15,go_sem,z0,T,z2,Q,U,z5]) rfl ?_
    rw[G.o];exact Zih.zero _ _ _ _ (Zbf aL.o _ (by omega) _ _ _ _ _ _)
   | true=>
    have aC:Hid (Qz r):=ZZ (zcv aw.o.symm);have G:Hid (N=Q3 (ZhH S r) (l.drop (q+1))):=ZZ (by rw[D.o,zaa (by rw[aE.o];simp),zaa (fun h=>h aC.o)])
    have B:=ZZ (Zxj (.agg #[.int .i64 S.st.kind,.slice sa S.st.L.length sc,.bool S.st.shut,.int .i64 S.st.eng]) S.st r.op W1 ⟨_,rfl,HL.o.below O.o zL,aj.o.2.1,aj.o.2.2⟩ (by have:=bk.out;omega))
    rw[ZqB] at B;have ax:=ZZ (ZuW r.op bk.out);have an:=ZZ (Zsu S.st r.op);have ao:Hid (ZhH S r=⟨S.idx+1,(Zz S.st r.op).1,ZcF S.tab ⟨r.proc,r.seq,(Zz S.st r.op).2⟩⟩):=ZZ rfl;have be:=ZZ (Zul S.tab ⟨r.proc,r.seq,(Zz S.st r.op).2⟩);obtain⟨so,a8⟩:=zgy (Zz S.st r.op);rw[<-a8] at B ax an ao be;clear a8 D aw;obtain⟨⟨k',L',sh',g'⟩,n'⟩:=so
    dsimp only at B ax an ao be
    unfold opV at B;unfold Zfs at B
    dsimp only at B
    obtain⟨p1,g1⟩:=ak.o.cell 1;obtain⟨p2,g2⟩:=ak.o.cell 2;obtain⟨p3,g3⟩:=ak.o.cell 3;obtain⟨p4,g4⟩:=ak.o.cell 4;obtain⟨k3,-⟩:=ae.o.cell 3;obtain⟨k4,-⟩:=ae.o.cell 4;obtain⟨k5,-⟩:=ae.o.cell 5
    go_wp2_with fail
    refine B.o.mono ?_;rintro x W2 ⟨v2,rfl,aG,aW,a9,az,m⟩;clear B p1 g1 p2 g2 p3 g3 p4 g4 k3 k4 k5;have V:=ZZ (ak.o.below m zL);have bJ:=ZZ (t.o.below m zL);have C:=ZZ (ae.o.below m zL);have aX:=ZZ (aL.o.trans (m.mono aL.o.size));have br:=ZZ ((HE.o.below O.o zL).below m zL);obtain⟨a2,n2,aK⟩:∃ a c,v2=.slice a L'.length c:=by obtain⟨a,c,h,-⟩:=aG;exact⟨a,c,h⟩
    subst aK;have b0:j<W1.heap.size:=ae.o.lt
    have bR:Hid (L'=[]∨∀ b,(Value.slice a2 L'.length n2).ownBlock=some b->b≠w.heap.size∧b≠j):=ZZ (by
     rcases az with ⟨M,h2⟩ | h
     ·rw[M,h2]
      rcases HL.o.old with h3 | h3
      ·exact .inl h3
      ·exact .inr fun b n=>by
        have h4:=h3 b n;have h5:=ap.o b n;have h6:=af.o;omega
     ·exact .inr fun b n=>by
       have h4:=h b n;have h5:=t.o.lt
       omega)
    have bz:Hid (∀ b,(Value.slice a2 L'.length n2).ownBlock=some b->w.heap.size+2<=b):=ZZ (fun b n=>by
     rcases az with ⟨M,h2⟩ | h
     ·rw[M] at n
      exact ap.o b n
     ·have h4:=h b n
      have h5:=t.o.lt
      omega)
    have bD:Hid (∀ b,(Value.slice ea S.tab.length ec).ownBlock=some b->b≠w.heap.size∧b≠j):=ZZ (fun b n=>by
     have M:=zar HE.o b n;have h2:=af.o
     omega)
    have bg:w.heap.size≠j:=by have:=af.o;omega
    have bV:j≠w.heap.size:=fun h=>bg h.symm
    have bN:w.heap.size+1≠j:=by have:=af.o;omega
    have bQ:=ZZ aG;have bj:=ZZ (And.intro aW a9);clear aG aW a9 az m;obtain⟨E,ac⟩:=zgy (ZfO W2 w.heap.size j k' (.slice a2 L'.length n2) sh' g' n');have bx:Hid (Bn E w.heap.size #[.int .i64 S.idx,.int .i64 k',.slice a2 L'.length n2,.bool sh',.int .i64 g',.slice ea S.tab.length ec]):=ZZ (by rw[ac];exact Zsw bg V.o _ _ _ _ _)
    have b2:Hid (Br E j #[.int .i64 r.idx,.int .i64 r.proc,.int .i64 r.seq,.int .i64 r.op.code,.int .i64 r.op.a,.int .i64 r.op.b,.int .i64 n']):=ZZ (by rw[ac];exact Zsx bV C.o _ _ _ _ _)
    have aV:Hid (Bn E (w.heap.size+1) #[.int .i64 0,.int .i64 0,.slice none 0 0,.bool false,.int .i64 0,.slice none 0 0]):=ZZ (by rw[ac];exact Zpz (by omega) bN bJ.o _ _ _ _ _)
    have av:Hid (But w.heap.size j W2 E):=ZZ (by rw[ac];exact Zpy _ _ _ _ _ _ _ _)
    have bS:=ZZ (bQ.o.but av.o bR.o);have bv:=ZZ (br.o.butN av.o bD.o);have aU:=ZZ (Zaf aX.o av.o aX.o.size zL (by have:=af.o;omega))
    have au:=ZZ (ZuP (.slice ea S.tab.length ec) S.tab ⟨r.idx,r.proc,r.seq,r.op,n'⟩ E (bv.o.rd ay.o) ⟨I.o.1,I.o.2.1,I.o.2.2.1,I.o.2.2.2.1,an.o⟩ (by have:=bE.o _ ba.out;omega))
    unfold Zso at au
    dsimp only at au
    have aH:=ac;unfold ZfO at aH;have s1:=(V.o.cell 1);have s2:=(V.o.cell 2);have s3:=(V.o.cell 3);have s4:=(V.o.cell 4);have s5:=(V.o.cell 5);obtain⟨s1,u1⟩:=s1;obtain⟨s2,u2⟩:=s2;obtain⟨s3,u3⟩:=s3;obtain⟨s4,u4⟩:=s4;obtain⟨s5,u5⟩:=s5;obtain⟨t0,m0⟩:=C.o.cell 0;obtain⟨t1,m1⟩:=C.o.cell 1;obtain⟨t2,m2⟩:=C.o.cell 2;obtain⟨t3,m3⟩:=C.o.cell 3;obtain⟨t4,m4⟩:=C.o.cell 4;obtain⟨t5,m5⟩:=C.o.cell 5;obtain⟨t6,m6⟩:=C.o.cell 6;clear ac
    go_wp2_with fail
    rw[<-aH];refine au.o.mono ?_;rintro x W5 ⟨v5,rfl,aB,ai⟩;clear aH s1 s2 s3 s4 s5 u1 u2 u3 u4 u5 t0 t1 t2 t3 t4 t5 t6 m0 m1 m2 m3 m4 m5 m6 au;have aM:=ZZ (bx.o.below ai zL);have bF:=ZZ (aV.o.below ai zL);have bA:=ZZ (bS.o.below ai zL);have bT:=ZZ (aU.o.trans (ai.mono aU.o.size));have bM:=ZZ (aB.mono (B':=w.heap.size+2) (by have:=aV.o.lt;omega))
    obtain⟨a5,c5,bH⟩:=aB.shape;subst bH
    have bt:Hid (∀ e ∈ ZcF S.tab ⟨r.proc,r.seq,n'⟩,Zlx e):=ZZ (fun e y=>by
     unfold ZcF at y;rcases(ZhA _ _ _ _).1 y with ⟨-,h⟩ | ⟨h,-⟩
     ·rw[h]
      exact⟨I.o.2.1,I.o.2.2.1,an.o⟩
     ·exact ay.o e h)
    have aF:Hid (I64 (S.idx+1)):=ZZ (by
     have M:=aC.o;unfold Qz at M;have h2:=aE.o
     exact⟨by omega,by omega⟩)
    have bW:IntKind.i64.wrap (S.idx+1)=S.idx+1:=by
     have:=aF.o;rw[zbe];obtain⟨M,h2⟩:=this;omega
    obtain⟨p0,g0⟩:=aM.o.cell 0;obtain⟨p5,g5⟩:=aM.o.cell 5;clear aB ai;have aT:-9223372036854775808<=S.idx+1∧S.idx+1<=9223372036854775807:=aF.o;obtain⟨aT,i⟩:=aT;go_wp2;go_roundw
    case rel=>
     exact⟨q+1,ZhH S r,by go_num,by omega,ZZ (by rw[ao.o];exact ZpA aM.o bF.o bA.o bz.o bM.o bt.o aF.o bj.o.1 bj.o.2 bT.o),G,ZZ (by rw[ao.o];exact ax.o),ZZ (bI.o _ _ ba.out aC.o)⟩
    case measure=>simp[intOf];omega
def RdL (w:World) (v:Value) (L:List (List UInt8)):Prop:=
 ∃ ao cap,v=.slice ao L.length cap∧L.length<=cap∧cap<=maxLen∧(ao=none->cap=0)∧
  (L=[]∨∃ b off,ao=some ⟨b,off,none⟩∧∀ j,j<L.length->∃ x,w.cell? ⟨b,off+j,none⟩=some x∧Rd w x (L.getD j []))
def Zik (w:World) (B:Nat) (v:Value) (L:List (List UInt8)):Prop:=
 ∃ xs:List Value,w.ownsRow B 53 1 v L.length xs∧∀ j,j<L.length->∃ x,xs[j]?=some x∧Own w B x (L.getD j [])
theorem RdL.nil (w:World):RdL w (.slice none 0 0) []:=⟨none,0,rfl,zat _,zai _,fun _=>rfl,.inl rfl⟩
theorem Zik.nil (w:World) (B:Nat):Zik w B (.slice none 0 0) []:=⟨[],zcb w B 53 1,fun j a=>by simp at a⟩
theorem RdL.below (h:RdL w v L) {B:Nat} (e:Below B w w') (d:w.heap.size<=B):RdL w' v L:=by
 obtain⟨ao,cap,u,n,g,l,a⟩:=h;refine⟨ao,cap,u,n,g,l,?_⟩;rcases a with a | ⟨b,c,m,k⟩
 ·exact .inl a
 ·refine .inr ⟨b,c,m,fun j t=>?_⟩
  obtain⟨x,f,q⟩:=k j t;have i:b<w.heap.size:=zau w ⟨b,c+j,none⟩ f;refine⟨x,?_,q.below e d⟩;rw[e.cell (p:=⟨b,c+j,none⟩) (by exact zav i d)]
  exact f
theorem RdL.front (h:RdL w (.slice ao n cap) L) (k:Nat) (u:k<=L.length):RdL w (.slice ao k cap) (L.take k):=by
 obtain⟨v,A,c,z,l,d,a⟩:=h;simp only [za1] at c;obtain⟨rfl,_,rfl⟩:=c;have q:(L.take k).length=k:=by simp;omega
 refine⟨ao,cap,by rw[q],by omega,l,d,?_⟩
 rcases a with a | ⟨b,t,i,g⟩
 ·exact .inl (by rw[a];simp)
 ·refine .inr ⟨b,t,i,fun j y=>?_⟩
  have f:j<k:=by omega
  obtain⟨x,p,m⟩:=g j (by omega)
  refine⟨x,p,?_⟩;have e:(L.take k).getD j []=L.getD j []:=by simp[List.getD,f]
  rw[e];exact m
theorem Zik.rd (h:Zik w B v L):RdL w v L:=by
 obtain⟨xs,c,f⟩:=h;rcases c.2 with ⟨a,b⟩ | ⟨g,cap,cur,a,q,p,m,d,n,t⟩
 ·exact⟨none,0,by rw[a,b],by omega,zai _,fun _=>rfl,.inl (zaj b)⟩
 ·refine⟨some ⟨g,0,none⟩,cap,a,m,d,(fun e=>by cases e),.inr ⟨g,0,rfl,fun j i=>?_⟩⟩
  obtain⟨x,l,k⟩:=f j i;have:=zct c (g:=g) (by rw[a];rfl) j _ l
  rw[zbg] at this;exact⟨x,this,k.rd⟩
theorem Zik.mono (h:Zik w B v L) (c:B'<=B):Zik w B' v L:=by
 obtain⟨xs,⟨k,a⟩,b⟩:=h;refine⟨xs,⟨k,?_⟩,fun j e=>?_⟩
 ·rcases a with a | ⟨g,cap,cur,d,l,r⟩
  ·exact .inl a
  ·exact .inr ⟨g,cap,cur,d,by omega,r⟩
 ·obtain⟨x,i,f⟩:=b j e
  exact⟨x,i,f.mono c⟩
theorem Zik.below (h:Zik w B v L) (c:Below B' w w') (e:w.heap.size<=B'):Zik w' B v L:=by
 obtain⟨xs,⟨n,a⟩,d⟩:=h;refine⟨xs,⟨n,?_⟩,fun j k=>?_⟩
 ·rcases a with a | ⟨g,cap,cur,f,i,b,r⟩
  ·exact .inl a
  ·have p:g<w.heap.size:=(zan.1 b).1
   exact .inr ⟨g,cap,cur,f,i,by rw[c.block g (by omega)];exact b,r⟩
 ·obtain⟨x,m,l⟩:=d j k
  exact⟨x,m,l.below c e⟩
theorem Zku:(prog.info? 53).map (fun i=>(i.zero,i.size,i.bytes))=some (some (.slice none 0 0),1,24):=by kernel_rfl
theorem Znu {x:Value} {xs:List Value} (k:w.ownsRow B 53 1 v n xs) (f:Own w B' x l):x.ownBlock=none∨x.ownBlock≠v.ownBlock:=by
 rcases f.2 with ⟨a,_⟩ | ⟨g,cap,cur,a,_,b,_⟩
 ·exact .inl (by rw[a];rfl)
 ·right
  rcases k.2 with ⟨c,_⟩ | ⟨g',m,p,c,_,i,_⟩
  ·rw[a,c]
   exact fun e=>by cases e
  ·rw[a,c]
   intro e;have j:g=g':=by simpa[Value.ownBlock] using e
   rw[j,i] at b
   have d:(53:Nat)=5:=by
    injection b with b
    injection b
   exact absurd d (by decide)
theorem Zil (w:World) (ty:TypeId) (B:Nat) (v:Value) (L:List (List UInt8)) (h:Zik w B v L) (x:Value) (d:List UInt8) (f:Own w B x d) (M:L.length<=1000000) (q:B<=w.heap.size):
 ∃ v' w',(Builtin.append_ #[144,144] ty #[v,.slice (some ⟨w.heap.size,0,none⟩) 1 1]).run prog (w.alloc (.cells #[x] 53))=.ok v' w'∧Zik w' B v' (L++[d])∧Below B w w':=by
 obtain⟨A,C,t,z,K⟩:=zbo Zku;obtain⟨xs,b,p⟩:=h
 have E:x.oneCell'=true:=by
  rcases f.2 with ⟨l,_⟩ | ⟨g,cap,cur,l,_⟩ <;> rw[l] <;> rfl
 obtain⟨v',w',I,J,c,_⟩:=zdc (P:=prog) (w.alloc (.cells #[x] 53)) B 144 ty 53 A (.slice none 0 0) 1 24 underlying144 C t z K rfl (by decide) v L.length xs (b.alloc _)
  ⟨w.heap.size,0,none⟩ 1 1 [x] rfl (fun j u a=>by
   match j,a with
   | 0,a=>simp at a;subst a;simp[Addr.add]) (fun u i=>by simp at i;subst i;exact E) (by unfold maxLen;omega) (by omega) (by simp;omega)
 have G:xs.length=L.length:=by rw[b.1,zch]
 refine⟨v',w',I,⟨xs++[x],by rw[zel];exact J,fun j a=>?_⟩,?_⟩
 ·by_cases m:j<L.length
  ·obtain⟨y,F,n⟩:=p j m
   refine⟨y,by rw[zbb (by omega)];exact F,?_⟩
   have e:(L++[d]).getD j []=L.getD j []:=by simp[List.getD,zbb m]
   rw[e];exact zfa (zb0 n _) c (Znu b n)
  ·have H:j=L.length:=by simp at a;omega
   subst H;refine⟨x,by rw[zbp (by omega),G];simp,?_⟩
   have e:(L++[d]).getD L.length []=d:=by simp[List.getD]
   rw[e];exact zfa (zb0 f _) c (Znu b f)
 ·exact((zac _ _).alloc q _).grown c (by simp;omega) (fun k D=>(zar b k D).1)
theorem ZeJ (w:World) {b:Array Oper} {rest:List Oper} {o:Oper} {a:Act} {Q:Exit->Act->World->Prop} (f:o.guard=none) (s x:Operand)
 (m:o.op=.call { callee:=.builtin .append,args:=#[s,x],argTypes:=#[144,144] })
 (B:Nat) (v:Value) (L:List (List UInt8)) (n:a.eval s=v) (k:Zik w B v L) (y:Value) (d:List UInt8) (q:a.eval x=.slice (some ⟨w.heap.size,0,none⟩) 1 1) (i:Own w B y d)
 (g:L.length<=1000000) (e:B<=w.heap.size)
 (h:∀ v' w',Zik w' B v' (L++[d])->Below B w w'->wpList prog b Q rest (a.put o.dst v') w'):wpList prog b Q (o::rest) a (w.alloc (.cells #[y] 53)):=
 zbr f fun _ p=>by
  obtain⟨v',w',l,j,c⟩:=Zil w o.type B v L k y d i g e;unfold Oper.wp execOp;simp only [m,resolve,invoke,builtin,zbk,zbn,za7,zc8,map_cons,map_nil,n,q,l];exact p _ _ (h v' w' j c)
theorem ZpB (a b:Nat) (f:a<4294967296) (e:b<4294967296):bits .xor .u32 (a:Int) (b:Int)=((a ^^^ b:Nat):Int):=by
 have g:a ^^^ b<2 ^ 32:=zd2 (by omega) (by omega)
 have c:(BitVec.ofInt 32 (a:Int)).toNat=a:=by
  rw[zdv,zd1];exact zc7 (by omega)
 have d:(BitVec.ofInt 32 (b:Int)).toNat=b:=by
  rw[zdv,zd1];exact zc7 (by omega)
 show IntKind.u32.wrap ((BitVec.ofInt 32 (a:Int) ^^^ BitVec.ofInt 32 (b:Int)).toNat:Int)=_;rw[zfn,c,d,IntKind.wrap_u32];omega
theorem ZzF (a b:Nat) (f:a<256) (e:b<256):bits .xor .u8 (a:Int) (b:Int)=((a ^^^ b:Nat):Int):=by
 have g:a ^^^ b<2 ^ 8:=zd2 (by omega) (by omega)
 have c:(BitVec.ofInt 8 (a:Int)).toNat=a:=by
  rw[zdv,zd1];exact zc7 (by omega)
 have d:(BitVec.ofInt 8 (b:Int)).toNat=b:=by
  rw[zdv,zd1];exact zc7 (by omega)
 show IntKind.u8.wrap ((BitVec.ofInt 8 (a:Int) ^^^ BitVec.ofInt 8 (b:Int)).toNat:Int)=_;rw[zfn,c,d,IntKind.wrap_u8];omega
theorem Zsy (k x:Nat):Gu (k+1) x=ZrD (Gu k x):=by
 rw[ZmA k 1];rfl
theorem ZuX (k:Nat) {x:Nat} (h:x<4294967296):Gu k x<4294967296:=by
 have:=Zlk k (zat 32) (by omega:x<2 ^ 32)
 omega
theorem ZpC (l:List UInt8) (x k:Nat) (h:k<l.length):Zbr x (l.take (k+1))=ZdH (Zbr x (l.take k)) (l.getD k 0).toNat:=by
 rw[Zhk l k h,Zes];rfl
theorem Zxk (x c:Nat) (a:c<256):(x ^^^ c) % 256=x % 256 ^^^ c:=by
 have h:=@Nat.xor_mod_two_pow x c 8;have e:c % 2 ^ 8=c:=zc7 (by omega)
 rw[e] at h;exact h
theorem ZyO (x c:Nat) (a:c<256):x % 256 ^^^ c<256:=by
 have:x % 256 ^^^ c<2 ^ 8:=zd2 (by omega) (by omega)
 omega
theorem Zxl (c:Nat) (h:c<256):Zdo c<4294967296:=ZuX 8 (by omega)
theorem ZuY (s:Nat) (h:s<4294967296):bits .xor .u32 IntKind.u32.max (s:Int)=((s ^^^ 4294967295:Nat):Int):=by
 have e:IntKind.u32.max=((4294967295:Nat):Int):=by decide
 rw[e,ZpB _ _ (by decide) h,zft]
def Zyk (l:List UInt8):List UInt8 × Nat:=if l.length<=1048576 then(Qd l,0) else([],5)
theorem Zxm {k e:IntKind} {a b c d:Int} (h:a=b) (f:c=d):Ending.returned (.tuple #[v,.int k a,.int e c])=.returned (.tuple #[v,.int k b,.int e d]):=by rw[h,f]
theorem ZzG (h:Gn l):X8 l=([],0,2):=by unfold X8;rw[zab h]
theorem ZzH (h:¬ Gn l) (a:(Qb l).2=0):X8 l=([],0,3):=by unfold X8;rw[zaa h,zab a]
theorem ZzI (h:¬ Gn l) (a:(Qb l).2≠0) (b:1048576<(Qb l).1):X8 l=([],0,5):=by unfold X8;rw[zaa h,zaa a,zab b]
theorem ZzJ (h:¬ Gn l) (c:(Qb l).2≠0) (a:¬ 1048576<(Qb l).1) (b:l.length<(Qb l).2+4+(Qb l).1):X8 l=([],0,2):=by
 unfold X8;rw[zaa h,zaa c,zaa a,zab b]
theorem ZzK (h:¬ Gn l) (d:(Qb l).2≠0) (a:¬ 1048576<(Qb l).1) (b:¬ l.length<(Qb l).2+4+(Qb l).1)
 (c:Lib.leNat ((l.drop ((Qb l).2+(Qb l).1)).take 4)≠Q2 0 (l.take ((Qb l).2+(Qb l).1))):X8 l=([],0,4):=by
 unfold X8;rw[zaa h,zaa d,zaa a,zaa b,zab c]
theorem ZzL (h:¬ Gn l) (d:(Qb l).2≠0) (a:¬ 1048576<(Qb l).1) (b:¬ l.length<(Qb l).2+4+(Qb l).1)
 (c:Lib.leNat ((l.drop ((Qb l).2+(Qb l).1)).take 4)=Q2 0 (l.take ((Qb l).2+(Qb l).1))):X8 l=((l.drop (Qb l).2).take (Qb l).1,(Qb l).2+4+(Qb l).1,0):=by
 unfold X8;rw[zaa h,zaa d,zaa a,zaa b,zaa (by rw[c];simp)]
theorem Zsz (l:List UInt8):(Qb l).2<=9:=by
 rcases Xf l with h | ⟨b,e,d,a⟩
 ·rw[h];decide
 ·have c:(Lib.uvarint (Qb l).1).length<=9:=Lib.uvarint_length 8 _ (zav b (by decide))
  rw[<-a,zbt] at c;omega
def ZdT (w:World) (l:List UInt8) (e:Ending) (w':World):Prop:=
 ∃ v',e=.returned (.tuple #[v',.int .i64 ((X8 l).2.1:Nat),.int .i64 ((X8 l).2.2:Nat)])∧Own w' w.heap.size v' (X8 l).1∧Below w.heap.size w w'
theorem ZdT.refused (h:X8 l=([],0,c)):ZdT w l (.returned (.tuple #[.slice none 0 0,.int .i64 0,.int .i64 (c:Int)])) w:=by
 refine⟨.slice none 0 0,?_,?_,zac _ _⟩
 ·rw[h];rfl
 ·rw[h];exact Own.nil _ _
def ZuZ (l:List UInt8) (A:Nat) (L:List (List UInt8)):Prop:=
 Qp l=(L++(Qp (l.drop A)).1,A+(Qp (l.drop A)).2.1,(Qp (l.drop A)).2.2)∧5*L.length<=A∧A<=l.length
theorem ZuZ.start (l:List UInt8):ZuZ l 0 []:=⟨by simp,by simp,by omega⟩
theorem ZuZ.stop (h:ZuZ l A L) (c:A<l.length) (b:(X8 (l.drop A)).2.2≠0):Qp l=(L,A,(X8 (l.drop A)).2.2):=by
 have a:l.drop A≠[]:=fun e=>by
  have:=congrArg List.length e;rw[length_drop,zcr] at this;omega
 rw[h.1,ZbZ a b];simp
theorem ZuZ.whole (h:ZuZ l A L) (a:¬ A<l.length):Qp l=(L,A,0):=by
 have e:l.drop A=[]:=List.drop_of_length_le (by omega)
 rw[h.1,e,ZbL];simp
theorem ZuZ.step (h:ZuZ l A L) (d:A<l.length) (a:(X8 (l.drop A)).2.2=0):ZuZ l (A+(X8 (l.drop A)).2.1) (L++[(X8 (l.drop A)).1]):=by
 have c:l.drop A≠[]:=fun e=>by
  have:=congrArg List.length e;rw[length_drop,zcr] at this;omega
 have f:=ZbK a;have b:=Zuk (l.drop A);rw[length_drop] at b;refine⟨?_,?_,by omega⟩
 ·rw[h.1,Zca c a,zdp]
  simp[zbs]
 ·have:=h.2.1
  simp;omega
def Zyl (l:List UInt8):List (List UInt8) × Nat:=if(Qp l).2.2=0 then((Qp l).1,0) else([],(Qp l).2.2)
theorem ZjL (w:World) (ty:TypeId) (B:Nat) (v:Value) (b:List UInt8) (c:Own w B v b) (e:Value) (l:List UInt8) (n:Rd w e l)
 (C:b.length+l.length<=70368744177664) (i:B<=w.heap.size):
 ∃ v' w',(Builtin.append_ #[53,53] ty #[v,e]).run prog w=.ok v' w'∧Own w' B v' (b++l)∧w.grownBy w' v.ownBlock:=by
 obtain⟨g,f,j,k,y⟩:=zbo Zlf;obtain⟨ao,cap,rfl,z,A,q,t⟩:=n
 cases ao with
 | none=>
  have u:=q rfl;subst u;have p:l=[]:=zaj (by omega)
  subst p;have d:=zc5 (P:=prog) w B 53 ty 5 g 1 underlying53 f v b.length (Lib.byteCells b) c;exact⟨v,w,d,by rw[zcx];exact c,⟨rfl,rfl,rfl,zat _,fun _ _ _=>rfl⟩⟩
 | some a=>
  obtain⟨v',w',d,x,m,_⟩:=zdc (P:=prog) w B 53 ty 5 g (.int .u8 0) 1 1 underlying53 f j k y rfl (by decide) v b.length (Lib.byteCells b) c a l.length cap (Lib.byteCells l)
   (by rw[Y0,zch]) (Rd.cells t a rfl) (ZaJ l) (by unfold maxLen;omega) (by omega) i
  exact⟨v',w',d,Own.mk' x (by simp) (by simp[Lib.byteCells]),m⟩
theorem ZfP (w:World) {d:Array Oper} {rest:List Oper} {o:Oper} {a:Act} {Q:Exit->Act->World->Prop} (g:o.guard=none) (s x:Operand)
 (p:o.op=.call { callee:=.builtin .append,args:=#[s,x],argTypes:=#[53,53] })
 (B:Nat) (v:Value) (b:List UInt8) (q:a.eval s=v) (m:Own w B v b) (c:Value) (l:List UInt8) (u:a.eval x=c) (k:Rd w c l)
 (i:b.length+l.length<=70368744177664) (f:B<=w.heap.size)
 (h:∀ v' w',Own w' B v' (b++l)->w.grownBy w' v.ownBlock->wpList prog d Q rest (a.put o.dst v') w'):wpList prog d Q (o::rest) a w:=
 zbr g fun _ t=>by
  obtain⟨v',w',n,j,e⟩:=ZjL w o.type B v b m c l k i f;unfold Oper.wp execOp;simp only [p,resolve,invoke,builtin,zbk,zbn,za7,zc8,map_cons,map_nil,q,u,n];exact t _ _ (h v' w' j e)
open Go.RowKit Go.ChangeShapes
theorem Zim:prog.elem 144=53:=by kernel_rfl
theorem Zkv (w:World):(sizeOf 53).run prog w=.ok 1 w:=by
 obtain⟨c,b,_,a,_⟩:=zbo Zku;simp[sizeOf,typeInfo,b,a]
theorem Zdh:prog.underlying 144=some (.slice (prog.elem 144)):=by rw[Zim];exact underlying144
end Go.Proofs.YtnahjngbneicaaaGreatDoor
