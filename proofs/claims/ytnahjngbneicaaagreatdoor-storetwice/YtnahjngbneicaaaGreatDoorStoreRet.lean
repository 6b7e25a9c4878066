import Derived.Test.YtnahjngbneicaaaGreatDoorStoreCk
namespace Go.Proofs.YtnahjngbneicaaaGreatDoor
open _root_.Go.Proofs.Tryz
open List (length_append)
set_option maxRecDepth 100000
open Go.RowKit
variable {W W' w w' wr:World} {N R T p pd:Nat} {s:Sto} {K:Nat->Prop} {d:Dk} {gone left:List Pce} {v' vs:Value} {l:List Stp}
theorem ZBh:(prog.info? 153).map (fun i=>(i.zero,i.size,i.bytes))=some (some .nilFunc,1,8):=by kernel_rfl
def ZbB (l:List Stp):List Value:=l.map Stp.val
theorem ZmF (l:List Stp):(ZbB l).length=l.length*1:=by simp[ZbB]
theorem ZsA (l:List Stp):∀ u ∈ ZbB l,u.oneCell'=true:=fun u a=>by
 obtain⟨s,-,rfl⟩:=List.mem_map.1 a;rfl
theorem ZoL (w:World) (ty:TypeId) (v:Value) (l:List Stp) (h:w.ownsRow 0 153 1 v l.length (ZbB l)) (c:Stp) (p:l.length<=10000000):
 ∃ v' w',(Builtin.append_ #[106,106] ty #[v,.slice (some ⟨w.heap.size,0,none⟩) 1 1]).run prog (w.alloc (.cells #[c.val] 153))=.ok v' w'∧
  w'.ownsRow 0 153 1 v' (l++[c]).length (ZbB (l++[c]))∧(w.alloc (.cells #[c.val] 153)).grownBy w' v.ownBlock∧(v'.ownBlock=v.ownBlock∨v'.ownBlock=some (w.heap.size+1)):=by
 obtain⟨k,i,n,b,f⟩:=info_parts ZBh
 obtain⟨v',w',g,m,d,_,hl⟩:=run_append_own_at (P:=prog) (w.alloc (.cells #[c.val] 153)) 0 106 ty 153 k _ 1 8 underlying106 i n b f rfl (by decide) v l.length (ZbB l) (World.ownsRow.alloc h _)
  ⟨w.heap.size,0,none⟩ 1 1 (ZbB [c]) (ZmF [c]) (fun j u a=>by
   rw[Addr.add_lit,Nat.zero_add,cell_of_row _ w.heap.size j _ 153 (0,0) (heap_alloc_new w _)]
   simpa[ZbB] using a) (ZsA [c]) (by unfold maxLen;omega) (by omega) (Nat.zero_le _)
 refine⟨v',w',g,?_,d,?_⟩
 ·have e:ZbB (l++[c])=ZbB l++ZbB [c]:=by simp[ZbB]
  rw[length_append,e];exact m
 ·rcases hl with hl | hl
  ·exact .inl hl
  ·exact .inr (by rw[hl];simp)
theorem ZfI (w:World) {b:Array Oper} {rest:List Oper} {o:Oper} {a:Act} {Q:Exit->Act->World->Prop} (p:o.guard=none) (s x:Operand)
 (q:o.op=.call { callee:=.builtin .append,args:=#[s,x],argTypes:=#[106,106] })
 (v:Value) (l:List Stp) (g:a.eval s=v) (h:w.ownsRow 0 153 1 v l.length (ZbB l)) (c:Stp) (m:a.eval x=.slice (some ⟨w.heap.size,0,none⟩) 1 1) (d:l.length<=10000000)
 (e:∀ v' w',w'.ownsRow 0 153 1 v' (l++[c]).length (ZbB (l++[c]))->(w.alloc (.cells #[c.val] 153)).grownBy w' v.ownBlock->(v'.ownBlock=v.ownBlock∨v'.ownBlock=some (w.heap.size+1))->
  wpList prog b Q rest (a.put o.dst v') w'):wpList prog b Q (o::rest) a (w.alloc (.cells #[c.val] 153)):=
 wpList_plain p fun _ k=>by
  obtain⟨v',w',j,n,i,f⟩:=ZoL w o.type v l h c d;unfold Oper.wp execOp;simp only [q,resolve,invoke,builtin,Sem.run_bind,Sem.run_pure,Result.andThen_ok,List.map_toArray,List.map_cons,List.map_nil,g,m,j];exact k _ _ (e v' w' n i f)
theorem ZeO.ofLogZ {M I Z:Nat->Prop} {L:Zhf} {g:Lgb} {c b:Value} (h:ZeO M I w p pd L s) (u:∀ k,Z k->¬ I k)
 (a:Zlo 76 w' p 1 ((((stC pd L s).setIfInBounds 1 (.int .i64 g.first)).setIfInBounds (1+1) c).setIfInBounds (1+2) b) c b g) (q:Zap (fun k=>k=p) w w') (m:∀ k,Zmv p c b k->Zmv p L.rv L.pv k∨Z k):
 ∃ M' L',ZeO M' I w' p pd L' { s with log:=g }∧Zap M w w'∧∀ k,M' k->M k∨Z k:=by
 have f:Zap M w w':=q.mono (fun k hk=>by rw[hk];exact h.mh)
 have j:∀ k,I k->w'.heap[k]?=w.heap[k]?:=fun k hk=>f.block k (h.ltI k hk) fun a=>h.dis k a hk
 have t:((((stC pd L s).setIfInBounds 1 (.int .i64 g.first)).setIfInBounds (1+1) c).setIfInBounds (1+2) b)=stC pd { L with rv:=c,pv:=b } { s with log:=g }:=rfl
 rw[t] at a
 have v:∀ k,Zmv p c b k->k<w'.heap.size:=fun k hk=>by
  rcases hk with rfl | hk | hk
  ·exact a.blk.lt
  ·obtain⟨n,d⟩:=ZaR a.recs hk
   exact d.lt
  ·obtain⟨n,d⟩:=ZaR a.pcs hk
   exact d.lt
 refine⟨fun k=>M k∨Zmv p c b k,{ L with rv:=c,pv:=b },⟨a.blk,a.recs,a.pcs,Zae h.bases fun k hk=>?_,h.bsEq,h.now.keep h.inow j,fun x l=>(h.base x l).keep (h.ibase x l) j,.inr (.inl rfl),fun k hk=>.inr (.inr (.inl hk)),fun k hk=>.inr (.inr (.inr hk)),fun k hk=>.inl (h.mb k hk),h.inow,h.ibase,fun k hk=>?_,fun k hk=>Nat.lt_of_lt_of_le (h.ltI k hk) f.size,fun k hk i=>?_⟩,f,fun k hk=>?_⟩
 ·obtain⟨n,d⟩:=ZaR h.bases hk
  exact q.block k d.lt (fun e=>by
   subst e
   exact(d.ne h.head (by decide)) rfl)
 ·rcases hk with hk | hk
  ·exact Nat.lt_of_lt_of_le (h.ltM k hk) f.size
  ·exact v k hk
 ·rcases hk with hk | hk
  ·exact h.dis k hk i
  ·rcases m k hk with h1 | h1
   ·exact h.dis k (h.logF k h1) i
   ·exact u k h1 i
 ·rcases hk with hk | hk
  ·exact .inl hk
  ·rcases m k hk with h1 | h1
   ·exact .inl (h.logF k h1)
   ·exact .inr h1
theorem SD.letGo {g:Nat->Prop} (h:SD g w pd p s d N T) (c:∀ k,K k->g k) (y:∀ k,g k->k<w.heap.size) (b:Value) (left:List Pce) (base:Int)
 (P:w.ownsRow 0 108 3 b left.length (Zau left)) (v:∀ k,b.ownBlock=some k->g k∧¬ K k)
 (E:left.length<=1000000) (B:s.log.recs.length<=1000000) (G:∀ r ∈ s.log.recs,Zga r) (O:s.log.first<=ZbK left base) (D:ZbK left base<=s.log.first+s.log.recs.length) (x:0<=s.log.first) (J:s.log.first+s.log.recs.length<=4611686018427387904):
 Calls prog 70 #[.pointer (some ⟨p,1,none⟩),b,.int .i64 base] w fun e w'=>e=.returned (.tuple #[])∧SD K w' pd p { s with log:=s.log.letGo left base } d N T∧Zap (fun k=>¬ K k) w w':=by
 obtain⟨F,M,I,L,u,f,l,i,t,n,C⟩:=h;refine(Zxs 76 (by decide) p 1 (stC pd L s) L.rv L.pv s.log b left base w f.toLog P E B G O D x J).mono ?_
 rintro e w' ⟨rfl,R,H,Q,A⟩
 have j:∀ k,(b.ownBlock=some k∨w.heap.size<=k)->¬ K k∧¬ F k∧¬ M k∧¬ I k:=fun k hk=>by
  rcases hk with hk | hk
  ·have a:=v k hk
   exact⟨a.2,fun hx=>l k hx a.1,fun hx=>i k hx a.1,fun hx=>t k hx a.1⟩
  ·refine⟨fun hx=>?_,fun hx=>?_,fun hx=>?_,fun hx=>?_⟩
   ·have:=y k (c k hx);omega
   ·have:=u.ltF k hx;omega
   ·have:=f.ltM k hx;omega
   ·have:=f.ltI k hx;omega
 obtain⟨M',L',z,m,q⟩:=f.ofLogZ (Z:=fun k=>b.ownBlock=some k∨w.heap.size<=k) (fun k hk=>(j k hk).2.2.2) H Q (fun k hk=>by
  rcases hk with hk | hk | hk
  ·exact .inl (.inl hk)
  ·exact .inr (.inr (A k hk))
  ·exact .inr (.inl hk))
 refine⟨rfl,⟨F,M',I,L',u.only m n,z,fun k hk a=>l k hk (c k a),fun k hk a=>?_,fun k hk a=>t k hk (c k a),fun k hk a=>?_,C⟩,m.mono (fun k hk a=>i k hk (c k a))⟩
 ·rcases q k hk with hx | hx
  ·exact i k hx (c k a)
  ·exact(j k hx).1 a
 ·rcases q k a with hx | hx
  ·exact n k hk hx
  ·exact(j k hx).2.1 hk
set_option maxHeartbeats 1000000 in
theorem ZsB {b:Nat} (a:Int) (w:World) (h:SD K w pd p s d N T) (f:∀ k,K k->k<w.heap.size) (y:w.cell? ⟨R,0,none⟩=some (ptr p)) (A:w.cell? ⟨b,0,none⟩=some (.int .i64 a)) (m:I64 a) (q:N<=1000000) (i:T<=1000000000):
 Calls prog 68 #[.pointer (some ⟨R,0,none⟩),.pointer (some ⟨b,0,none⟩)] w fun e w'=>Zff K w pd p (Zbv (fun d=>Zam d a) (s,d)) (N+2) T e w':=by
 have j:Hid (∀ W,Below w.heap.size w W->Calls prog 69 #[ptr pd,.int .i64 a] W fun e w'=>Zff K W pd p (Zbv (fun d=>Zam d a) (s,d)) (N+2) T e w'):=ZZ (fun W c=>(h.below c).step (fun d=>Zam d a) (fun k v=>Nat.lt_of_lt_of_le (f k v) c.size) (fun F x _=>ZmT a m _ x q i))
 obtain⟨⟨B,-⟩,-⟩:=h.cells;have l:Hid (Below w.heap.size w w.drew):=ZZ (Below.refl _ _).drew;obtain⟨r,u⟩:∃ r,r=Zbv (fun d=>Zam d a) (s,d):=⟨_,rfl⟩
 rw[<-u] at j ⊢;clear h f u m q i
 go_enter func68,ntmps68
 go_upto_region 1 with fail
 go_region_with(first | (go_at_call 69;refine(j.o _ l.o).mono ?_;rintro e z ⟨rfl,t,n⟩;have g:=ZZ (And.intro t n);clear t n))
 all_goals
  go_wp2;go_ret;exact⟨rfl,g.o.1,(Zap.ofBelow l.o).trans g.o.2 (fun _ _ h=>h)⟩
theorem Zjv (q:Pce->Bool) (l:List Pce) (j:Nat) (a:j<l.length):(l.take (j+1)).filter q=(l.take j).filter q++if q (l.getD j Zce)=true then[l.getD j Zce] else[]:=by
 rw[ZtG a Zce,List.filter_append]
 congr 1
 rw[List.filter_cons];split <;> rfl
def Zmk (R b:Nat):Stp:=⟨68,#[],#[.pointer (some ⟨R,0,none⟩),.pointer (some ⟨b,0,none⟩)]⟩
structure Zhk (w:World) (R:Nat) (gone left:List Pce) (bx:List Nat) (vs vl:Value) (wr:World):Prop where
 len:bx.length=gone.length
 row:wr.ownsRow 0 153 1 vs (bx.map (Zmk R)).length (ZbB (bx.map (Zmk R)))
 far:∀ k,vs.ownBlock=some k->w.heap.size<=k
 lrow:wr.ownsRow 0 108 3 vl left.length (Zau left)
 lfar:∀ k,vl.ownBlock=some k->w.heap.size<=k
 box:∀ j,j<bx.length->w.heap.size<=bx.getD j 0∧vl.ownBlock≠some (bx.getD j 0)∧Bk 108 wr (bx.getD j 0) (pcC (gone.getD j Zce))
 old:Below w.heap.size w wr
theorem Zhk.start (w:World) (R:Nat):Zhk w R [] [] [] (.slice none 0 0) (.slice none 0 0) w:=
 ⟨rfl,⟨rfl,.inl ⟨rfl,rfl⟩⟩,(fun k a=>by cases a),⟨rfl,.inl ⟨rfl,rfl⟩⟩,(fun k a=>by cases a),fun j b=>absurd b (Nat.not_lt_zero _),Below.refl _ _⟩
theorem Zhk.below {d:List Nat} {e:Value} (h:Zhk w R gone left d vs e wr) (a:Below wr.heap.size wr w'):Zhk w R gone left d vs e w':=
 ⟨h.len,Zae h.row fun g c=>a.block g (World.ownsRow.lt h.row g c).2,h.far,Zae h.lrow fun g c=>a.block g (World.ownsRow.lt h.lrow g c).2,h.lfar,fun j b=>⟨(h.box j b).1,(h.box j b).2.1,(h.box j b).2.2.keep (a.block _ (h.box j b).2.2.lt)⟩,h.old.trans (a.mono h.old.size)⟩
theorem ZlP {α:Type} (l:List α) (x z:α) (j:Nat) (a:j<l.length):(l++[x]).getD j z=l.getD j z:=by
 simp[List.getD,List.getElem?_append_left a]
theorem ZlQ {α:Type} (l:List α) (x z:α):(l++[x]).getD l.length z=x:=by
 simp[List.getD]
theorem Zhk.step {f:List Nat} {p:Value} (h:Zhk w R gone left f vs p wr) (c:Pce) (a:Below wr.heap.size wr W) (x:Bk 108 W wr.heap.size (pcC c))
 (H:W'.ownsRow 0 153 1 v' (f.map (Zmk R)++[Zmk R wr.heap.size]).length (ZbB (f.map (Zmk R)++[Zmk R wr.heap.size]))) (i:(W.alloc (.cells #[(Zmk R wr.heap.size).val] 153)).grownBy W' vs.ownBlock) (h3:v'.ownBlock=vs.ownBlock∨v'.ownBlock=some (W.heap.size+1)):
 Zhk w R (gone++[c]) left (f++[wr.heap.size]) v' p W':=by
 have q:(W.alloc (.cells #[(Zmk R wr.heap.size).val] 153)).heap.size=W.heap.size+1:=by simp
 have I:=a.size;have G:=h.old.size;have J:W.heap.size+1<=W'.heap.size:=by have:=i.size;rw[q] at this;exact this
 have t:∀ k,vs.ownBlock=some k->∃ cs,Bk 153 wr k cs:=fun k d=>ZaR h.row d
 have d:∀ k,k<W.heap.size->vs.ownBlock≠some k->W'.heap[k]?=W.heap[k]?:=fun k d E=>by
  rw[i.block k (by rw[q];omega) (fun e=>E e.symm)]
  exact Below.heap_alloc _ _ _ (by omega)
 have v:∀ {k:Nat} {cs:Array Value},Bk 108 W k cs->Bk 108 W' k cs:=fun {k cs} b=>b.keep (d k b.lt (fun e=>by
  obtain⟨D,l⟩:=t k e
  exact b.ne (l.keep (a.block _ l.lt)) (by decide) rfl))
 refine⟨by rw[length_append,length_append,h.len];rfl,?_,fun k m=>?_,?_,h.lfar,fun j n=>?_,?_⟩
 ·rw[List.map_append]
  exact H
 ·rcases h3 with h3 | h3
  ·exact h.far k (by rw[<-h3];exact m)
  ·rw[h3] at m
   have:=Option.some.inj m;omega
 ·refine Zae h.lrow fun g y=>?_
  obtain⟨cs,b⟩:=ZaR h.lrow y
  rw[d g (by have:=b.lt;omega) (fun e=>by
   obtain⟨D,l⟩:=t g e
   exact b.ne l (by decide) rfl)]
  exact a.block g b.lt
 ·rw[length_append] at n
  by_cases e:j<f.length
  ·rw[ZlP _ _ _ _ e,ZlP _ _ _ _ (by rw[<-h.len];exact e)]
   obtain⟨A,C,u⟩:=h.box j e;exact⟨A,C,v (u.keep (a.block _ u.lt))⟩
  ·have F:j=f.length:=by simp at n;omega
   rw[F,ZlQ,h.len,ZlQ];refine⟨G,fun B=>?_,v x⟩
   have:=(World.ownsRow.lt h.lrow _ B).2;omega
 ·refine⟨i.os.trans (a.os.trans h.old.os),i.tape.trans (a.tape.trans h.old.tape),i.output.trans (a.output.trans h.old.output),by omega,fun k z=>?_⟩
  rw[d k (by omega) (fun e=>by have:=h.far k e;omega),a.block k (by omega)]
  exact h.old.block k z
theorem Zhk.leave {q:List Nat} {f:Value} (h:Zhk w R gone left q vs f wr) (c:Pce) (a:Below wr.heap.size wr W)
 (A:W'.ownsRow 0 108 3 v' (left++[c]).length (Zau (left++[c]))) (b:(W.alloc (.cells (pcC c) 108)).grownBy W' f.ownBlock) (h3:v'.ownBlock=f.ownBlock∨v'.ownBlock=some (W.heap.size+1)):
 Zhk w R gone (left++[c]) q vs v' W':=by
 have p:(W.alloc (.cells (pcC c) 108)).heap.size=W.heap.size+1:=by simp
 have B:=a.size;have E:=h.old.size;have D:W.heap.size+1<=W'.heap.size:=by have:=b.size;rw[p] at this;exact this
 have d:∀ k,k<W.heap.size->f.ownBlock≠some k->W'.heap[k]?=W.heap[k]?:=fun k d z=>by
  rw[b.block k (by rw[p];omega) (fun e=>z e.symm)]
  exact Below.heap_alloc _ _ _ (by omega)
 refine⟨h.len,?_,h.far,A,fun k l=>?_,fun j t=>?_,?_⟩
 ·refine Zae h.row fun g u=>?_
  obtain⟨cs,m⟩:=ZaR h.row u
  rw[d g (by have:=m.lt;omega) (fun e=>by
   obtain⟨C,y⟩:=ZaR h.lrow e
   exact m.ne y (by decide) rfl)]
  exact a.block g m.lt
 ·rcases h3 with h3 | h3
  ·exact h.lfar k (by rw[<-h3];exact l)
  ·rw[h3] at l
   have:=Option.some.inj l;omega
 ·obtain⟨x,n,i⟩:=h.box j t
  refine⟨x,fun e=>?_,(i.keep (a.block _ i.lt)).keep (d _ (by have:=i.lt;omega) n)⟩
  rcases h3 with h3 | h3
  ·exact n (by rw[<-h3];exact e)
  ·rw[h3] at e
   have:=Option.some.inj e;have:=i.lt;omega
 ·refine⟨b.os.trans (a.os.trans h.old.os),b.tape.trans (a.tape.trans h.old.tape),b.output.trans (a.output.trans h.old.output),by omega,fun k v=>?_⟩
  rw[d k (by omega) (fun e=>by have:=h.lfar k e;omega),a.block k (by omega)]
  exact h.old.block k v
theorem Zhk.last {d:List Nat} {p:Value} {c:Stp} (h:Zhk w R gone left d vs p wr)
 (_h1:W'.ownsRow 0 153 1 v' l.length (ZbB l)) (b:(wr.alloc (.cells #[c.val] 153)).grownBy W' vs.ownBlock) (h3:v'.ownBlock=vs.ownBlock∨v'.ownBlock=some (wr.heap.size+1)):
 Below w.heap.size w W'∧W'.ownsRow 0 108 3 p left.length (Zau left)∧(∀ j,j<d.length->w.heap.size<=d.getD j 0∧Bk 108 W' (d.getD j 0) (pcC (gone.getD j Zce)))∧(∀ k,v'.ownBlock=some k->w.heap.size<=k):=by
 have q:(wr.alloc (.cells #[c.val] 153)).heap.size=wr.heap.size+1:=by simp
 have D:=h.old.size;have C:wr.heap.size+1<=W'.heap.size:=by have:=b.size;rw[q] at this;exact this
 have t:∀ k,vs.ownBlock=some k->∃ cs,Bk 153 wr k cs:=fun k a=>ZaR h.row a
 have a:∀ k,k<wr.heap.size->vs.ownBlock≠some k->W'.heap[k]?=wr.heap[k]?:=fun k a A=>by
  rw[b.block k (by rw[q];omega) (fun e=>A e.symm)]
  exact Below.heap_alloc _ _ _ (by omega)
 refine⟨⟨b.os.trans h.old.os,b.tape.trans h.old.tape,b.output.trans h.old.output,by omega,fun k x=>?_⟩,?_,fun j u=>?_,fun k f=>?_⟩
 ·rw[a k (by omega) (fun e=>by have:=h.far k e;omega)]
  exact h.old.block k x
 ·refine Zae h.lrow fun g v=>?_
  obtain⟨cs,n⟩:=ZaR h.lrow v
  exact a g n.lt (fun e=>by
   obtain⟨z,i⟩:=t g e
   exact n.ne i (by decide) rfl)
 ·obtain⟨y,B,m⟩:=h.box j u
  exact⟨y,m.keep (a _ m.lt (fun e=>by
   obtain⟨z,i⟩:=t _ e
   exact m.ne i (by decide) rfl))⟩
 ·rcases h3 with h3 | h3
  ·exact h.far k (by rw[<-h3];exact f)
  ·rw[h3] at f
   have:=Option.some.inj f;omega
theorem ZCx {v:Value} (h:w.ownsRow 0 153 1 v l.length (ZbB l)) (e:l.length≠0) (z:Stp):
 ∃ g cap cs,v=.slice (some ⟨g,0,none⟩) l.length cap∧Bk 153 w g cs∧v.ownBlock=some g∧∀ i,i<l.length->cs[i]?=some (l.getD i z).val:=by
 rcases h.2 with ⟨_,j⟩ | ⟨g,cap,cur,a,n,d,m,p,k,c⟩
 ·exact absurd j e
 ·refine⟨g,cap,cur,a,d,by rw[a];rfl,fun i f=>?_⟩
  have b:(ZbB l)[i]?=some (l.getD i z).val:=by
   unfold ZbB;simp[List.getD,f]
  rw[<-c,List.getElem?_take,if_pos (by omega),Array.getElem?_toList] at b
  exact b
end Go.Proofs.YtnahjngbneicaaaGreatDoor
