import Derived.Test.YtnahjngbneicaaaGreatDoorStoreCk
import Derived.Test.YtnahjngbneicaaaGreatDoorPack8
namespace Go.Proofs.YtnahjngbneicaaaGreatDoor
open _root_.Go.Proofs.Tryz
open List (length_append)
set_option maxRecDepth 100000
open Go.RowKit
theorem ZBh:(prog.info? 153).map (fun i=>(i.zero,i.size,i.bytes))=some (some .nilFunc,1,8):=by kernel_rfl
def ZbB (l:List Stp):List Value:=l.map Stp.val
theorem ZmF (l:List Stp):(ZbB l).length=l.length*1:=by simp[ZbB]
theorem ZsA (l:List Stp):∀ u ∈ ZbB l,u.oneCell'=true:=fun u a=>by
 obtain⟨s,-,rfl⟩:=List.mem_map.1 a;rfl
theorem ZoL (w:World) (ty:TypeId) (v:Value) (l:List Stp) (h:w.ownsRow 0 153 1 v l.length (ZbB l)) (c:Stp) (p:l.length<=10000000):
 ∃ v' w',(Builtin.append_ #[106,106] ty #[v,.slice (some ⟨w.heap.size,0,none⟩) 1 1]).run prog (w.alloc (.cells #[c.val] 153))=.ok v' w'∧
  w'.ownsRow 0 153 1 v' (l++[c]).length (ZbB (l++[c]))∧(w.alloc (.cells #[c.val] 153)).grownBy w' v.ownBlock∧(v'.ownBlock=v.ownBlock∨v'.ownBlock=some (w.heap.size+1)):=by
 obtain⟨f,g,m,i,k⟩:=info_parts ZBh
 obtain⟨v',w',b,a,n,_,hl⟩:=run_append_own_at (P:=prog) (w.alloc (.cells #[c.val] 153)) 0 106 ty 153 f _ 1 8 underlying106 g m i k rfl (by decide) v l.length (ZbB l) (World.ownsRow.alloc h _)
  ⟨w.heap.size,0,none⟩ 1 1 (ZbB [c]) (ZmF [c]) (fun j u d=>by
   rw[Addr.add_lit,Nat.zero_add,cell_of_row _ w.heap.size j _ 153 (0,0) (heap_alloc_new w _)]
   simpa[ZbB] using d) (ZsA [c]) (by unfold maxLen;omega) (by omega) (Nat.zero_le _)
 refine⟨v',w',b,?_,n,?_⟩
 ·have e:ZbB (l++[c])=ZbB l++ZbB [c]:=by simp[ZbB]
  rw[length_append,e];exact a
 ·rcases hl with hl | hl
  ·exact .inl hl
  ·exact .inr (by rw[hl];simp)
theorem ZfI (w:World) {b:Array Oper} {rest:List Oper} {o:Oper} {a:Act} {Q:Exit->Act->World->Prop} (k:o.guard=none) (s x:Operand)
 (d:o.op=.call { callee:=.builtin .append,args:=#[s,x],argTypes:=#[106,106] })
 (v:Value) (l:List Stp) (j:a.eval s=v) (h:w.ownsRow 0 153 1 v l.length (ZbB l)) (c:Stp) (e:a.eval x=.slice (some ⟨w.heap.size,0,none⟩) 1 1) (n:l.length<=10000000)
 (g:∀ v' w',w'.ownsRow 0 153 1 v' (l++[c]).length (ZbB (l++[c]))->(w.alloc (.cells #[c.val] 153)).grownBy w' v.ownBlock->(v'.ownBlock=v.ownBlock∨v'.ownBlock=some (w.heap.size+1))->
  wpList prog b Q rest (a.put o.dst v') w'):wpList prog b Q (o::rest) a (w.alloc (.cells #[c.val] 153)):=
 wpList_plain k fun _ q=>by
  obtain⟨v',w',f,m,i,p⟩:=ZoL w o.type v l h c n;unfold Oper.wp execOp;simp only [d,resolve,invoke,builtin,Sem.run_bind,Sem.run_pure,Result.andThen_ok,List.map_toArray,List.map_cons,List.map_nil,j,e,f];exact q _ _ (g v' w' m i p)
theorem ZeO.ofLogZ {M I Z:Nat->Prop} {w w':World} {p pd:Nat} {L:Zhf} {s:Sto} {g:Lgb} {b c:Value} (h:ZeO M I w p pd L s) (t:∀ k,Z k->¬ I k)
 (a:Zlo 76 w' p 1 ((((stC pd L s).setIfInBounds 1 (.int .i64 g.first)).setIfInBounds (1+1) b).setIfInBounds (1+2) c) b c g) (j:Zap (fun k=>k=p) w w') (n:∀ k,Zmv p b c k->Zmv p L.rv L.pv k∨Z k):
 ∃ M' L',ZeO M' I w' p pd L' { s with log:=g }∧Zap M w w'∧∀ k,M' k->M k∨Z k:=by
 have f:Zap M w w':=j.mono (fun k hk=>by rw[hk];exact h.mh)
 have q:∀ k,I k->w'.heap[k]?=w.heap[k]?:=fun k hk=>f.block k (h.ltI k hk) fun a=>h.dis k a hk
 have v:((((stC pd L s).setIfInBounds 1 (.int .i64 g.first)).setIfInBounds (1+1) b).setIfInBounds (1+2) c)=stC pd { L with rv:=b,pv:=c } { s with log:=g }:=rfl
 rw[v] at a
 have u:∀ k,Zmv p b c k->k<w'.heap.size:=fun k hk=>by
  rcases hk with rfl | hk | hk
  ·exact a.blk.lt
  ·obtain⟨m,d⟩:=ZaR a.recs hk
   exact d.lt
  ·obtain⟨m,d⟩:=ZaR a.pcs hk
   exact d.lt
 refine⟨fun k=>M k∨Zmv p b c k,{ L with rv:=b,pv:=c },⟨a.blk,a.recs,a.pcs,Zae h.bases fun k hk=>?_,h.bsEq,h.now.keep h.inow q,fun x l=>(h.base x l).keep (h.ibase x l) q,.inr (.inl rfl),fun k hk=>.inr (.inr (.inl hk)),fun k hk=>.inr (.inr (.inr hk)),fun k hk=>.inl (h.mb k hk),h.inow,h.ibase,fun k hk=>?_,fun k hk=>Nat.lt_of_lt_of_le (h.ltI k hk) f.size,fun k hk i=>?_⟩,f,fun k hk=>?_⟩
 ·obtain⟨m,d⟩:=ZaR h.bases hk
  exact j.block k d.lt (fun e=>by
   subst e
   exact(d.ne h.head (by decide)) rfl)
 ·rcases hk with hk | hk
  ·exact Nat.lt_of_lt_of_le (h.ltM k hk) f.size
  ·exact u k hk
 ·rcases hk with hk | hk
  ·exact h.dis k hk i
  ·rcases n k hk with h1 | h1
   ·exact h.dis k (h.logF k h1) i
   ·exact t k h1 i
 ·rcases hk with hk | hk
  ·exact .inl hk
  ·rcases n k hk with h1 | h1
   ·exact .inl (h.logF k h1)
   ·exact .inr h1
theorem SD.letGo {K g:Nat->Prop} {w:World} {pd p:Nat} {s:Sto} {d:Dk} {N T:Nat} (h:SD g w pd p s d N T) (c:∀ k,K k->g k) (z:∀ k,g k->k<w.heap.size) (b:Value) (left:List Pce) (base:Int)
 (H:w.ownsRow 0 108 3 b left.length (Zau left)) (Q:∀ k,b.ownBlock=some k->g k∧¬ K k)
 (v:left.length<=1000000) (D:s.log.recs.length<=1000000) (J:∀ r ∈ s.log.recs,Zga r) (A:s.log.first<=ZbK left base) (B:ZbK left base<=s.log.first+s.log.recs.length) (O:0<=s.log.first) (P:s.log.first+s.log.recs.length<=4611686018427387904):
 Calls prog 70 #[.pointer (some ⟨p,1,none⟩),b,.int .i64 base] w fun e w'=>e=.returned (.tuple #[])∧SD K w' pd p { s with log:=s.log.letGo left base } d N T∧Zap (fun k=>¬ K k) w w':=by
 obtain⟨F,M,I,L,l,f,n,j,u,q,x⟩:=h;refine(Zxs 76 (by decide) p 1 (stC pd L s) L.rv L.pv s.log b left base w f.toLog H v D J A B O P).mono ?_
 rintro e w' ⟨rfl,R,E,y,C⟩
 have i:∀ k,(b.ownBlock=some k∨w.heap.size<=k)->¬ K k∧¬ F k∧¬ M k∧¬ I k:=fun k hk=>by
  rcases hk with hk | hk
  ·have a:=Q k hk
   exact⟨a.2,fun hx=>n k hx a.1,fun hx=>j k hx a.1,fun hx=>u k hx a.1⟩
  ·refine⟨fun hx=>?_,fun hx=>?_,fun hx=>?_,fun hx=>?_⟩
   ·have:=z k (c k hx);omega
   ·have:=l.ltF k hx;omega
   ·have:=f.ltM k hx;omega
   ·have:=f.ltI k hx;omega
 obtain⟨M',L',G,t,m⟩:=f.ofLogZ (Z:=fun k=>b.ownBlock=some k∨w.heap.size<=k) (fun k hk=>(i k hk).2.2.2) E y (fun k hk=>by
  rcases hk with hk | hk | hk
  ·exact .inl (.inl hk)
  ·exact .inr (.inr (C k hk))
  ·exact .inr (.inl hk))
 refine⟨rfl,⟨F,M',I,L',l.only t q,G,fun k hk a=>n k hk (c k a),fun k hk a=>?_,fun k hk a=>u k hk (c k a),fun k hk a=>?_,x⟩,t.mono (fun k hk a=>j k hk (c k a))⟩
 ·rcases m k hk with hx | hx
  ·exact j k hx (c k a)
  ·exact(i k hx).1 a
 ·rcases m k a with hx | hx
  ·exact q k hk hx
  ·exact(i k hx).2.1 hk
set_option maxHeartbeats 1000000 in
theorem ZsB {K:Nat->Prop} {pd p R u:Nat} {s:Sto} {d:Dk} {N T:Nat} (a:Int) (w:World) (h:SD K w pd p s d N T) (b:∀ k,K k->k<w.heap.size) (A:w.cell? ⟨R,0,none⟩=some (ptr p)) (B:w.cell? ⟨u,0,none⟩=some (.int .i64 a)) (n:I64 a) (q:N<=1000000) (f:T<=1000000000):
 Calls prog 68 #[.pointer (some ⟨R,0,none⟩),.pointer (some ⟨u,0,none⟩)] w fun e w'=>Zff K w pd p (Zbv (fun d=>Zam d a) (s,d)) (N+2) T e w':=by
 have m:Hid (∀ W,Below w.heap.size w W->Calls prog 69 #[ptr pd,.int .i64 a] W fun e w'=>Zff K W pd p (Zbv (fun d=>Zam d a) (s,d)) (N+2) T e w'):=ZZ (fun W j=>(h.below j).step (fun d=>Zam d a) (fun k x=>Nat.lt_of_lt_of_le (b k x) j.size) (fun F v _=>ZmT a n _ v q f))
 obtain⟨⟨z,-⟩,-⟩:=h.cells;have c:Hid (Below w.heap.size w w.drew):=ZZ (Below.refl _ _).drew;obtain⟨r,l⟩:∃ r,r=Zbv (fun d=>Zam d a) (s,d):=⟨_,rfl⟩
 rw[<-l] at m ⊢;clear h b l n q f
 go_enter func68,ntmps68
 go_upto_region 1 with fail
 go_region_with(first | (go_at_call 69;refine(m.o _ c.o).mono ?_;rintro e y ⟨rfl,t,g⟩;have i:=ZZ (And.intro t g);clear t g))
 all_goals
  go_wp2;go_ret;exact⟨rfl,i.o.1,(Zap.ofBelow c.o).trans i.o.2 (fun _ _ h=>h)⟩
theorem Zjv (q:Pce->Bool) (l:List Pce) (j:Nat) (a:j<l.length):(l.take (j+1)).filter q=(l.take j).filter q++if q (l.getD j Zce)=true then[l.getD j Zce] else[]:=by
 rw[ZtG a Zce,List.filter_append]
 congr 1
 rw[List.filter_cons];split <;> rfl
def Zmk (R b:Nat):Stp:=⟨68,#[],#[.pointer (some ⟨R,0,none⟩),.pointer (some ⟨b,0,none⟩)]⟩
structure Zhk (w:World) (R:Nat) (gone left:List Pce) (bx:List Nat) (vs vl:Value) (wr:World):Prop where
 len:bx.length=gone.length
 row:wr.ownsRow 0 153 1 vs (bx.map (Zmk R)).length (ZbB (bx.map (Zmk R)))
 far:∀ k,vs.ownBlock=some k->w.heap.size<=k
 lrow:wr.ownsRow 0 108 3 vl left.length (Zau left)
 lfar:∀ k,vl.ownBlock=some k->w.heap.size<=k
 box:∀ j,j<bx.length->w.heap.size<=bx.getD j 0∧vl.ownBlock≠some (bx.getD j 0)∧Bk 108 wr (bx.getD j 0) (pcC (gone.getD j Zce))
 old:Below w.heap.size w wr
theorem Zhk.start (w:World) (R:Nat):Zhk w R [] [] [] (.slice none 0 0) (.slice none 0 0) w:=
 ⟨rfl,⟨rfl,.inl ⟨rfl,rfl⟩⟩,(fun k a=>by cases a),⟨rfl,.inl ⟨rfl,rfl⟩⟩,(fun k a=>by cases a),fun j b=>absurd b (Nat.not_lt_zero _),Below.refl _ _⟩
theorem Zhk.below {w:World} {R:Nat} {gone left:List Pce} {e:List Nat} {vs f:Value} {c w':World} (h:Zhk w R gone left e vs f c) (a:Below c.heap.size c w'):Zhk w R gone left e vs f w':=
 ⟨h.len,Zae h.row fun g d=>a.block g (World.ownsRow.lt h.row g d).2,h.far,Zae h.lrow fun g d=>a.block g (World.ownsRow.lt h.lrow g d).2,h.lfar,fun j b=>⟨(h.box j b).1,(h.box j b).2.1,(h.box j b).2.2.keep (a.block _ (h.box j b).2.2.lt)⟩,h.old.trans (a.mono h.old.size)⟩
theorem ZlP {α:Type} (l:List α) (x z:α) (j:Nat) (a:j<l.length):(l++[x]).getD j z=l.getD j z:=by
 simp[List.getD,List.getElem?_append_left a]
theorem ZlQ {α:Type} (l:List α) (x z:α):(l++[x]).getD l.length z=x:=by
 simp[List.getD]
theorem Zhk.step {w:World} {R:Nat} {gone left:List Pce} {f:List Nat} {vs x v':Value} {a W W':World} (h:Zhk w R gone left f vs x a) (c:Pce) (b:Below a.heap.size a W) (G:Bk 108 W a.heap.size (pcC c))
 (y:W'.ownsRow 0 153 1 v' (f.map (Zmk R)++[Zmk R a.heap.size]).length (ZbB (f.map (Zmk R)++[Zmk R a.heap.size]))) (l:(W.alloc (.cells #[(Zmk R a.heap.size).val] 153)).grownBy W' vs.ownBlock) (h3:v'.ownBlock=vs.ownBlock∨v'.ownBlock=some (W.heap.size+1)):
 Zhk w R (gone++[c]) left (f++[a.heap.size]) v' x W':=by
 have v:(W.alloc (.cells #[(Zmk R a.heap.size).val] 153)).heap.size=W.heap.size+1:=by simp
 have J:=b.size;have z:=h.old.size;have K:W.heap.size+1<=W'.heap.size:=by have:=l.size;rw[v] at this;exact this
 have q:∀ k,vs.ownBlock=some k->∃ cs,Bk 153 a k cs:=fun k i=>ZaR h.row i
 have i:∀ k,k<W.heap.size->vs.ownBlock≠some k->W'.heap[k]?=W.heap[k]?:=fun k i F=>by
  rw[l.block k (by rw[v];omega) (fun e=>F e.symm)]
  exact Below.heap_alloc _ _ _ (by omega)
 have u:∀ {k:Nat} {cs:Array Value},Bk 108 W k cs->Bk 108 W' k cs:=fun {k cs} d=>d.keep (i k d.lt (fun e=>by
  obtain⟨H,m⟩:=q k e
  exact d.ne (m.keep (b.block _ m.lt)) (by decide) rfl))
 refine⟨by rw[length_append,length_append,h.len];rfl,?_,fun k n=>?_,?_,h.lfar,fun j t=>?_,?_⟩
 ·rw[List.map_append]
  exact y
 ·rcases h3 with h3 | h3
  ·exact h.far k (by rw[<-h3];exact n)
  ·rw[h3] at n
   have:=Option.some.inj n;omega
 ·refine Zae h.lrow fun g I=>?_
  obtain⟨cs,d⟩:=ZaR h.lrow I
  rw[i g (by have:=d.lt;omega) (fun e=>by
   obtain⟨H,m⟩:=q g e
   exact d.ne m (by decide) rfl)]
  exact b.block g d.lt
 ·rw[length_append] at t
  by_cases e:j<f.length
  ·rw[ZlP _ _ _ _ e,ZlP _ _ _ _ (by rw[<-h.len];exact e)]
   obtain⟨E,C,p⟩:=h.box j e;exact⟨E,C,u (p.keep (b.block _ p.lt))⟩
  ·have B:j=f.length:=by simp at t;omega
   rw[B,ZlQ,h.len,ZlQ];refine⟨z,fun D=>?_,u G⟩
   have:=(World.ownsRow.lt h.lrow _ D).2;omega
 ·refine⟨l.os.trans (b.os.trans h.old.os),l.tape.trans (b.tape.trans h.old.tape),l.output.trans (b.output.trans h.old.output),by omega,fun k A=>?_⟩
  rw[i k (by omega) (fun e=>by have:=h.far k e;omega),b.block k (by omega)]
  exact h.old.block k A
theorem Zhk.leave {w:World} {R:Nat} {gone left:List Pce} {t:List Nat} {vs f v':Value} {n W W':World} (h:Zhk w R gone left t vs f n) (c:Pce) (a:Below n.heap.size n W)
 (v:W'.ownsRow 0 108 3 v' (left++[c]).length (Zau (left++[c]))) (b:(W.alloc (.cells (pcC c) 108)).grownBy W' f.ownBlock) (h3:v'.ownBlock=f.ownBlock∨v'.ownBlock=some (W.heap.size+1)):
 Zhk w R gone (left++[c]) t vs v' W':=by
 have q:(W.alloc (.cells (pcC c) 108)).heap.size=W.heap.size+1:=by simp
 have D:=a.size;have C:=h.old.size;have E:W.heap.size+1<=W'.heap.size:=by have:=b.size;rw[q] at this;exact this
 have i:∀ k,k<W.heap.size->f.ownBlock≠some k->W'.heap[k]?=W.heap[k]?:=fun k i A=>by
  rw[b.block k (by rw[q];omega) (fun e=>A e.symm)]
  exact Below.heap_alloc _ _ _ (by omega)
 refine⟨h.len,?_,h.far,v,fun k m=>?_,fun j y=>?_,?_⟩
 ·refine Zae h.row fun g B=>?_
  obtain⟨cs,l⟩:=ZaR h.row B
  rw[i g (by have:=l.lt;omega) (fun e=>by
   obtain⟨F,u⟩:=ZaR h.lrow e
   exact l.ne u (by decide) rfl)]
  exact a.block g l.lt
 ·rcases h3 with h3 | h3
  ·exact h.lfar k (by rw[<-h3];exact m)
  ·rw[h3] at m
   have:=Option.some.inj m;omega
 ·obtain⟨z,p,d⟩:=h.box j y
  refine⟨z,fun e=>?_,(d.keep (a.block _ d.lt)).keep (i _ (by have:=d.lt;omega) p)⟩
  rcases h3 with h3 | h3
  ·exact p (by rw[<-h3];exact e)
  ·rw[h3] at e
   have:=Option.some.inj e;have:=d.lt;omega
 ·refine⟨b.os.trans (a.os.trans h.old.os),b.tape.trans (a.tape.trans h.old.tape),b.output.trans (a.output.trans h.old.output),by omega,fun k x=>?_⟩
  rw[i k (by omega) (fun e=>by have:=h.lfar k e;omega),a.block k (by omega)]
  exact h.old.block k x
theorem Zhk.last {w:World} {R:Nat} {gone left:List Pce} {f:List Nat} {vs u v':Value} {a W':World} {c:Stp} {l:List Stp} (h:Zhk w R gone left f vs u a)
 (_h1:W'.ownsRow 0 153 1 v' l.length (ZbB l)) (d:(a.alloc (.cells #[c.val] 153)).grownBy W' vs.ownBlock) (h3:v'.ownBlock=vs.ownBlock∨v'.ownBlock=some (a.heap.size+1)):
 Below w.heap.size w W'∧W'.ownsRow 0 108 3 u left.length (Zau left)∧(∀ j,j<f.length->w.heap.size<=f.getD j 0∧Bk 108 W' (f.getD j 0) (pcC (gone.getD j Zce)))∧(∀ k,v'.ownBlock=some k->w.heap.size<=k):=by
 have t:(a.alloc (.cells #[c.val] 153)).heap.size=a.heap.size+1:=by simp
 have C:=h.old.size;have E:a.heap.size+1<=W'.heap.size:=by have:=d.size;rw[t] at this;exact this
 have q:∀ k,vs.ownBlock=some k->∃ cs,Bk 153 a k cs:=fun k b=>ZaR h.row b
 have b:∀ k,k<a.heap.size->vs.ownBlock≠some k->W'.heap[k]?=a.heap[k]?:=fun k b z=>by
  rw[d.block k (by rw[t];omega) (fun e=>z e.symm)]
  exact Below.heap_alloc _ _ _ (by omega)
 refine⟨⟨d.os.trans h.old.os,d.tape.trans h.old.tape,d.output.trans h.old.output,by omega,fun k v=>?_⟩,?_,fun j x=>?_,fun k n=>?_⟩
 ·rw[b k (by omega) (fun e=>by have:=h.far k e;omega)]
  exact h.old.block k v
 ·refine Zae h.lrow fun g B=>?_
  obtain⟨cs,p⟩:=ZaR h.lrow B
  exact b g p.lt (fun e=>by
   obtain⟨A,i⟩:=q g e
   exact p.ne i (by decide) rfl)
 ·obtain⟨y,D,m⟩:=h.box j x
  exact⟨y,m.keep (b _ m.lt (fun e=>by
   obtain⟨A,i⟩:=q _ e
   exact m.ne i (by decide) rfl))⟩
 ·rcases h3 with h3 | h3
  ·exact h.far k (by rw[<-h3];exact n)
  ·rw[h3] at n
   have:=Option.some.inj n;omega
theorem ZCx {w:World} {v:Value} {l:List Stp} (h:w.ownsRow 0 153 1 v l.length (ZbB l)) (c:l.length≠0) (z:Stp):
 ∃ g cap cs,v=.slice (some ⟨g,0,none⟩) l.length cap∧Bk 153 w g cs∧v.ownBlock=some g∧∀ i,i<l.length->cs[i]?=some (l.getD i z).val:=by
 rcases h.2 with ⟨_,f⟩ | ⟨g,cap,cur,b,k,j,p,m,n,e⟩
 ·exact absurd f c
 ·refine⟨g,cap,cur,b,j,by rw[b];rfl,fun i d=>?_⟩
  have a:(ZbB l)[i]?=some (l.getD i z).val:=by
   unfold ZbB;simp[List.getD,d]
  rw[<-e,List.getElem?_take,if_pos (by omega),Array.getElem?_toList] at a
  exact a
end Go.Proofs.YtnahjngbneicaaaGreatDoor
