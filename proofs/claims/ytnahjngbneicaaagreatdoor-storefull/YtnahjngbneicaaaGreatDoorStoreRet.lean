import Derived.Test.YtnahjngbneicaaaGreatDoorPack14
namespace Go.Proofs.YtnahjngbneicaaaGreatDoor
set_option linter.unusedSimpArgs false
open _root_.Go.Proofs.Tryz
open List (length_append)
set_option maxRecDepth 100000
open Go.RowKit
variable {W W' w w' wr:World} {N R T p pd:Nat} {s:Sto} {K:Nat->Prop} {d:Dk} {l:List Stp} {gone left:List Pce} {v' vs:Value}
theorem ZzV:(prog.info? 153).map (fun i=>(i.zero,i.size,i.bytes))=some (some .nilFunc,1,8):=by kernel_rfl
def Zd (l:List Stp):List Value:=l.map Stp.val
theorem Zkl (l:List Stp):(Zd l).length=l.length*1:=by simp[Zd]
theorem ZqO (l:List Stp):∀ u ∈ Zd l,u.oneCell'=true:=fun u a=>by
 obtain⟨s,-,rfl⟩:=zbm.1 a;rfl
theorem ZmG (w:World) (ty:TypeId) (v:Value) (l:List Stp) (h:w.ownsRow 0 153 1 v l.length (Zd l)) (c:Stp) (p:l.length<=10000000):
 ∃ v' w',(Builtin.append_ #[106,106] ty #[v,.slice (some ⟨w.heap.size,0,none⟩) 1 1]).run prog (w.alloc (.cells #[c.val] 153))=.ok v' w'∧
  w'.ownsRow 0 153 1 v' (l++[c]).length (Zd (l++[c]))∧(w.alloc (.cells #[c.val] 153)).grownBy w' v.ownBlock∧(v'.ownBlock=v.ownBlock∨v'.ownBlock=some (w.heap.size+1)):=by
 obtain⟨i,n,b,a,m⟩:=zbx ZzV
 obtain⟨v',w',f,g,k,_,hl⟩:=zdf (P:=prog) (w.alloc (.cells #[c.val] 153)) 0 106 ty 153 i _ 1 8 underlying106 n b a m rfl (by decide) v l.length (Zd l) (zb3 h _)
  ⟨w.heap.size,0,none⟩ 1 1 (Zd [c]) (Zkl [c]) (fun j u d=>by
   rw[zbn,za9,zas _ w.heap.size j _ 153 (0,0) (zak w _)]
   simpa[Zd] using d) (ZqO [c]) (by unfold maxLen;omega) (by omega) (zap _)
 refine⟨v',w',f,?_,k,?_⟩
 ·have e:Zd (l++[c])=Zd l++Zd [c]:=by simp[Zd]
  rw[length_append,e];exact g
 ·rcases hl with hl | hl
  ·exact .inl hl
  ·exact .inr (by rw[hl];simp)
theorem Zcv (w:World) {b:Array Oper} {rest:List Oper} {o:Oper} {a:Act} {Q:Exit->Act->World->Prop} (i:o.guard=none) (s x:Operand)
 (k:o.op=.call { callee:=.builtin .append,args:=#[s,x],argTypes:=#[106,106] })
 (v:Value) (l:List Stp) (d:a.eval s=v) (h:w.ownsRow 0 153 1 v l.length (Zd l)) (c:Stp) (p:a.eval x=.slice (some ⟨w.heap.size,0,none⟩) 1 1) (e:l.length<=10000000)
 (f:∀ v' w',w'.ownsRow 0 153 1 v' (l++[c]).length (Zd (l++[c]))->(w.alloc (.cells #[c.val] 153)).grownBy w' v.ownBlock->(v'.ownBlock=v.ownBlock∨v'.ownBlock=some (w.heap.size+1))->
  wpList prog b Q rest (a.put o.dst v') w'):wpList prog b Q (o::rest) a (w.alloc (.cells #[c.val] 153)):=
 zb0 i fun _ m=>by
  obtain⟨v',w',g,q,n,j⟩:=ZmG w o.type v l h c e;unfold Oper.wp execOp;simp only [k,resolve,invoke,builtin,zbt,zbv,zbe,zch,zei,zf7,d,p,g];exact m _ _ (f v' w' q n j)
theorem Jr.ofLogZ {M I Z:Nat->Prop} {L:ZdD} {g:Lgb} {b c:Value} (h:Jr M I w p pd L s) (v:∀ k,Z k->¬ I k)
 (a:ZiJ 76 w' p 1 ((((stC pd L s).setIfInBounds 1 (.int .i64 g.first)).setIfInBounds (1+1) b).setIfInBounds (1+2) c) b c g) (j:Ql (fun k=>k=p) w w') (n:∀ k,Zka p b c k->Zka p L.rv L.pv k∨Z k):
 ∃ M' L',Jr M' I w' p pd L' { s with log:=g }∧Ql M w w'∧∀ k,M' k->M k∨Z k:=by
 have f:Ql M w w':=j.mono (fun k hk=>by rw[hk];exact h.mh)
 have m:∀ k,I k->w'.heap[k]?=w.heap[k]?:=fun k hk=>f.block k (h.ltI k hk) fun a=>h.dis k a hk
 have u:((((stC pd L s).setIfInBounds 1 (.int .i64 g.first)).setIfInBounds (1+1) b).setIfInBounds (1+2) c)=stC pd { L with rv:=b,pv:=c } { s with log:=g }:=rfl
 rw[u] at a
 have t:∀ k,Zka p b c k->k<w'.heap.size:=fun k hk=>by
  rcases hk with rfl | hk | hk
  ·exact a.blk.lt
  ·obtain⟨l,d⟩:=X5 a.recs hk
   exact d.lt
  ·obtain⟨l,d⟩:=X5 a.pcs hk
   exact d.lt
 refine⟨fun k=>M k∨Zka p b c k,{ L with rv:=b,pv:=c },⟨a.blk,a.recs,a.pcs,Qh h.bases fun k hk=>?_,h.bsEq,h.now.keep h.inow m,fun x q=>(h.base x q).keep (h.ibase x q) m,.inr (.inl rfl),fun k hk=>.inr (.inr (.inl hk)),fun k hk=>.inr (.inr (.inr hk)),fun k hk=>.inl (h.mb k hk),h.inow,h.ibase,fun k hk=>?_,fun k hk=>zay (h.ltI k hk) f.size,fun k hk i=>?_⟩,f,fun k hk=>?_⟩
 ·obtain⟨l,d⟩:=X5 h.bases hk
  exact j.block k d.lt (fun e=>by
   subst e
   exact(d.ne h.head (by decide)) rfl)
 ·rcases hk with hk | hk
  ·exact zay (h.ltM k hk) f.size
  ·exact t k hk
 ·rcases hk with hk | hk
  ·exact h.dis k hk i
  ·rcases n k hk with h1 | h1
   ·exact h.dis k (h.logF k h1) i
   ·exact v k h1 i
 ·rcases hk with hk | hk
  ·exact .inl hk
  ·rcases n k hk with h1 | h1
   ·exact .inl (h.logF k h1)
   ·exact .inr h1
theorem SD.letGo {f:Nat->Prop} (h:SD f w pd p s d N T) (c:∀ k,K k->f k) (H:∀ k,f k->k<w.heap.size) (b:Value) (left:List Pce) (base:Int)
 (P:w.ownsRow 0 108 3 b left.length (Q7 left)) (x:∀ k,b.ownBlock=some k->f k∧¬ K k)
 (v:left.length<=1000000) (G:s.log.recs.length<=1000000) (Q:∀ r ∈ s.log.recs,ZcJ r) (B:s.log.first<=Zj left base) (C:Zj left base<=s.log.first+s.log.recs.length) (z:0<=s.log.first) (E:s.log.first+s.log.recs.length<=4611686018427387904):
 Calls prog 70 #[.pointer (some ⟨p,1,none⟩),b,.int .i64 base] w fun e w'=>e=.returned (.tuple #[])∧SD K w' pd p { s with log:=s.log.letGo left base } d N T∧Ql (fun k=>¬ K k) w w':=by
 obtain⟨F,M,I,L,n,g,u,i,l,t,J⟩:=h;refine(ZvA 76 (by decide) p 1 (stC pd L s) L.rv L.pv s.log b left base w g.toLog P v G Q B C z E).mono ?_
 rintro e w' ⟨rfl,R,O,A,y⟩
 have j:∀ k,(b.ownBlock=some k∨w.heap.size<=k)->¬ K k∧¬ F k∧¬ M k∧¬ I k:=fun k hk=>by
  rcases hk with hk | hk
  ·have a:=x k hk
   exact⟨a.2,fun hx=>u k hx a.1,fun hx=>i k hx a.1,fun hx=>l k hx a.1⟩
  ·refine⟨fun hx=>?_,fun hx=>?_,fun hx=>?_,fun hx=>?_⟩
   ·have:=H k (c k hx);omega
   ·have:=n.ltF k hx;omega
   ·have:=g.ltM k hx;omega
   ·have:=g.ltI k hx;omega
 obtain⟨M',L',D,m,q⟩:=g.ofLogZ (Z:=fun k=>b.ownBlock=some k∨w.heap.size<=k) (fun k hk=>(j k hk).2.2.2) O A (fun k hk=>by
  rcases hk with hk | hk | hk
  ·exact .inl (.inl hk)
  ·exact .inr (.inr (y k hk))
  ·exact .inr (.inl hk))
 refine⟨rfl,⟨F,M',I,L',n.only m t,D,fun k hk a=>u k hk (c k a),fun k hk a=>?_,fun k hk a=>l k hk (c k a),fun k hk a=>?_,J⟩,m.mono (fun k hk a=>i k hk (c k a))⟩
 ·rcases q k hk with hx | hx
  ·exact i k hx (c k a)
  ·exact(j k hx).1 a
 ·rcases q k a with hx | hx
  ·exact t k hk hx
  ·exact(j k hx).2.1 hk
set_option maxHeartbeats 1000000 in
theorem ZqP {l:Nat} (a:Int) (w:World) (h:SD K w pd p s d N T) (g:∀ k,K k->k<w.heap.size) (A:w.cell? ⟨R,0,none⟩=some (ptr p)) (B:w.cell? ⟨l,0,none⟩=some (.int .i64 a)) (f:I64 a) (u:N<=1000000) (b:T<=1000000000):
 Calls prog 68 #[.pointer (some ⟨R,0,none⟩),.pointer (some ⟨l,0,none⟩)] w fun e w'=>J3 K w pd p (Xo (fun d=>Qi d a) (s,d)) (N+2) T e w':=by
 have j:Hid (∀ W,Below w.heap.size w W->Calls prog 69 #[ptr pd,.int .i64 a] W fun e w'=>J3 K W pd p (Xo (fun d=>Qi d a) (s,d)) (N+2) T e w'):=ZZ (fun W q=>(h.below q).step (fun d=>Qi d a) (fun k v=>zay (g k v) q.size) (fun F x _=>Zky a f _ x u b))
 obtain⟨⟨y,-⟩,-⟩:=h.cells;have i:Hid (Below w.heap.size w w.drew):=ZZ (zac _ _).drew;obtain⟨r,c⟩:=zg7 (Xo (fun d=>Qi d a) (s,d))
 rw[<-c] at j ⊢;clear h g c f u b
 go_enter func68,ntmps68
 go_upto_region 1 with fail
 go_region_with(first | (go_at_call 69;refine(j.o _ i.o).mono ?_;rintro e z ⟨rfl,m,t⟩;have n:=ZZ (And.intro m t);clear m t))
 all_goals
  go_wp2;go_ret;exact⟨rfl,n.o.1,(Ql.ofBelow i.o).trans n.o.2 (fun _ _ h=>h)⟩
theorem ZgN (q:Pce->Bool) (l:List Pce) (j:Nat) (a:j<l.length):(l.take (j+1)).filter q=(l.take j).filter q++if q (l.getD j Zm)=true then[l.getD j Zm] else[]:=by
 rw[Zrx a Zm,zez]
 congr 1
 rw[zdi];split <;> rfl
def ZjP (R b:Nat):Stp:=⟨68,#[],#[.pointer (some ⟨R,0,none⟩),.pointer (some ⟨b,0,none⟩)]⟩
structure Zeo (w:World) (R:Nat) (gone left:List Pce) (bx:List Nat) (vs vl:Value) (wr:World):Prop where
 len:bx.length=gone.length
 row:wr.ownsRow 0 153 1 vs (bx.map (ZjP R)).length (Zd (bx.map (ZjP R)))
 far:∀ k,vs.ownBlock=some k->w.heap.size<=k
 lrow:wr.ownsRow 0 108 3 vl left.length (Q7 left)
 lfar:∀ k,vl.ownBlock=some k->w.heap.size<=k
 box:∀ j,j<bx.length->w.heap.size<=bx.getD j 0∧vl.ownBlock≠some (bx.getD j 0)∧Bk 108 wr (bx.getD j 0) (pcC (gone.getD j Zm))
 old:Below w.heap.size w wr
theorem Zeo.start (w:World) (R:Nat):Zeo w R [] [] [] (.slice none 0 0) (.slice none 0 0) w:=
 ⟨rfl,⟨rfl,.inl ⟨rfl,rfl⟩⟩,(fun k a=>by cases a),⟨rfl,.inl ⟨rfl,rfl⟩⟩,(fun k a=>by cases a),fun j b=>absurd b (zcg _),zac _ _⟩
theorem Zeo.below {e:List Nat} {d:Value} (h:Zeo w R gone left e vs d wr) (a:Below wr.heap.size wr w'):Zeo w R gone left e vs d w':=
 ⟨h.len,Qh h.row fun g c=>a.block g (zaz h.row g c).2,h.far,Qh h.lrow fun g c=>a.block g (zaz h.lrow g c).2,h.lfar,fun j b=>⟨(h.box j b).1,(h.box j b).2.1,(h.box j b).2.2.keep (a.block _ (h.box j b).2.2.lt)⟩,h.old.trans (a.mono h.old.size)⟩
theorem ZjI {α:Type} (l:List α) (x z:α) (j:Nat) (a:j<l.length):(l++[x]).getD j z=l.getD j z:=by
 simp[List.getD,zbg a]
theorem ZjJ {α:Type} (l:List α) (x z:α):(l++[x]).getD l.length z=x:=by
 simp[List.getD]
theorem Zeo.step {d:List Nat} {p:Value} (h:Zeo w R gone left d vs p wr) (c:Pce) (a:Below wr.heap.size wr W) (G:Bk 108 W wr.heap.size (pcC c))
 (D:W'.ownsRow 0 153 1 v' (d.map (ZjP R)++[ZjP R wr.heap.size]).length (Zd (d.map (ZjP R)++[ZjP R wr.heap.size]))) (i:(W.alloc (.cells #[(ZjP R wr.heap.size).val] 153)).grownBy W' vs.ownBlock) (h3:v'.ownBlock=vs.ownBlock∨v'.ownBlock=some (W.heap.size+1)):
 Zeo w R (gone++[c]) left (d++[wr.heap.size]) v' p W':=by
 have v:(W.alloc (.cells #[(ZjP R wr.heap.size).val] 153)).heap.size=W.heap.size+1:=by simp
 have I:=a.size;have B:=h.old.size;have J:W.heap.size+1<=W'.heap.size:=by have:=i.size;rw[v] at this;exact this
 have t:∀ k,vs.ownBlock=some k->∃ cs,Bk 153 wr k cs:=fun k f=>X5 h.row f
 have f:∀ k,k<W.heap.size->vs.ownBlock≠some k->W'.heap[k]?=W.heap[k]?:=fun k f x=>by
  rw[i.block k (by rw[v];omega) (fun e=>x e.symm)]
  exact zav _ _ _ (by omega)
 have q:∀ {k:Nat} {cs:Array Value},Bk 108 W k cs->Bk 108 W' k cs:=fun {k cs} b=>b.keep (f k b.lt (fun e=>by
  obtain⟨z,l⟩:=t k e
  exact b.ne (l.keep (a.block _ l.lt)) (by decide) rfl))
 refine⟨by rw[length_append,length_append,h.len];rfl,?_,fun k m=>?_,?_,h.lfar,fun j n=>?_,?_⟩
 ·rw[zc1]
  exact D
 ·rcases h3 with h3 | h3
  ·exact h.far k (by rw[<-h3];exact m)
  ·rw[h3] at m
   have:=zaq m;omega
 ·refine Qh h.lrow fun g E=>?_
  obtain⟨cs,b⟩:=X5 h.lrow E
  rw[f g (by have:=b.lt;omega) (fun e=>by
   obtain⟨z,l⟩:=t g e
   exact b.ne l (by decide) rfl)]
  exact a.block g b.lt
 ·rw[length_append] at n
  by_cases e:j<d.length
  ·rw[ZjI _ _ _ _ e,ZjI _ _ _ _ (by rw[<-h.len];exact e)]
   obtain⟨F,C,u⟩:=h.box j e;exact⟨F,C,q (u.keep (a.block _ u.lt))⟩
  ·have y:j=d.length:=by simp at n;omega
   rw[y,ZjJ,h.len,ZjJ];refine⟨B,fun A=>?_,q G⟩
   have:=(zaz h.lrow _ A).2;omega
 ·refine⟨i.os.trans (a.os.trans h.old.os),i.tape.trans (a.tape.trans h.old.tape),i.output.trans (a.output.trans h.old.output),by omega,fun k H=>?_⟩
  rw[f k (by omega) (fun e=>by have:=h.far k e;omega),a.block k (by omega)]
  exact h.old.block k H
theorem Zeo.leave {n:List Nat} {d:Value} (h:Zeo w R gone left n vs d wr) (c:Pce) (a:Below wr.heap.size wr W)
 (x:W'.ownsRow 0 108 3 v' (left++[c]).length (Q7 (left++[c]))) (b:(W.alloc (.cells (pcC c) 108)).grownBy W' d.ownBlock) (h3:v'.ownBlock=d.ownBlock∨v'.ownBlock=some (W.heap.size+1)):
 Zeo w R gone (left++[c]) n vs v' W':=by
 have q:(W.alloc (.cells (pcC c) 108)).heap.size=W.heap.size+1:=by simp
 have B:=a.size;have E:=h.old.size;have C:W.heap.size+1<=W'.heap.size:=by have:=b.size;rw[q] at this;exact this
 have f:∀ k,k<W.heap.size->d.ownBlock≠some k->W'.heap[k]?=W.heap[k]?:=fun k f v=>by
  rw[b.block k (by rw[q];omega) (fun e=>v e.symm)]
  exact zav _ _ _ (by omega)
 refine⟨h.len,?_,h.far,x,fun k m=>?_,fun j u=>?_,?_⟩
 ·refine Qh h.row fun g y=>?_
  obtain⟨cs,l⟩:=X5 h.row y
  rw[f g (by have:=l.lt;omega) (fun e=>by
   obtain⟨D,t⟩:=X5 h.lrow e
   exact l.ne t (by decide) rfl)]
  exact a.block g l.lt
 ·rcases h3 with h3 | h3
  ·exact h.lfar k (by rw[<-h3];exact m)
  ·rw[h3] at m
   have:=zaq m;omega
 ·obtain⟨z,p,i⟩:=h.box j u
  refine⟨z,fun e=>?_,(i.keep (a.block _ i.lt)).keep (f _ (by have:=i.lt;omega) p)⟩
  rcases h3 with h3 | h3
  ·exact p (by rw[<-h3];exact e)
  ·rw[h3] at e
   have:=zaq e;have:=i.lt;omega
 ·refine⟨b.os.trans (a.os.trans h.old.os),b.tape.trans (a.tape.trans h.old.tape),b.output.trans (a.output.trans h.old.output),by omega,fun k A=>?_⟩
  rw[f k (by omega) (fun e=>by have:=h.lfar k e;omega),a.block k (by omega)]
  exact h.old.block k A
theorem Zeo.last {d:List Nat} {p:Value} {c:Stp} (h:Zeo w R gone left d vs p wr)
 (_h1:W'.ownsRow 0 153 1 v' l.length (Zd l)) (b:(wr.alloc (.cells #[c.val] 153)).grownBy W' vs.ownBlock) (h3:v'.ownBlock=vs.ownBlock∨v'.ownBlock=some (wr.heap.size+1)):
 Below w.heap.size w W'∧W'.ownsRow 0 108 3 p left.length (Q7 left)∧(∀ j,j<d.length->w.heap.size<=d.getD j 0∧Bk 108 W' (d.getD j 0) (pcC (gone.getD j Zm)))∧(∀ k,v'.ownBlock=some k->w.heap.size<=k):=by
 have t:(wr.alloc (.cells #[c.val] 153)).heap.size=wr.heap.size+1:=by simp
 have C:=h.old.size;have B:wr.heap.size+1<=W'.heap.size:=by have:=b.size;rw[t] at this;exact this
 have q:∀ k,vs.ownBlock=some k->∃ cs,Bk 153 wr k cs:=fun k a=>X5 h.row a
 have a:∀ k,k<wr.heap.size->vs.ownBlock≠some k->W'.heap[k]?=wr.heap[k]?:=fun k a v=>by
  rw[b.block k (by rw[t];omega) (fun e=>v e.symm)]
  exact zav _ _ _ (by omega)
 refine⟨⟨b.os.trans h.old.os,b.tape.trans h.old.tape,b.output.trans h.old.output,by omega,fun k A=>?_⟩,?_,fun j u=>?_,fun k m=>?_⟩
 ·rw[a k (by omega) (fun e=>by have:=h.far k e;omega)]
  exact h.old.block k A
 ·refine Qh h.lrow fun g y=>?_
  obtain⟨cs,n⟩:=X5 h.lrow y
  exact a g n.lt (fun e=>by
   obtain⟨x,f⟩:=q g e
   exact n.ne f (by decide) rfl)
 ·obtain⟨z,D,i⟩:=h.box j u
  exact⟨z,i.keep (a _ i.lt (fun e=>by
   obtain⟨x,f⟩:=q _ e
   exact i.ne f (by decide) rfl))⟩
 ·rcases h3 with h3 | h3
  ·exact h.far k (by rw[<-h3];exact m)
  ·rw[h3] at m
   have:=zaq m;omega
theorem ZBf {v:Value} (h:w.ownsRow 0 153 1 v l.length (Zd l)) (j:l.length≠0) (z:Stp):
 ∃ g cap cs,v=.slice (some ⟨g,0,none⟩) l.length cap∧Bk 153 w g cs∧v.ownBlock=some g∧∀ i,i<l.length->cs[i]?=some (l.getD i z).val:=by
 rcases h.2 with ⟨_,c⟩ | ⟨g,cap,cur,b,p,d,k,m,n,e⟩
 ·exact absurd c j
 ·refine⟨g,cap,cur,b,d,by rw[b];rfl,fun i f=>?_⟩
  have a:(Zd l)[i]?=some (l.getD i z).val:=by
   unfold Zd;simp[List.getD,f]
  rw[<-e,zdl,zab (by omega),zb2] at a
  exact a
end Go.Proofs.YtnahjngbneicaaaGreatDoor
