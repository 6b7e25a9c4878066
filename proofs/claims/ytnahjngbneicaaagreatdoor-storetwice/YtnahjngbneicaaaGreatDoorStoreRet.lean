import Derived.Test.YtnahjngbneicaaaGreatDoorStoreCk
namespace Go.Proofs.YtnahjngbneicaaaGreatDoor
open _root_.Go.Proofs.Tryz
open List (length_append)
set_option maxRecDepth 100000
open Go.RowKit
variable {W W' w w' wr:World} {N R T p pd:Nat} {s:Sto} {K:Nat->Prop} {d:Dk} {gone left:List Pce} {v v' vs:Value} {l:List Stp}
theorem ZxR:(prog.info? 153).map (fun i=>(i.zero,i.size,i.bytes))=some (some .nilFunc,1,8):=by kernel_rfl
def Yo (l:List Stp):List Value:=l.map Stp.val
theorem Zjp (l:List Stp):(Yo l).length=l.length*1:=by simp[Yo]
theorem Zpk (l:List Stp):∀ u ∈ Yo l,u.oneCell'=true:=fun u a=>by
 obtain⟨s,-,rfl⟩:=List.mem_map.1 a;rfl
theorem Zlv (w:World) (ty:TypeId) (v:Value) (l:List Stp) (h:w.ownsRow 0 153 1 v l.length (Yo l)) (c:Stp) (p:l.length<=10000000):
 ∃ v' w',(Builtin.append_ #[106,106] ty #[v,.slice (some ⟨w.heap.size,0,none⟩) 1 1]).run prog (w.alloc (.cells #[c.val] 153))=.ok v' w'∧
  w'.ownsRow 0 153 1 v' (l++[c]).length (Yo (l++[c]))∧(w.alloc (.cells #[c.val] 153)).grownBy w' v.ownBlock∧(v'.ownBlock=v.ownBlock∨v'.ownBlock=some (w.heap.size+1)):=by
 obtain⟨n,f,k,d,b⟩:=info_parts ZxR
 obtain⟨v',w',i,m,g,_,hl⟩:=run_append_own_at (P:=prog) (w.alloc (.cells #[c.val] 153)) 0 106 ty 153 n _ 1 8 underlying106 f k d b rfl (by decide) v l.length (Yo l) (World.ownsRow.alloc h _)
  ⟨w.heap.size,0,none⟩ 1 1 (Yo [c]) (Zjp [c]) (fun j u a=>by
   rw[Addr.add_lit,Nat.zero_add,cell_of_row _ w.heap.size j _ 153 (0,0) (heap_alloc_new w _)]
   simpa[Yo] using a) (Zpk [c]) (by unfold maxLen;omega) (by omega) (Nat.zero_le _)
 refine⟨v',w',i,?_,g,?_⟩
 ·have e:Yo (l++[c])=Yo l++Yo [c]:=by simp[Yo]
  rw[length_append,e];exact m
 ·rcases hl with hl | hl
  ·exact .inl hl
  ·exact .inr (by rw[hl];simp)
theorem Zct (w:World) {b:Array Oper} {rest:List Oper} {o:Oper} {a:Act} {Q:Exit->Act->World->Prop} (k:o.guard=none) (s x:Operand)
 (q:o.op=.call { callee:=.builtin .append,args:=#[s,x],argTypes:=#[106,106] })
 (v:Value) (l:List Stp) (i:a.eval s=v) (h:w.ownsRow 0 153 1 v l.length (Yo l)) (c:Stp) (m:a.eval x=.slice (some ⟨w.heap.size,0,none⟩) 1 1) (g:l.length<=10000000)
 (e:∀ v' w',w'.ownsRow 0 153 1 v' (l++[c]).length (Yo (l++[c]))->(w.alloc (.cells #[c.val] 153)).grownBy w' v.ownBlock->(v'.ownBlock=v.ownBlock∨v'.ownBlock=some (w.heap.size+1))->
  wpList prog b Q rest (a.put o.dst v') w'):wpList prog b Q (o::rest) a (w.alloc (.cells #[c.val] 153)):=
 wpList_plain k fun _ f=>by
  obtain⟨v',w',p,d,j,n⟩:=Zlv w o.type v l h c g;unfold Oper.wp execOp;simp only [q,resolve,invoke,builtin,Sem.run_bind,Sem.run_pure,Result.andThen_ok,List.map_toArray,List.map_cons,List.map_nil,i,m,p];exact f _ _ (e v' w' d j n)
theorem Z0.ofLogZ {M I Z:Nat->Prop} {L:ZdP} {g:Lgb} {b c:Value} (h:Z0 M I w p pd L s) (v:∀ k,Z k->¬ I k)
 (a:ZhY 76 w' p 1 ((((stC pd L s).setIfInBounds 1 (.int .i64 g.first)).setIfInBounds (1+1) b).setIfInBounds (1+2) c) b c g) (q:Qj (fun k=>k=p) w w') (n:∀ k,Zjf p b c k->Zjf p L.rv L.pv k∨Z k):
 ∃ M' L',Z0 M' I w' p pd L' { s with log:=g }∧Qj M w w'∧∀ k,M' k->M k∨Z k:=by
 have f:Qj M w w':=q.mono (fun k hk=>by rw[hk];exact h.mh)
 have l:∀ k,I k->w'.heap[k]?=w.heap[k]?:=fun k hk=>f.block k (h.ltI k hk) fun a=>h.dis k a hk
 have t:((((stC pd L s).setIfInBounds 1 (.int .i64 g.first)).setIfInBounds (1+1) b).setIfInBounds (1+2) c)=stC pd { L with rv:=b,pv:=c } { s with log:=g }:=rfl
 rw[t] at a
 have u:∀ k,Zjf p b c k->k<w'.heap.size:=fun k hk=>by
  rcases hk with rfl | hk | hk
  ·exact a.blk.lt
  ·obtain⟨j,d⟩:=Xm a.recs hk
   exact d.lt
  ·obtain⟨j,d⟩:=Xm a.pcs hk
   exact d.lt
 refine⟨fun k=>M k∨Zjf p b c k,{ L with rv:=b,pv:=c },⟨a.blk,a.recs,a.pcs,Qh h.bases fun k hk=>?_,h.bsEq,h.now.keep h.inow l,fun x m=>(h.base x m).keep (h.ibase x m) l,.inr (.inl rfl),fun k hk=>.inr (.inr (.inl hk)),fun k hk=>.inr (.inr (.inr hk)),fun k hk=>.inl (h.mb k hk),h.inow,h.ibase,fun k hk=>?_,fun k hk=>Nat.lt_of_lt_of_le (h.ltI k hk) f.size,fun k hk i=>?_⟩,f,fun k hk=>?_⟩
 ·obtain⟨j,d⟩:=Xm h.bases hk
  exact q.block k d.lt (fun e=>by
   subst e
   exact(d.ne h.head (by decide)) rfl)
 ·rcases hk with hk | hk
  ·exact Nat.lt_of_lt_of_le (h.ltM k hk) f.size
  ·exact u k hk
 ·rcases hk with hk | hk
  ·exact h.dis k hk i
  ·rcases n k hk with h1 | h1
   ·exact h.dis k (h.logF k h1) i
   ·exact v k h1 i
 ·rcases hk with hk | hk
  ·exact .inl hk
  ·rcases n k hk with h1 | h1
   ·exact .inl (h.logF k h1)
   ·exact .inr h1
theorem SD.letGo {g:Nat->Prop} (h:SD g w pd p s d N T) (c:∀ k,K k->g k) (y:∀ k,g k->k<w.heap.size) (b:Value) (left:List Pce) (base:Int)
 (C:w.ownsRow 0 108 3 b left.length (Qx left)) (G:∀ k,b.ownBlock=some k->g k∧¬ K k)
 (Q:left.length<=1000000) (v:s.log.recs.length<=1000000) (x:∀ r ∈ s.log.recs,ZcK r) (D:s.log.first<=Yt left base) (E:Yt left base<=s.log.first+s.log.recs.length) (z:0<=s.log.first) (J:s.log.first+s.log.recs.length<=4611686018427387904):
 Calls prog 70 #[.pointer (some ⟨p,1,none⟩),b,.int .i64 base] w fun e w'=>e=.returned (.tuple #[])∧SD K w' pd p { s with log:=s.log.letGo left base } d N T∧Qj (fun k=>¬ K k) w w':=by
 obtain⟨F,M,I,L,n,f,t,i,m,u,H⟩:=h;refine(Zuc 76 (by decide) p 1 (stC pd L s) L.rv L.pv s.log b left base w f.toLog C Q v x D E z J).mono ?_
 rintro e w' ⟨rfl,R,B,O,P⟩
 have j:∀ k,(b.ownBlock=some k∨w.heap.size<=k)->¬ K k∧¬ F k∧¬ M k∧¬ I k:=fun k hk=>by
  rcases hk with hk | hk
  ·have a:=G k hk
   exact⟨a.2,fun hx=>t k hx a.1,fun hx=>i k hx a.1,fun hx=>m k hx a.1⟩
  ·refine⟨fun hx=>?_,fun hx=>?_,fun hx=>?_,fun hx=>?_⟩
   ·have:=y k (c k hx);omega
   ·have:=n.ltF k hx;omega
   ·have:=f.ltM k hx;omega
   ·have:=f.ltI k hx;omega
 obtain⟨M',L',A,q,l⟩:=f.ofLogZ (Z:=fun k=>b.ownBlock=some k∨w.heap.size<=k) (fun k hk=>(j k hk).2.2.2) B O (fun k hk=>by
  rcases hk with hk | hk | hk
  ·exact .inl (.inl hk)
  ·exact .inr (.inr (P k hk))
  ·exact .inr (.inl hk))
 refine⟨rfl,⟨F,M',I,L',n.only q u,A,fun k hk a=>t k hk (c k a),fun k hk a=>?_,fun k hk a=>m k hk (c k a),fun k hk a=>?_,H⟩,q.mono (fun k hk a=>i k hk (c k a))⟩
 ·rcases l k hk with hx | hx
  ·exact i k hx (c k a)
  ·exact(j k hx).1 a
 ·rcases l k a with hx | hx
  ·exact u k hk hx
  ·exact(j k hx).2.1 hk
set_option maxHeartbeats 1000000 in
theorem Zpl {m:Nat} (a:Int) (w:World) (h:SD K w pd p s d N T) (b:∀ k,K k->k<w.heap.size) (y:w.cell? ⟨R,0,none⟩=some (ptr p)) (B:w.cell? ⟨m,0,none⟩=some (.int .i64 a)) (l:I64 a) (n:N<=1000000) (t:T<=1000000000):
 Calls prog 68 #[.pointer (some ⟨R,0,none⟩),.pointer (some ⟨m,0,none⟩)] w fun e w'=>Z6 K w pd p (X0 (fun d=>Qp d a) (s,d)) (N+2) T e w':=by
 have g:Hid (∀ W,Below w.heap.size w W->Calls prog 69 #[ptr pd,.int .i64 a] W fun e w'=>Z6 K W pd p (X0 (fun d=>Qp d a) (s,d)) (N+2) T e w'):=ZZ (fun W f=>(h.below f).step (fun d=>Qp d a) (fun k v=>Nat.lt_of_lt_of_le (b k v) f.size) (fun F x _=>ZjD a l _ x n t))
 obtain⟨⟨z,-⟩,-⟩:=h.cells;have i:Hid (Below w.heap.size w w.drew):=ZZ (Below.refl _ _).drew;obtain⟨r,c⟩:∃ r,r=X0 (fun d=>Qp d a) (s,d):=⟨_,rfl⟩
 rw[<-c] at g ⊢;clear h b c l n t
 go_enter func68,ntmps68
 go_upto_region 1 with fail
 go_region_with(first | (go_at_call 69;refine(g.o _ i.o).mono ?_;rintro e A ⟨rfl,q,j⟩;have u:=ZZ (And.intro q j);clear q j))
 all_goals
  go_wp2;go_ret;exact⟨rfl,u.o.1,(Qj.ofBelow i.o).trans u.o.2 (fun _ _ h=>h)⟩
theorem Zgf (q:Pce->Bool) (l:List Pce) (j:Nat) (a:j<l.length):(l.take (j+1)).filter q=(l.take j).filter q++if q (l.getD j Yv)=true then[l.getD j Yv] else[]:=by
 rw[Zqq a Yv,List.filter_append]
 congr 1
 rw[List.filter_cons];split <;> rfl
def ZiU (R b:Nat):Stp:=⟨68,#[],#[.pointer (some ⟨R,0,none⟩),.pointer (some ⟨b,0,none⟩)]⟩
structure ZdU (w:World) (R:Nat) (gone left:List Pce) (bx:List Nat) (vs vl:Value) (wr:World):Prop where
 len:bx.length=gone.length
 row:wr.ownsRow 0 153 1 vs (bx.map (ZiU R)).length (Yo (bx.map (ZiU R)))
 far:∀ k,vs.ownBlock=some k->w.heap.size<=k
 lrow:wr.ownsRow 0 108 3 vl left.length (Qx left)
 lfar:∀ k,vl.ownBlock=some k->w.heap.size<=k
 box:∀ j,j<bx.length->w.heap.size<=bx.getD j 0∧vl.ownBlock≠some (bx.getD j 0)∧Bk 108 wr (bx.getD j 0) (pcC (gone.getD j Yv))
 old:Below w.heap.size w wr
theorem ZdU.start (w:World) (R:Nat):ZdU w R [] [] [] (.slice none 0 0) (.slice none 0 0) w:=
 ⟨rfl,⟨rfl,.inl ⟨rfl,rfl⟩⟩,(fun k a=>by cases a),⟨rfl,.inl ⟨rfl,rfl⟩⟩,(fun k a=>by cases a),fun j b=>absurd b (Nat.not_lt_zero _),Below.refl _ _⟩
theorem ZdU.below {e:List Nat} {d:Value} (h:ZdU w R gone left e vs d wr) (a:Below wr.heap.size wr w'):ZdU w R gone left e vs d w':=
 ⟨h.len,Qh h.row fun g c=>a.block g (World.ownsRow.lt h.row g c).2,h.far,Qh h.lrow fun g c=>a.block g (World.ownsRow.lt h.lrow g c).2,h.lfar,fun j b=>⟨(h.box j b).1,(h.box j b).2.1,(h.box j b).2.2.keep (a.block _ (h.box j b).2.2.lt)⟩,h.old.trans (a.mono h.old.size)⟩
theorem Ziz {α:Type} (l:List α) (x z:α) (j:Nat) (a:j<l.length):(l++[x]).getD j z=l.getD j z:=by
 simp[List.getD,List.getElem?_append_left a]
theorem ZiA {α:Type} (l:List α) (x z:α):(l++[x]).getD l.length z=x:=by
 simp[List.getD]
theorem ZdU.step {f:List Nat} (h:ZdU w R gone left f vs v wr) (c:Pce) (a:Below wr.heap.size wr W) (z:Bk 108 W wr.heap.size (pcC c))
 (B:W'.ownsRow 0 153 1 v' (f.map (ZiU R)++[ZiU R wr.heap.size]).length (Yo (f.map (ZiU R)++[ZiU R wr.heap.size]))) (i:(W.alloc (.cells #[(ZiU R wr.heap.size).val] 153)).grownBy W' vs.ownBlock) (h3:v'.ownBlock=vs.ownBlock∨v'.ownBlock=some (W.heap.size+1)):
 ZdU w R (gone++[c]) left (f++[wr.heap.size]) v' v W':=by
 have u:(W.alloc (.cells #[(ZiU R wr.heap.size).val] 153)).heap.size=W.heap.size+1:=by simp
 have J:=a.size;have G:=h.old.size;have I:W.heap.size+1<=W'.heap.size:=by have:=i.size;rw[u] at this;exact this
 have q:∀ k,vs.ownBlock=some k->∃ cs,Bk 153 wr k cs:=fun k d=>Xm h.row d
 have d:∀ k,k<W.heap.size->vs.ownBlock≠some k->W'.heap[k]?=W.heap[k]?:=fun k d D=>by
  rw[i.block k (by rw[u];omega) (fun e=>D e.symm)]
  exact Below.heap_alloc _ _ _ (by omega)
 have t:∀ {k:Nat} {cs:Array Value},Bk 108 W k cs->Bk 108 W' k cs:=fun {k cs} b=>b.keep (d k b.lt (fun e=>by
  obtain⟨A,l⟩:=q k e
  exact b.ne (l.keep (a.block _ l.lt)) (by decide) rfl))
 refine⟨by rw[length_append,length_append,h.len];rfl,?_,fun k m=>?_,?_,h.lfar,fun j p=>?_,?_⟩
 ·rw[List.map_append]
  exact B
 ·rcases h3 with h3 | h3
  ·exact h.far k (by rw[<-h3];exact m)
  ·rw[h3] at m
   have:=Option.some.inj m;omega
 ·refine Qh h.lrow fun g E=>?_
  obtain⟨cs,b⟩:=Xm h.lrow E
  rw[d g (by have:=b.lt;omega) (fun e=>by
   obtain⟨A,l⟩:=q g e
   exact b.ne l (by decide) rfl)]
  exact a.block g b.lt
 ·rw[length_append] at p
  by_cases e:j<f.length
  ·rw[Ziz _ _ _ _ e,Ziz _ _ _ _ (by rw[<-h.len];exact e)]
   obtain⟨y,C,n⟩:=h.box j e;exact⟨y,C,t (n.keep (a.block _ n.lt))⟩
  ·have F:j=f.length:=by simp at p;omega
   rw[F,ZiA,h.len,ZiA];refine⟨G,fun H=>?_,t z⟩
   have:=(World.ownsRow.lt h.lrow _ H).2;omega
 ·refine⟨i.os.trans (a.os.trans h.old.os),i.tape.trans (a.tape.trans h.old.tape),i.output.trans (a.output.trans h.old.output),by omega,fun k x=>?_⟩
  rw[d k (by omega) (fun e=>by have:=h.far k e;omega),a.block k (by omega)]
  exact h.old.block k x
theorem ZdU.leave {n:List Nat} {i:Value} (h:ZdU w R gone left n vs i wr) (c:Pce) (a:Below wr.heap.size wr W)
 (x:W'.ownsRow 0 108 3 v' (left++[c]).length (Qx (left++[c]))) (b:(W.alloc (.cells (pcC c) 108)).grownBy W' i.ownBlock) (h3:v'.ownBlock=i.ownBlock∨v'.ownBlock=some (W.heap.size+1)):
 ZdU w R gone (left++[c]) n vs v' W':=by
 have p:(W.alloc (.cells (pcC c) 108)).heap.size=W.heap.size+1:=by simp
 have D:=a.size;have E:=h.old.size;have B:W.heap.size+1<=W'.heap.size:=by have:=b.size;rw[p] at this;exact this
 have d:∀ k,k<W.heap.size->i.ownBlock≠some k->W'.heap[k]?=W.heap[k]?:=fun k d z=>by
  rw[b.block k (by rw[p];omega) (fun e=>z e.symm)]
  exact Below.heap_alloc _ _ _ (by omega)
 refine⟨h.len,?_,h.far,x,fun k l=>?_,fun j v=>?_,?_⟩
 ·refine Qh h.row fun g A=>?_
  obtain⟨cs,m⟩:=Xm h.row A
  rw[d g (by have:=m.lt;omega) (fun e=>by
   obtain⟨C,y⟩:=Xm h.lrow e
   exact m.ne y (by decide) rfl)]
  exact a.block g m.lt
 ·rcases h3 with h3 | h3
  ·exact h.lfar k (by rw[<-h3];exact l)
  ·rw[h3] at l
   have:=Option.some.inj l;omega
 ·obtain⟨u,q,f⟩:=h.box j v
  refine⟨u,fun e=>?_,(f.keep (a.block _ f.lt)).keep (d _ (by have:=f.lt;omega) q)⟩
  rcases h3 with h3 | h3
  ·exact q (by rw[<-h3];exact e)
  ·rw[h3] at e
   have:=Option.some.inj e;have:=f.lt;omega
 ·refine⟨b.os.trans (a.os.trans h.old.os),b.tape.trans (a.tape.trans h.old.tape),b.output.trans (a.output.trans h.old.output),by omega,fun k t=>?_⟩
  rw[d k (by omega) (fun e=>by have:=h.lfar k e;omega),a.block k (by omega)]
  exact h.old.block k t
theorem ZdU.last {d:List Nat} {q:Value} {c:Stp} (h:ZdU w R gone left d vs q wr)
 (_h1:W'.ownsRow 0 153 1 v' l.length (Yo l)) (b:(wr.alloc (.cells #[c.val] 153)).grownBy W' vs.ownBlock) (h3:v'.ownBlock=vs.ownBlock∨v'.ownBlock=some (wr.heap.size+1)):
 Below w.heap.size w W'∧W'.ownsRow 0 108 3 q left.length (Qx left)∧(∀ j,j<d.length->w.heap.size<=d.getD j 0∧Bk 108 W' (d.getD j 0) (pcC (gone.getD j Yv)))∧(∀ k,v'.ownBlock=some k->w.heap.size<=k):=by
 have p:(wr.alloc (.cells #[c.val] 153)).heap.size=wr.heap.size+1:=by simp
 have D:=h.old.size;have B:wr.heap.size+1<=W'.heap.size:=by have:=b.size;rw[p] at this;exact this
 have n:∀ k,vs.ownBlock=some k->∃ cs,Bk 153 wr k cs:=fun k a=>Xm h.row a
 have a:∀ k,k<wr.heap.size->vs.ownBlock≠some k->W'.heap[k]?=wr.heap[k]?:=fun k a z=>by
  rw[b.block k (by rw[p];omega) (fun e=>z e.symm)]
  exact Below.heap_alloc _ _ _ (by omega)
 refine⟨⟨b.os.trans h.old.os,b.tape.trans h.old.tape,b.output.trans h.old.output,by omega,fun k u=>?_⟩,?_,fun j x=>?_,fun k m=>?_⟩
 ·rw[a k (by omega) (fun e=>by have:=h.far k e;omega)]
  exact h.old.block k u
 ·refine Qh h.lrow fun g A=>?_
  obtain⟨cs,t⟩:=Xm h.lrow A
  exact a g t.lt (fun e=>by
   obtain⟨y,i⟩:=n g e
   exact t.ne i (by decide) rfl)
 ·obtain⟨v,C,f⟩:=h.box j x
  exact⟨v,f.keep (a _ f.lt (fun e=>by
   obtain⟨y,i⟩:=n _ e
   exact f.ne i (by decide) rfl))⟩
 ·rcases h3 with h3 | h3
  ·exact h.far k (by rw[<-h3];exact m)
  ·rw[h3] at m
   have:=Option.some.inj m;omega
theorem Zzh (h:w.ownsRow 0 153 1 v l.length (Yo l)) (c:l.length≠0) (z:Stp):
 ∃ g cap cs,v=.slice (some ⟨g,0,none⟩) l.length cap∧Bk 153 w g cs∧v.ownBlock=some g∧∀ i,i<l.length->cs[i]?=some (l.getD i z).val:=by
 rcases h.2 with ⟨_,e⟩ | ⟨g,cap,cur,b,k,j,m,p,n,d⟩
 ·exact absurd e c
 ·refine⟨g,cap,cur,b,j,by rw[b];rfl,fun i f=>?_⟩
  have a:(Yo l)[i]?=some (l.getD i z).val:=by
   unfold Yo;simp[List.getD,f]
  rw[<-d,List.getElem?_take,if_pos (by omega),Array.getElem?_toList] at a
  exact a
end Go.Proofs.YtnahjngbneicaaaGreatDoor
