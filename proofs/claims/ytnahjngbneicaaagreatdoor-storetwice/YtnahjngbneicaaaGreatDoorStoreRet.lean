import Derived.Test.YtnahjngbneicaaaGreatDoorStoreCk
namespace Go.Proofs.YtnahjngbneicaaaGreatDoor
open _root_.Go.Proofs.Tryz
open List (length_append)
set_option maxRecDepth 100000
open Go.RowKit
variable {W W' w w' wr:World} {N R T p pd:Nat} {s:Sto} {K:Nat->Prop} {d:List Nat} {gone left:List Pce} {v' vs:Value} {l:List Stp}
theorem ZxR:(prog.info? 153).map (fun i=>(i.zero,i.size,i.bytes))=some (some .nilFunc,1,8):=by kernel_rfl
def Yo (l:List Stp):List Value:=l.map Stp.val
theorem Zjp (l:List Stp):(Yo l).length=l.length*1:=by simp[Yo]
theorem Zpk (l:List Stp):∀ u ∈ Yo l,u.oneCell'=true:=fun u a=>by
 obtain⟨s,-,rfl⟩:=List.mem_map.1 a;rfl
theorem Zlv (w:World) (ty:TypeId) (v:Value) (l:List Stp) (h:w.ownsRow 0 153 1 v l.length (Yo l)) (c:Stp) (p:l.length<=10000000):
 ∃ v' w',(Builtin.append_ #[106,106] ty #[v,.slice (some ⟨w.heap.size,0,none⟩) 1 1]).run prog (w.alloc (.cells #[c.val] 153))=.ok v' w'∧
  w'.ownsRow 0 153 1 v' (l++[c]).length (Yo (l++[c]))∧(w.alloc (.cells #[c.val] 153)).grownBy w' v.ownBlock∧(v'.ownBlock=v.ownBlock∨v'.ownBlock=some (w.heap.size+1)):=by
 obtain⟨n,d,i,g,a⟩:=info_parts ZxR
 obtain⟨v',w',f,m,b,_,hl⟩:=run_append_own_at (P:=prog) (w.alloc (.cells #[c.val] 153)) 0 106 ty 153 n _ 1 8 underlying106 d i g a rfl (by decide) v l.length (Yo l) (World.ownsRow.alloc h _)
  ⟨w.heap.size,0,none⟩ 1 1 (Yo [c]) (Zjp [c]) (fun j u k=>by
   rw[Addr.add_lit,Nat.zero_add,cell_of_row _ w.heap.size j _ 153 (0,0) (heap_alloc_new w _)]
   simpa[Yo] using k) (Zpk [c]) (by unfold maxLen;omega) (by omega) (Nat.zero_le _)
 refine⟨v',w',f,?_,b,?_⟩
 ·have e:Yo (l++[c])=Yo l++Yo [c]:=by simp[Yo]
  rw[length_append,e];exact m
 ·rcases hl with hl | hl
  ·exact .inl hl
  ·exact .inr (by rw[hl];simp)
theorem Zct (w:World) {b:Array Oper} {rest:List Oper} {o:Oper} {a:Act} {Q:Exit->Act->World->Prop} (d:o.guard=none) (s x:Operand)
 (n:o.op=.call { callee:=.builtin .append,args:=#[s,x],argTypes:=#[106,106] })
 (v:Value) (l:List Stp) (m:a.eval s=v) (h:w.ownsRow 0 153 1 v l.length (Yo l)) (c:Stp) (e:a.eval x=.slice (some ⟨w.heap.size,0,none⟩) 1 1) (q:l.length<=10000000)
 (g:∀ v' w',w'.ownsRow 0 153 1 v' (l++[c]).length (Yo (l++[c]))->(w.alloc (.cells #[c.val] 153)).grownBy w' v.ownBlock->(v'.ownBlock=v.ownBlock∨v'.ownBlock=some (w.heap.size+1))->
  wpList prog b Q rest (a.put o.dst v') w'):wpList prog b Q (o::rest) a (w.alloc (.cells #[c.val] 153)):=
 wpList_plain d fun _ p=>by
  obtain⟨v',w',i,k,f,j⟩:=Zlv w o.type v l h c q;unfold Oper.wp execOp;simp only [n,resolve,invoke,builtin,Sem.run_bind,Sem.run_pure,Result.andThen_ok,List.map_toArray,List.map_cons,List.map_nil,m,e,i];exact p _ _ (g v' w' k f j)
theorem Z0.ofLogZ {M I Z:Nat->Prop} {L:ZdP} {g:Lgb} {c b:Value} (h:Z0 M I w p pd L s) (t:∀ k,Z k->¬ I k)
 (a:ZhY 76 w' p 1 ((((stC pd L s).setIfInBounds 1 (.int .i64 g.first)).setIfInBounds (1+1) c).setIfInBounds (1+2) b) c b g) (q:Qj (fun k=>k=p) w w') (l:∀ k,Zjf p c b k->Zjf p L.rv L.pv k∨Z k):
 ∃ M' L',Z0 M' I w' p pd L' { s with log:=g }∧Qj M w w'∧∀ k,M' k->M k∨Z k:=by
 have f:Qj M w w':=q.mono (fun k hk=>by rw[hk];exact h.mh)
 have m:∀ k,I k->w'.heap[k]?=w.heap[k]?:=fun k hk=>f.block k (h.ltI k hk) fun a=>h.dis k a hk
 have u:((((stC pd L s).setIfInBounds 1 (.int .i64 g.first)).setIfInBounds (1+1) c).setIfInBounds (1+2) b)=stC pd { L with rv:=c,pv:=b } { s with log:=g }:=rfl
 rw[u] at a
 have v:∀ k,Zjf p c b k->k<w'.heap.size:=fun k hk=>by
  rcases hk with rfl | hk | hk
  ·exact a.blk.lt
  ·obtain⟨n,d⟩:=Xm a.recs hk
   exact d.lt
  ·obtain⟨n,d⟩:=Xm a.pcs hk
   exact d.lt
 refine⟨fun k=>M k∨Zjf p c b k,{ L with rv:=c,pv:=b },⟨a.blk,a.recs,a.pcs,Qh h.bases fun k hk=>?_,h.bsEq,h.now.keep h.inow m,fun x j=>(h.base x j).keep (h.ibase x j) m,.inr (.inl rfl),fun k hk=>.inr (.inr (.inl hk)),fun k hk=>.inr (.inr (.inr hk)),fun k hk=>.inl (h.mb k hk),h.inow,h.ibase,fun k hk=>?_,fun k hk=>Nat.lt_of_lt_of_le (h.ltI k hk) f.size,fun k hk i=>?_⟩,f,fun k hk=>?_⟩
 ·obtain⟨n,d⟩:=Xm h.bases hk
  exact q.block k d.lt (fun e=>by
   subst e
   exact(d.ne h.head (by decide)) rfl)
 ·rcases hk with hk | hk
  ·exact Nat.lt_of_lt_of_le (h.ltM k hk) f.size
  ·exact v k hk
 ·rcases hk with hk | hk
  ·exact h.dis k hk i
  ·rcases l k hk with h1 | h1
   ·exact h.dis k (h.logF k h1) i
   ·exact t k h1 i
 ·rcases hk with hk | hk
  ·exact .inl hk
  ·rcases l k hk with h1 | h1
   ·exact .inl (h.logF k h1)
   ·exact .inr h1
theorem SD.letGo {g:Nat->Prop} {d:Dk} (h:SD g w pd p s d N T) (c:∀ k,K k->g k) (D:∀ k,g k->k<w.heap.size) (b:Value) (left:List Pce) (base:Int)
 (A:w.ownsRow 0 108 3 b left.length (Qx left)) (z:∀ k,b.ownBlock=some k->g k∧¬ K k)
 (G:left.length<=1000000) (P:s.log.recs.length<=1000000) (O:∀ r ∈ s.log.recs,ZcK r) (J:s.log.first<=Yt left base) (C:Yt left base<=s.log.first+s.log.recs.length) (y:0<=s.log.first) (x:s.log.first+s.log.recs.length<=4611686018427387904):
 Calls prog 70 #[.pointer (some ⟨p,1,none⟩),b,.int .i64 base] w fun e w'=>e=.returned (.tuple #[])∧SD K w' pd p { s with log:=s.log.letGo left base } d N T∧Qj (fun k=>¬ K k) w w':=by
 obtain⟨F,M,I,L,q,f,l,i,t,m,Q⟩:=h;refine(Zuc 76 (by decide) p 1 (stC pd L s) L.rv L.pv s.log b left base w f.toLog A G P O J C y x).mono ?_
 rintro e w' ⟨rfl,R,v,H,E⟩
 have j:∀ k,(b.ownBlock=some k∨w.heap.size<=k)->¬ K k∧¬ F k∧¬ M k∧¬ I k:=fun k hk=>by
  rcases hk with hk | hk
  ·have a:=z k hk
   exact⟨a.2,fun hx=>l k hx a.1,fun hx=>i k hx a.1,fun hx=>t k hx a.1⟩
  ·refine⟨fun hx=>?_,fun hx=>?_,fun hx=>?_,fun hx=>?_⟩
   ·have:=D k (c k hx);omega
   ·have:=q.ltF k hx;omega
   ·have:=f.ltM k hx;omega
   ·have:=f.ltI k hx;omega
 obtain⟨M',L',B,n,u⟩:=f.ofLogZ (Z:=fun k=>b.ownBlock=some k∨w.heap.size<=k) (fun k hk=>(j k hk).2.2.2) v H (fun k hk=>by
  rcases hk with hk | hk | hk
  ·exact .inl (.inl hk)
  ·exact .inr (.inr (E k hk))
  ·exact .inr (.inl hk))
 refine⟨rfl,⟨F,M',I,L',q.only n m,B,fun k hk a=>l k hk (c k a),fun k hk a=>?_,fun k hk a=>t k hk (c k a),fun k hk a=>?_,Q⟩,n.mono (fun k hk a=>i k hk (c k a))⟩
 ·rcases u k hk with hx | hx
  ·exact i k hx (c k a)
  ·exact(j k hx).1 a
 ·rcases u k a with hx | hx
  ·exact m k hk hx
  ·exact(j k hx).2.1 hk
set_option maxHeartbeats 1000000 in
theorem Zpl {b:Nat} {d:Dk} (a:Int) (w:World) (h:SD K w pd p s d N T) (f:∀ k,K k->k<w.heap.size) (B:w.cell? ⟨R,0,none⟩=some (ptr p)) (A:w.cell? ⟨b,0,none⟩=some (.int .i64 a)) (u:I64 a) (t:N<=1000000) (g:T<=1000000000):
 Calls prog 68 #[.pointer (some ⟨R,0,none⟩),.pointer (some ⟨b,0,none⟩)] w fun e w'=>Z6 K w pd p (X0 (fun d=>Qp d a) (s,d)) (N+2) T e w':=by
 have j:Hid (∀ W,Below w.heap.size w W->Calls prog 69 #[ptr pd,.int .i64 a] W fun e w'=>Z6 K W pd p (X0 (fun d=>Qp d a) (s,d)) (N+2) T e w'):=ZZ (fun W l=>(h.below l).step (fun d=>Qp d a) (fun k x=>Nat.lt_of_lt_of_le (f k x) l.size) (fun F v _=>ZjD a u _ v t g))
 obtain⟨⟨y,-⟩,-⟩:=h.cells;have i:Hid (Below w.heap.size w w.drew):=ZZ (Below.refl _ _).drew;obtain⟨r,m⟩:∃ r,r=X0 (fun d=>Qp d a) (s,d):=⟨_,rfl⟩
 rw[<-m] at j ⊢;clear h f m u t g
 go_enter func68,ntmps68
 go_upto_region 1 with fail
 go_region_with(first | (go_at_call 69;refine(j.o _ i.o).mono ?_;rintro e z ⟨rfl,q,n⟩;have c:=ZZ (And.intro q n);clear q n))
 all_goals
  go_wp2;go_ret;exact⟨rfl,c.o.1,(Qj.ofBelow i.o).trans c.o.2 (fun _ _ h=>h)⟩
theorem Zgf (q:Pce->Bool) (l:List Pce) (j:Nat) (a:j<l.length):(l.take (j+1)).filter q=(l.take j).filter q++if q (l.getD j Yv)=true then[l.getD j Yv] else[]:=by
 rw[Zqq a Yv,List.filter_append]
 congr 1
 rw[List.filter_cons];split <;> rfl
def ZiU (R b:Nat):Stp:=⟨68,#[],#[.pointer (some ⟨R,0,none⟩),.pointer (some ⟨b,0,none⟩)]⟩
structure ZdU (w:World) (R:Nat) (gone left:List Pce) (bx:List Nat) (vs vl:Value) (wr:World):Prop where
 len:bx.length=gone.length
 row:wr.ownsRow 0 153 1 vs (bx.map (ZiU R)).length (Yo (bx.map (ZiU R)))
 far:∀ k,vs.ownBlock=some k->w.heap.size<=k
 lrow:wr.ownsRow 0 108 3 vl left.length (Qx left)
 lfar:∀ k,vl.ownBlock=some k->w.heap.size<=k
 box:∀ j,j<bx.length->w.heap.size<=bx.getD j 0∧vl.ownBlock≠some (bx.getD j 0)∧Bk 108 wr (bx.getD j 0) (pcC (gone.getD j Yv))
 old:Below w.heap.size w wr
theorem ZdU.start (w:World) (R:Nat):ZdU w R [] [] [] (.slice none 0 0) (.slice none 0 0) w:=
 ⟨rfl,⟨rfl,.inl ⟨rfl,rfl⟩⟩,(fun k a=>by cases a),⟨rfl,.inl ⟨rfl,rfl⟩⟩,(fun k a=>by cases a),fun j b=>absurd b (Nat.not_lt_zero _),Below.refl _ _⟩
theorem ZdU.below {e:Value} (h:ZdU w R gone left d vs e wr) (a:Below wr.heap.size wr w'):ZdU w R gone left d vs e w':=
 ⟨h.len,Qh h.row fun g c=>a.block g (World.ownsRow.lt h.row g c).2,h.far,Qh h.lrow fun g c=>a.block g (World.ownsRow.lt h.lrow g c).2,h.lfar,fun j b=>⟨(h.box j b).1,(h.box j b).2.1,(h.box j b).2.2.keep (a.block _ (h.box j b).2.2.lt)⟩,h.old.trans (a.mono h.old.size)⟩
theorem Ziz {α:Type} (l:List α) (x z:α) (j:Nat) (a:j<l.length):(l++[x]).getD j z=l.getD j z:=by
 simp[List.getD,List.getElem?_append_left a]
theorem ZiA {α:Type} (l:List α) (x z:α):(l++[x]).getD l.length z=x:=by
 simp[List.getD]
theorem ZdU.step {t:Value} (h:ZdU w R gone left d vs t wr) (c:Pce) (a:Below wr.heap.size wr W) (x:Bk 108 W wr.heap.size (pcC c))
 (F:W'.ownsRow 0 153 1 v' (d.map (ZiU R)++[ZiU R wr.heap.size]).length (Yo (d.map (ZiU R)++[ZiU R wr.heap.size]))) (i:(W.alloc (.cells #[(ZiU R wr.heap.size).val] 153)).grownBy W' vs.ownBlock) (h3:v'.ownBlock=vs.ownBlock∨v'.ownBlock=some (W.heap.size+1)):
 ZdU w R (gone++[c]) left (d++[wr.heap.size]) v' t W':=by
 have u:(W.alloc (.cells #[(ZiU R wr.heap.size).val] 153)).heap.size=W.heap.size+1:=by simp
 have J:=a.size;have G:=h.old.size;have I:W.heap.size+1<=W'.heap.size:=by have:=i.size;rw[u] at this;exact this
 have n:∀ k,vs.ownBlock=some k->∃ cs,Bk 153 wr k cs:=fun k f=>Xm h.row f
 have f:∀ k,k<W.heap.size->vs.ownBlock≠some k->W'.heap[k]?=W.heap[k]?:=fun k f H=>by
  rw[i.block k (by rw[u];omega) (fun e=>H e.symm)]
  exact Below.heap_alloc _ _ _ (by omega)
 have p:∀ {k:Nat} {cs:Array Value},Bk 108 W k cs->Bk 108 W' k cs:=fun {k cs} b=>b.keep (f k b.lt (fun e=>by
  obtain⟨D,l⟩:=n k e
  exact b.ne (l.keep (a.block _ l.lt)) (by decide) rfl))
 refine⟨by rw[length_append,length_append,h.len];rfl,?_,fun k m=>?_,?_,h.lfar,fun j q=>?_,?_⟩
 ·rw[List.map_append]
  exact F
 ·rcases h3 with h3 | h3
  ·exact h.far k (by rw[<-h3];exact m)
  ·rw[h3] at m
   have:=Option.some.inj m;omega
 ·refine Qh h.lrow fun g z=>?_
  obtain⟨cs,b⟩:=Xm h.lrow z
  rw[f g (by have:=b.lt;omega) (fun e=>by
   obtain⟨D,l⟩:=n g e
   exact b.ne l (by decide) rfl)]
  exact a.block g b.lt
 ·rw[length_append] at q
  by_cases e:j<d.length
  ·rw[Ziz _ _ _ _ e,Ziz _ _ _ _ (by rw[<-h.len];exact e)]
   obtain⟨A,E,v⟩:=h.box j e;exact⟨A,E,p (v.keep (a.block _ v.lt))⟩
  ·have C:j=d.length:=by simp at q;omega
   rw[C,ZiA,h.len,ZiA];refine⟨G,fun y=>?_,p x⟩
   have:=(World.ownsRow.lt h.lrow _ y).2;omega
 ·refine⟨i.os.trans (a.os.trans h.old.os),i.tape.trans (a.tape.trans h.old.tape),i.output.trans (a.output.trans h.old.output),by omega,fun k B=>?_⟩
  rw[f k (by omega) (fun e=>by have:=h.far k e;omega),a.block k (by omega)]
  exact h.old.block k B
theorem ZdU.leave {n:List Nat} {d:Value} (h:ZdU w R gone left n vs d wr) (c:Pce) (a:Below wr.heap.size wr W)
 (z:W'.ownsRow 0 108 3 v' (left++[c]).length (Qx (left++[c]))) (b:(W.alloc (.cells (pcC c) 108)).grownBy W' d.ownBlock) (h3:v'.ownBlock=d.ownBlock∨v'.ownBlock=some (W.heap.size+1)):
 ZdU w R gone (left++[c]) n vs v' W':=by
 have q:(W.alloc (.cells (pcC c) 108)).heap.size=W.heap.size+1:=by simp
 have D:=a.size;have E:=h.old.size;have B:W.heap.size+1<=W'.heap.size:=by have:=b.size;rw[q] at this;exact this
 have f:∀ k,k<W.heap.size->d.ownBlock≠some k->W'.heap[k]?=W.heap[k]?:=fun k f A=>by
  rw[b.block k (by rw[q];omega) (fun e=>A e.symm)]
  exact Below.heap_alloc _ _ _ (by omega)
 refine⟨h.len,?_,h.far,z,fun k l=>?_,fun j y=>?_,?_⟩
 ·refine Qh h.row fun g t=>?_
  obtain⟨cs,m⟩:=Xm h.row t
  rw[f g (by have:=m.lt;omega) (fun e=>by
   obtain⟨C,u⟩:=Xm h.lrow e
   exact m.ne u (by decide) rfl)]
  exact a.block g m.lt
 ·rcases h3 with h3 | h3
  ·exact h.lfar k (by rw[<-h3];exact l)
  ·rw[h3] at l
   have:=Option.some.inj l;omega
 ·obtain⟨v,p,i⟩:=h.box j y
  refine⟨v,fun e=>?_,(i.keep (a.block _ i.lt)).keep (f _ (by have:=i.lt;omega) p)⟩
  rcases h3 with h3 | h3
  ·exact p (by rw[<-h3];exact e)
  ·rw[h3] at e
   have:=Option.some.inj e;have:=i.lt;omega
 ·refine⟨b.os.trans (a.os.trans h.old.os),b.tape.trans (a.tape.trans h.old.tape),b.output.trans (a.output.trans h.old.output),by omega,fun k x=>?_⟩
  rw[f k (by omega) (fun e=>by have:=h.lfar k e;omega),a.block k (by omega)]
  exact h.old.block k x
theorem ZdU.last {p:Value} {c:Stp} (h:ZdU w R gone left d vs p wr)
 (_h1:W'.ownsRow 0 153 1 v' l.length (Yo l)) (b:(wr.alloc (.cells #[c.val] 153)).grownBy W' vs.ownBlock) (h3:v'.ownBlock=vs.ownBlock∨v'.ownBlock=some (wr.heap.size+1)):
 Below w.heap.size w W'∧W'.ownsRow 0 108 3 p left.length (Qx left)∧(∀ j,j<d.length->w.heap.size<=d.getD j 0∧Bk 108 W' (d.getD j 0) (pcC (gone.getD j Yv)))∧(∀ k,v'.ownBlock=some k->w.heap.size<=k):=by
 have t:(wr.alloc (.cells #[c.val] 153)).heap.size=wr.heap.size+1:=by simp
 have D:=h.old.size;have B:wr.heap.size+1<=W'.heap.size:=by have:=b.size;rw[t] at this;exact this
 have n:∀ k,vs.ownBlock=some k->∃ cs,Bk 153 wr k cs:=fun k a=>Xm h.row a
 have a:∀ k,k<wr.heap.size->vs.ownBlock≠some k->W'.heap[k]?=wr.heap[k]?:=fun k a A=>by
  rw[b.block k (by rw[t];omega) (fun e=>A e.symm)]
  exact Below.heap_alloc _ _ _ (by omega)
 refine⟨⟨b.os.trans h.old.os,b.tape.trans h.old.tape,b.output.trans h.old.output,by omega,fun k x=>?_⟩,?_,fun j z=>?_,fun k f=>?_⟩
 ·rw[a k (by omega) (fun e=>by have:=h.far k e;omega)]
  exact h.old.block k x
 ·refine Qh h.lrow fun g u=>?_
  obtain⟨cs,q⟩:=Xm h.lrow u
  exact a g q.lt (fun e=>by
   obtain⟨y,i⟩:=n g e
   exact q.ne i (by decide) rfl)
 ·obtain⟨v,C,m⟩:=h.box j z
  exact⟨v,m.keep (a _ m.lt (fun e=>by
   obtain⟨y,i⟩:=n _ e
   exact m.ne i (by decide) rfl))⟩
 ·rcases h3 with h3 | h3
  ·exact h.far k (by rw[<-h3];exact f)
  ·rw[h3] at f
   have:=Option.some.inj f;omega
theorem Zzh {v:Value} (h:w.ownsRow 0 153 1 v l.length (Yo l)) (f:l.length≠0) (z:Stp):
 ∃ g cap cs,v=.slice (some ⟨g,0,none⟩) l.length cap∧Bk 153 w g cs∧v.ownBlock=some g∧∀ i,i<l.length->cs[i]?=some (l.getD i z).val:=by
 rcases h.2 with ⟨_,j⟩ | ⟨g,cap,cur,a,k,d,n,p,m,c⟩
 ·exact absurd j f
 ·refine⟨g,cap,cur,a,d,by rw[a];rfl,fun i e=>?_⟩
  have b:(Yo l)[i]?=some (l.getD i z).val:=by
   unfold Yo;simp[List.getD,e]
  rw[<-c,List.getElem?_take,if_pos (by omega),Array.getElem?_toList] at b
  exact b
end Go.Proofs.YtnahjngbneicaaaGreatDoor
