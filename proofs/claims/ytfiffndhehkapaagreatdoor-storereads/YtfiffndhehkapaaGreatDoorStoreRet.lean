import Derived.Test.YtfiffndhehkapaaGreatDoorStoreCk
import Derived.Test.YtfiffndhehkapaaGreatDoorPack7
namespace Go.Proofs.YtfiffndhehkapaaGreatDoor
set_option maxRecDepth 100000
open Go.RowKit
theorem ZAo:(Tryz.prog.info? 154).map (fun i=>(i.zero,i.size,i.bytes))=some (some .nilFunc,1,8):=by kernel_rfl
def ZbA (l:List Stp):List Value:=l.map Stp.val
theorem Zmd (l:List Stp):(ZbA l).length=l.length*1:=by simp[ZbA]
theorem ZrR (l:List Stp):∀ u ∈ ZbA l,u.oneCell'=true:=fun u hu=>by
 obtain⟨s,-,rfl⟩:=List.mem_map.1 hu
 rfl
theorem Zok (w:World) (ty:TypeId) (v:Value) (l:List Stp) (h:w.ownsRow 0 154 1 v l.length (ZbA l)) (c:Stp) (hlim:l.length<=10000000):
 ∃ v' w',(Builtin.append_ #[107,107] ty #[v,.slice (some ⟨w.heap.size,0,none⟩) 1 1]).run Tryz.prog (w.alloc (.cells #[c.val] 154))=.ok v' w'∧
  w'.ownsRow 0 154 1 v' (l++[c]).length (ZbA (l++[c]))∧(w.alloc (.cells #[c.val] 154)).grownBy w' v.ownBlock∧(v'.ownBlock=v.ownBlock∨v'.ownBlock=some (w.heap.size+1)):=by
 obtain⟨i0,hi,hz0,hz1,hz2⟩:=info_parts ZAo
 obtain⟨v',w',hrun,ho,hg,_,hl⟩:=run_append_own_at (P:=Tryz.prog) (w.alloc (.cells #[c.val] 154)) 0 107 ty 154 i0 _ 1 8 Tryz.underlying107 hi hz0 hz1 hz2 rfl (by decide) v l.length (ZbA l) (World.ownsRow.alloc h _)
  ⟨w.heap.size,0,none⟩ 1 1 (ZbA [c]) (Zmd [c]) (fun j u hj=>by
   rw[Addr.add_lit,Nat.zero_add,cell_of_row _ w.heap.size j _ 154 (0,0) (heap_alloc_new w _)]
   simpa[ZbA] using hj) (ZrR [c]) (by unfold maxLen;omega) (by omega) (Nat.zero_le _)
 refine⟨v',w',hrun,?_,hg,?_⟩
 ·have e:ZbA (l++[c])=ZbA l++ZbA [c]:=by simp[ZbA]
  rw[List.length_append,e]
  exact ho
 ·rcases hl with hl | hl
  ·exact .inl hl
  ·exact .inr (by rw[hl];simp)
theorem Zfv (w:World) {ops:Array Oper} {rest:List Oper} {o:Oper} {a:Act} {Q:Exit->Act->World->Prop} (hgd:o.guard=none) (s x:Operand)
 (ho:o.op=.call { callee:=.builtin .append,args:=#[s,x],argTypes:=#[107,107] })
 (v:Value) (l:List Stp) (hs:a.eval s=v) (h:w.ownsRow 0 154 1 v l.length (ZbA l)) (c:Stp) (hx:a.eval x=.slice (some ⟨w.heap.size,0,none⟩) 1 1) (hlim:l.length<=10000000)
 (hK:∀ v' w',w'.ownsRow 0 154 1 v' (l++[c]).length (ZbA (l++[c]))->(w.alloc (.cells #[c.val] 154)).grownBy w' v.ownBlock->(v'.ownBlock=v.ownBlock∨v'.ownBlock=some (w.heap.size+1))->
  wpList Tryz.prog ops Q rest (a.put o.dst v') w'):wpList Tryz.prog ops Q (o::rest) a (w.alloc (.cells #[c.val] 154)):=
 wpList_plain hgd fun _ hK'=>by
  obtain⟨v',w',hrun,h2,h3,h4⟩:=Zok w o.type v l h c hlim
  unfold Oper.wp execOp
  simp only [ho,resolve,invoke,builtin,Sem.run_bind,Sem.run_pure,Result.andThen_ok,List.map_toArray,List.map_cons,List.map_nil,hs,hx,hrun]
  exact hK' _ _ (hK v' w' h2 h3 h4)
theorem ZeF.ofLogZ {M I Z:Nat->Prop} {w w':World} {p pd:Nat} {L:ZhA} {s:Sto} {g:Lgb} {rv' pv':Value} (h:ZeF M I w p pd L s) (hZ:∀ k,Z k->¬ I k)
 (hm:ZkN 77 w' p 1 ((((stC pd L s).setIfInBounds 1 (.int .i64 g.first)).setIfInBounds (1+1) rv').setIfInBounds (1+2) pv') rv' pv' g) (ho:Zas (fun k=>k=p) w w') (hf:∀ k,ZlT p rv' pv' k->ZlT p L.rv L.pv k∨Z k):
 ∃ M' L',ZeF M' I w' p pd L' { s with log:=g }∧Zas M w w'∧∀ k,M' k->M k∨Z k:=by
 have hoM:Zas M w w':=ho.mono (fun k hk=>by rw[hk];exact h.mh)
 have hI:∀ k,I k->w'.heap[k]?=w.heap[k]?:=fun k hk=>hoM.block k (h.ltI k hk) fun hm=>h.dis k hm hk
 have hcs:((((stC pd L s).setIfInBounds 1 (.int .i64 g.first)).setIfInBounds (1+1) rv').setIfInBounds (1+2) pv')=stC pd { L with rv:=rv',pv:=pv' } { s with log:=g }:=rfl
 rw[hcs] at hm
 have hlf:∀ k,ZlT p rv' pv' k->k<w'.heap.size:=fun k hk=>by
  rcases hk with rfl | hk | hk
  ·exact hm.blk.lt
  ·obtain⟨cs',hb⟩:=ZaO hm.recs hk
   exact hb.lt
  ·obtain⟨cs',hb⟩:=ZaO hm.pcs hk
   exact hb.lt
 refine⟨fun k=>M k∨ZlT p rv' pv' k,{ L with rv:=rv',pv:=pv' },⟨hm.blk,hm.recs,hm.pcs,Zaf h.bases fun k hk=>?_,h.bsEq,h.now.keep h.inow hI,fun x hx=>(h.base x hx).keep (h.ibase x hx) hI,.inr (.inl rfl),fun k hk=>.inr (.inr (.inl hk)),fun k hk=>.inr (.inr (.inr hk)),fun k hk=>.inl (h.mb k hk),h.inow,h.ibase,fun k hk=>?_,fun k hk=>Nat.lt_of_lt_of_le (h.ltI k hk) hoM.size,fun k hk hi=>?_⟩,hoM,fun k hk=>?_⟩
 ·obtain⟨cs',hb⟩:=ZaO h.bases hk
  exact ho.block k hb.lt (fun e=>by
   subst e
   exact(hb.ne h.head (by decide)) rfl)
 ·rcases hk with hk | hk
  ·exact Nat.lt_of_lt_of_le (h.ltM k hk) hoM.size
  ·exact hlf k hk
 ·rcases hk with hk | hk
  ·exact h.dis k hk hi
  ·rcases hf k hk with h1 | h1
   ·exact h.dis k (h.logF k h1) hi
   ·exact hZ k h1 hi
 ·rcases hk with hk | hk
  ·exact .inl hk
  ·rcases hf k hk with h1 | h1
   ·exact .inl (h.logF k h1)
   ·exact .inr h1
theorem SD.letGo {K Kc:Nat->Prop} {w:World} {pd p:Nat} {s:Sto} {d:Dk} {N T:Nat} (h:SD Kc w pd p s d N T) (hKc:∀ k,K k->Kc k) (hlt:∀ k,Kc k->k<w.heap.size) (lv:Value) (left:List Pce) (base:Int)
 (hl:w.ownsRow 0 109 3 lv left.length (Zau left)) (hlv:∀ k,lv.ownBlock=some k->Kc k∧¬ K k)
 (hlen:left.length<=1000000) (hrec:s.log.recs.length<=1000000) (hok:∀ r ∈ s.log.recs,ZfA r) (hf0:s.log.first<=ZbI left base) (hf1:ZbI left base<=s.log.first+s.log.recs.length) (hg0:0<=s.log.first) (hg1:s.log.first+s.log.recs.length<=4611686018427387904):
 Calls Tryz.prog 71 #[.pointer (some ⟨p,1,none⟩),lv,.int .i64 base] w fun e w'=>e=.returned (.tuple #[])∧SD K w' pd p { s with log:=s.log.letGo left base } d N T∧Zas (fun k=>¬ K k) w w':=by
 obtain⟨F,M,I,L,h1,h2,h3,h4,h5,h6,h7⟩:=h
 refine(Zww 77 (by decide) p 1 (stC pd L s) L.rv L.pv s.log lv left base w h2.toLog hl hlen hrec hok hf0 hf1 hg0 hg1).mono ?_
 rintro e w' ⟨rfl,rv',hm,ho,hrv⟩
 have hZ:∀ k,(lv.ownBlock=some k∨w.heap.size<=k)->¬ K k∧¬ F k∧¬ M k∧¬ I k:=fun k hk=>by
  rcases hk with hk | hk
  ·have hh:=hlv k hk
   exact⟨hh.2,fun hx=>h3 k hx hh.1,fun hx=>h4 k hx hh.1,fun hx=>h5 k hx hh.1⟩
  ·refine⟨fun hx=>?_,fun hx=>?_,fun hx=>?_,fun hx=>?_⟩
   ·have:=hlt k (hKc k hx);omega
   ·have:=h1.ltF k hx;omega
   ·have:=h2.ltM k hx;omega
   ·have:=h2.ltI k hx;omega
 obtain⟨M',L',g1,g2,g3⟩:=h2.ofLogZ (Z:=fun k=>lv.ownBlock=some k∨w.heap.size<=k) (fun k hk=>(hZ k hk).2.2.2) hm ho (fun k hk=>by
  rcases hk with hk | hk | hk
  ·exact .inl (.inl hk)
  ·exact .inr (.inr (hrv k hk))
  ·exact .inr (.inl hk))
 refine⟨rfl,⟨F,M',I,L',h1.only g2 h6,g1,fun k hk hh=>h3 k hk (hKc k hh),fun k hk hh=>?_,fun k hk hh=>h5 k hk (hKc k hh),fun k hk hh=>?_,h7⟩,g2.mono (fun k hk hh=>h4 k hk (hKc k hh))⟩
 ·rcases g3 k hk with hx | hx
  ·exact h4 k hx (hKc k hh)
  ·exact(hZ k hx).1 hh
 ·rcases g3 k hh with hx | hx
  ·exact h6 k hk hx
  ·exact(hZ k hx).2.1 hk
set_option maxHeartbeats 1000000 in
theorem ZrS {K:Nat->Prop} {pd p R Rp:Nat} {s:Sto} {d:Dk} {N T:Nat} (nm:Int) (w:World) (h:SD K w pd p s d N T) (hK:∀ k,K k->k<w.heap.size) (hR:w.cell? ⟨R,0,none⟩=some (ptr p)) (hRp:w.cell? ⟨Rp,0,none⟩=some (.int .i64 nm)) (hn:I64 nm) (hN:N<=1000000) (hT:T<=1000000000):
 Calls Tryz.prog 69 #[.pointer (some ⟨R,0,none⟩),.pointer (some ⟨Rp,0,none⟩)] w fun e w'=>ZeU K w pd p (Zbu (fun d=>Zam d nm) (s,d)) (N+2) T e w':=by
 have HC:Hid (∀ W,Below w.heap.size w W->Calls Tryz.prog 70 #[ptr pd,.int .i64 nm] W fun e w'=>ZeU K W pd p (Zbu (fun d=>Zam d nm) (s,d)) (N+2) T e w'):=ZZ (fun W hW=>(h.below hW).step (fun d=>Zam d nm) (fun k hk=>Nat.lt_of_lt_of_le (hK k hk) hW.size) (fun F hF _=>Zmq nm hn _ hF hN hT))
 obtain⟨⟨c0,-⟩,-⟩:=h.cells
 have HSD:Hid (Below w.heap.size w w.drew):=ZZ (Below.refl _ _).drew
 obtain⟨r,hr9⟩:∃ r,r=Zbu (fun d=>Zam d nm) (s,d):=⟨_,rfl⟩
 rw[<-hr9] at HC ⊢
 clear h hK hr9 hn hN hT
 go_enter Tryz.func69,Tryz.ntmps69
 go_upto_region 1 with fail
 go_region_with(first | (go_at_call 70;refine(HC.out _ HSD.out).mono ?_;rintro e W1 ⟨rfl,hs1,ho1⟩;have HS1:=ZZ (And.intro hs1 ho1);clear hs1 ho1))
 all_goals
  go_wp2
  go_ret
  exact⟨rfl,HS1.out.1,(Zas.ofBelow HSD.out).trans HS1.out.2 (fun _ _ h=>h)⟩
theorem Zja (q:Pce->Bool) (l:List Pce) (j:Nat) (hj:j<l.length):(l.take (j+1)).filter q=(l.take j).filter q++if q (l.getD j Zcc)=true then[l.getD j Zcc] else[]:=by
 rw[ZsV hj Zcc,List.filter_append]
 congr 1
 rw[List.filter_cons]
 split <;> rfl
def ZlJ (R b:Nat):Stp:=⟨69,#[],#[.pointer (some ⟨R,0,none⟩),.pointer (some ⟨b,0,none⟩)]⟩
structure ZgT (w:World) (R:Nat) (gone left:List Pce) (bx:List Nat) (vs vl:Value) (wr:World):Prop where
 len:bx.length=gone.length
 row:wr.ownsRow 0 154 1 vs (bx.map (ZlJ R)).length (ZbA (bx.map (ZlJ R)))
 far:∀ k,vs.ownBlock=some k->w.heap.size<=k
 lrow:wr.ownsRow 0 109 3 vl left.length (Zau left)
 lfar:∀ k,vl.ownBlock=some k->w.heap.size<=k
 box:∀ j,j<bx.length->w.heap.size<=bx.getD j 0∧vl.ownBlock≠some (bx.getD j 0)∧Bk 109 wr (bx.getD j 0) (pcC (gone.getD j Zcc))
 old:Below w.heap.size w wr
theorem ZgT.start (w:World) (R:Nat):ZgT w R [] [] [] (.slice none 0 0) (.slice none 0 0) w:=
 ⟨rfl,⟨rfl,.inl ⟨rfl,rfl⟩⟩,(fun k hk=>by cases hk),⟨rfl,.inl ⟨rfl,rfl⟩⟩,(fun k hk=>by cases hk),fun j hj=>absurd hj (Nat.not_lt_zero _),Below.refl _ _⟩
theorem ZgT.below {w:World} {R:Nat} {gone left:List Pce} {bx:List Nat} {vs vl:Value} {wr w':World} (h:ZgT w R gone left bx vs vl wr) (hb:Below wr.heap.size wr w'):ZgT w R gone left bx vs vl w':=
 ⟨h.len,Zaf h.row fun g hg=>hb.block g (World.ownsRow.lt h.row g hg).2,h.far,Zaf h.lrow fun g hg=>hb.block g (World.ownsRow.lt h.lrow g hg).2,h.lfar,fun j hj=>⟨(h.box j hj).1,(h.box j hj).2.1,(h.box j hj).2.2.keep (hb.block _ (h.box j hj).2.2.lt)⟩,h.old.trans (hb.mono h.old.size)⟩
theorem Zlo {α:Type} (l:List α) (x z:α) (j:Nat) (hj:j<l.length):(l++[x]).getD j z=l.getD j z:=by
 simp[List.getD,List.getElem?_append_left hj]
theorem Zlp {α:Type} (l:List α) (x z:α):(l++[x]).getD l.length z=x:=by
 simp[List.getD]
theorem ZgT.step {w:World} {R:Nat} {gone left:List Pce} {bx:List Nat} {vs vl v':Value} {wr W W':World} (h:ZgT w R gone left bx vs vl wr) (c:Pce) (hb:Below wr.heap.size wr W) (hB:Bk 109 W wr.heap.size (pcC c))
 (h1:W'.ownsRow 0 154 1 v' (bx.map (ZlJ R)++[ZlJ R wr.heap.size]).length (ZbA (bx.map (ZlJ R)++[ZlJ R wr.heap.size]))) (h2:(W.alloc (.cells #[(ZlJ R wr.heap.size).val] 154)).grownBy W' vs.ownBlock) (h3:v'.ownBlock=vs.ownBlock∨v'.ownBlock=some (W.heap.size+1)):
 ZgT w R (gone++[c]) left (bx++[wr.heap.size]) v' vl W':=by
 have hsz:(W.alloc (.cells #[(ZlJ R wr.heap.size).val] 154)).heap.size=W.heap.size+1:=by simp
 have hs:=hb.size
 have ho:=h.old.size
 have hWs:W.heap.size+1<=W'.heap.size:=by have:=h2.size;rw[hsz] at this;exact this
 have hvs:∀ k,vs.ownBlock=some k->∃ cs,Bk 154 wr k cs:=fun k hk=>ZaO h.row hk
 have hk:∀ k,k<W.heap.size->vs.ownBlock≠some k->W'.heap[k]?=W.heap[k]?:=fun k hk hn=>by
  rw[h2.block k (by rw[hsz];omega) (fun e=>hn e.symm)]
  exact Below.heap_alloc _ _ _ (by omega)
 have hpc:∀ {k:Nat} {cs:Array Value},Bk 109 W k cs->Bk 109 W' k cs:=fun {k cs} hbk=>hbk.keep (hk k hbk.lt (fun e=>by
  obtain⟨cs2,hb2⟩:=hvs k e
  exact hbk.ne (hb2.keep (hb.block _ hb2.lt)) (by decide) rfl))
 refine⟨by rw[List.length_append,List.length_append,h.len];rfl,?_,fun k hv=>?_,?_,h.lfar,fun j hj=>?_,?_⟩
 ·rw[List.map_append]
  exact h1
 ·rcases h3 with h3 | h3
  ·exact h.far k (by rw[<-h3];exact hv)
  ·rw[h3] at hv
   have:=Option.some.inj hv
   omega
 ·refine Zaf h.lrow fun g hg=>?_
  obtain⟨cs,hbk⟩:=ZaO h.lrow hg
  rw[hk g (by have:=hbk.lt;omega) (fun e=>by
   obtain⟨cs2,hb2⟩:=hvs g e
   exact hbk.ne hb2 (by decide) rfl)]
  exact hb.block g hbk.lt
 ·rw[List.length_append] at hj
  by_cases e:j<bx.length
  ·rw[Zlo _ _ _ _ e,Zlo _ _ _ _ (by rw[<-h.len];exact e)]
   obtain⟨g1,g2,g3⟩:=h.box j e
   exact⟨g1,g2,hpc (g3.keep (hb.block _ g3.lt))⟩
  ·have e2:j=bx.length:=by simp at hj;omega
   rw[e2,Zlp,h.len,Zlp]
   refine⟨ho,fun e3=>?_,hpc hB⟩
   have:=(World.ownsRow.lt h.lrow _ e3).2
   omega
 ·refine⟨h2.os.trans (hb.os.trans h.old.os),h2.tape.trans (hb.tape.trans h.old.tape),h2.output.trans (hb.output.trans h.old.output),by omega,fun k hlt=>?_⟩
  rw[hk k (by omega) (fun e=>by have:=h.far k e;omega),hb.block k (by omega)]
  exact h.old.block k hlt
theorem ZgT.leave {w:World} {R:Nat} {gone left:List Pce} {bx:List Nat} {vs vl v':Value} {wr W W':World} (h:ZgT w R gone left bx vs vl wr) (c:Pce) (hb:Below wr.heap.size wr W)
 (h1:W'.ownsRow 0 109 3 v' (left++[c]).length (Zau (left++[c]))) (h2:(W.alloc (.cells (pcC c) 109)).grownBy W' vl.ownBlock) (h3:v'.ownBlock=vl.ownBlock∨v'.ownBlock=some (W.heap.size+1)):
 ZgT w R gone (left++[c]) bx vs v' W':=by
 have hsz:(W.alloc (.cells (pcC c) 109)).heap.size=W.heap.size+1:=by simp
 have hs:=hb.size
 have ho:=h.old.size
 have hWs:W.heap.size+1<=W'.heap.size:=by have:=h2.size;rw[hsz] at this;exact this
 have hk:∀ k,k<W.heap.size->vl.ownBlock≠some k->W'.heap[k]?=W.heap[k]?:=fun k hk hn=>by
  rw[h2.block k (by rw[hsz];omega) (fun e=>hn e.symm)]
  exact Below.heap_alloc _ _ _ (by omega)
 refine⟨h.len,?_,h.far,h1,fun k hv=>?_,fun j hj=>?_,?_⟩
 ·refine Zaf h.row fun g hg=>?_
  obtain⟨cs,hbk⟩:=ZaO h.row hg
  rw[hk g (by have:=hbk.lt;omega) (fun e=>by
   obtain⟨cs2,hb2⟩:=ZaO h.lrow e
   exact hbk.ne hb2 (by decide) rfl)]
  exact hb.block g hbk.lt
 ·rcases h3 with h3 | h3
  ·exact h.lfar k (by rw[<-h3];exact hv)
  ·rw[h3] at hv
   have:=Option.some.inj hv
   omega
 ·obtain⟨g1,g2,g3⟩:=h.box j hj
  refine⟨g1,fun e=>?_,(g3.keep (hb.block _ g3.lt)).keep (hk _ (by have:=g3.lt;omega) g2)⟩
  rcases h3 with h3 | h3
  ·exact g2 (by rw[<-h3];exact e)
  ·rw[h3] at e
   have:=Option.some.inj e
   have:=g3.lt
   omega
 ·refine⟨h2.os.trans (hb.os.trans h.old.os),h2.tape.trans (hb.tape.trans h.old.tape),h2.output.trans (hb.output.trans h.old.output),by omega,fun k hlt=>?_⟩
  rw[hk k (by omega) (fun e=>by have:=h.lfar k e;omega),hb.block k (by omega)]
  exact h.old.block k hlt
theorem ZgT.last {w:World} {R:Nat} {gone left:List Pce} {bx:List Nat} {vs vl v':Value} {wr W':World} {c:Stp} {l:List Stp} (h:ZgT w R gone left bx vs vl wr)
 (_h1:W'.ownsRow 0 154 1 v' l.length (ZbA l)) (h2:(wr.alloc (.cells #[c.val] 154)).grownBy W' vs.ownBlock) (h3:v'.ownBlock=vs.ownBlock∨v'.ownBlock=some (wr.heap.size+1)):
 Below w.heap.size w W'∧W'.ownsRow 0 109 3 vl left.length (Zau left)∧(∀ j,j<bx.length->w.heap.size<=bx.getD j 0∧Bk 109 W' (bx.getD j 0) (pcC (gone.getD j Zcc)))∧(∀ k,v'.ownBlock=some k->w.heap.size<=k):=by
 have hsz:(wr.alloc (.cells #[c.val] 154)).heap.size=wr.heap.size+1:=by simp
 have ho:=h.old.size
 have hWs:wr.heap.size+1<=W'.heap.size:=by have:=h2.size;rw[hsz] at this;exact this
 have hvs:∀ k,vs.ownBlock=some k->∃ cs,Bk 154 wr k cs:=fun k hk=>ZaO h.row hk
 have hk:∀ k,k<wr.heap.size->vs.ownBlock≠some k->W'.heap[k]?=wr.heap[k]?:=fun k hk hn=>by
  rw[h2.block k (by rw[hsz];omega) (fun e=>hn e.symm)]
  exact Below.heap_alloc _ _ _ (by omega)
 refine⟨⟨h2.os.trans h.old.os,h2.tape.trans h.old.tape,h2.output.trans h.old.output,by omega,fun k hlt=>?_⟩,?_,fun j hj=>?_,fun k hv=>?_⟩
 ·rw[hk k (by omega) (fun e=>by have:=h.far k e;omega)]
  exact h.old.block k hlt
 ·refine Zaf h.lrow fun g hg=>?_
  obtain⟨cs,hbk⟩:=ZaO h.lrow hg
  exact hk g hbk.lt (fun e=>by
   obtain⟨cs2,hb2⟩:=hvs g e
   exact hbk.ne hb2 (by decide) rfl)
 ·obtain⟨g1,g2,g3⟩:=h.box j hj
  exact⟨g1,g3.keep (hk _ g3.lt (fun e=>by
   obtain⟨cs2,hb2⟩:=hvs _ e
   exact g3.ne hb2 (by decide) rfl))⟩
 ·rcases h3 with h3 | h3
  ·exact h.far k (by rw[<-h3];exact hv)
  ·rw[h3] at hv
   have:=Option.some.inj hv
   omega
theorem ZBD {w:World} {v:Value} {l:List Stp} (h:w.ownsRow 0 154 1 v l.length (ZbA l)) (h0:l.length≠0) (z:Stp):
 ∃ g cap cs,v=.slice (some ⟨g,0,none⟩) l.length cap∧Bk 154 w g cs∧v.ownBlock=some g∧∀ i,i<l.length->cs[i]?=some (l.getD i z).val:=by
 rcases h.2 with ⟨_,hn⟩ | ⟨g,cap,cur,hv,hb,hg,hnc,hcm,hcs,htake⟩
 ·exact absurd hn h0
 ·refine⟨g,cap,cur,hv,hg,by rw[hv];rfl,fun i hi=>?_⟩
  have h1:(ZbA l)[i]?=some (l.getD i z).val:=by
   unfold ZbA
   simp[List.getD,hi]
  rw[<-htake,List.getElem?_take,if_pos (by omega),Array.getElem?_toList] at h1
  exact h1
end Go.Proofs.YtfiffndhehkapaaGreatDoor
