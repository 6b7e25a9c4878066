import Derived.Test.YtnahjngbneicaaaGreatDoorPack2
import Derived.Maps.AppendAt
import Derived.Test.YtnahjngbneicaaaGreatDoorPack1
import Derived.Deep.QuietTactic
import Derived.BigQuiet
import Derived.Deep.DeepCutAuto
import Derived.Deep.RegionLaw
import Derived.Lib.LazyBuf
import Derived.ChangeSlices
import Derived.Deep.Slices
import Derived.WideShapes
import Derived.Sort.OwnSortedInts
namespace Go.Proofs.YtnahjngbneicaaaGreatDoor
set_option maxHeartbeats 2000000
set_option maxRecDepth 100000
open Go.RowKit
theorem Znh {F:Nat->Prop} {p:Nat} {L:Lay} {d:Dk} {u:Int} {N:Nat} (w:World) (h:ZaZ F w p L d u N):
 Calls Tryz.prog 33 #[ptr p] w fun e w'=>e=.returned (.bool (d.power != 0))∧w'=w:=by
 obtain⟨⟨-,-,-,-,-,c5⟩,-⟩:=h.cells
 go_enter Tryz.func33,Tryz.ntmps33
 go_wp2
 go_ret
 exact⟨rfl,rfl⟩
theorem ZtF (n:Int) (w:World):
 Calls Tryz.prog 94 #[.int .i64 n] w fun e w'=>e=.returned (.bool (Zgj n))∧w'=w:=by
 by_cases h1:0<=n
 ·by_cases h2:n<1048576
  ·have e:Zgj n=true:=by simp[Zgj,h1,h2]
   rw[e]
   go_enter Tryz.func94,Tryz.ntmps94
   go_wp2
   go_ret
   exact⟨Zgh (by simp),rfl⟩
  ·have e:Zgj n=false:=by simp[Zgj,h1,h2]
   rw[e]
   go_enter Tryz.func94,Tryz.ntmps94
   go_wp2
   go_ret
   exact⟨Zgh (by simp),rfl⟩
 ·have e:Zgj n=false:=by simp[Zgj,h1]
  rw[e]
  go_enter Tryz.func94,Tryz.ntmps94
  go_wp2
  go_ret
  exact⟨rfl,rfl⟩
theorem Ziq {F:Nat->Prop} {p:Nat} {L:Lay} {d:Dk} {u:Int} {N:Nat} (w:World) (h:ZaZ F w p L d u N) (hp:I64 d.power):
 Calls Tryz.prog 97 #[ptr p] w fun e w'=>e=.returned (.int .i64 0)∧ZaZ F w' p L { d with power:=ZdW d.power } u N∧ZaE F w w':=by
 have H:=ZZ h
 obtain⟨⟨-,-,-,-,-,c5⟩,-,-,-,f5⟩:=h.cells
 obtain⟨hp1,hp2⟩:=hp
 obtain⟨q,hq⟩:∃ q,q=d.power:=⟨_,rfl⟩
 rw[<-hq] at c5 hp1 hp2 ⊢
 by_cases hg:q>0
 ·have HE:Hid (ZdW q=q-1):=if_pos hg
  have HQ:=ZZ hq
  clear h hq
  go_enter Tryz.func97,Tryz.ntmps97
  go_wp2
  go_ret
  refine⟨rfl,?_,(ZaE.refl _ _).setCell 5 (fun _=>H.out.fh) _⟩
  refine H.out.setHead 5 _ ⟨rfl,rfl,rfl⟩ ?_
  rw[HE.out]
  rfl
 ·have HE:Hid (ZdW q=q):=if_neg hg
  have HQ:=ZZ hq
  clear h hq
  go_enter Tryz.func97,Tryz.ntmps97
  go_wp2
  go_ret
  rw[HE.out,HQ.out]
  exact⟨rfl,H.out,ZaE.refl _ _⟩
theorem Zxy (w:World) (room:Int) (hr:I64 room):Dsk (fun k=>w.heap.size<=k∧k<(((w.alloc (.map #[] 0)).alloc (.map #[] 0)).alloc (.cells #[.int .i64 room,.int .i64 0,.map (some w.heap.size),.map (some (w.heap.size+1)),.slice none 0 0,.int .i64 (-1)] 69)).heap.size)
 (((w.alloc (.map #[] 0)).alloc (.map #[] 0)).alloc (.cells #[.int .i64 room,.int .i64 0,.map (some w.heap.size),.map (some (w.heap.size+1)),.slice none 0 0,.int .i64 (-1)] 69)) (w.heap.size+1+1) (ZfL room) 0 0:=by
 have m1:=ZdP.made w
 obtain⟨W1,h1⟩:∃ W1,W1=w.alloc (.map #[] 0):=⟨_,rfl⟩
 have s1:W1.heap.size=w.heap.size+1:=by rw[h1];simp
 rw[<-h1] at m1 ⊢
 have m2:=ZdP.made W1
 have k1:=m1.keep (w':=W1.alloc (.map #[] 0)) (Below.heap_alloc _ _ _ (by omega))
 obtain⟨W2,h2⟩:∃ W2,W2=W1.alloc (.map #[] 0):=⟨_,rfl⟩
 have s2:W2.heap.size=w.heap.size+1+1:=by rw[h2];simp[s1]
 rw[<-h2] at m2 k1 ⊢
 rw[s1] at m2
 obtain⟨A,hA⟩:∃ A:Array Value,A=#[.int .i64 room,.int .i64 0,.map (some w.heap.size),.map (some (w.heap.size+1)),.slice none 0 0,.int .i64 (-1)]:=⟨_,rfl⟩
 rw[<-hA]
 have k2:=m2.keep (w':=W2.alloc (.cells A 69)) (Below.heap_alloc _ _ _ (by omega))
 have k3:=k1.keep (w':=W2.alloc (.cells A 69)) (Below.heap_alloc _ _ _ (by omega))
 have hb:Bk 69 (W2.alloc (.cells A 69)) W2.heap.size A:=heap_alloc_new W2 _
 rw[s2] at hb
 have s3:(W2.alloc (.cells A 69)).heap.size=w.heap.size+1+1+1:=by simp[s2]
 obtain⟨W3,h3⟩:∃ W3,W3=W2.alloc (.cells A 69):=⟨_,rfl⟩
 rw[<-h3] at k2 k3 hb s3 ⊢
 refine⟨⟨w.heap.size,w.heap.size+1,.slice none 0 0,[],fun _=>0,fun _=>.slice none 0 0⟩,⟨by rw[hA] at hb;exact hb,?_,⟨by omega,by omega⟩,fun k hk=>hk.2⟩,Zti room,⟨Nat.le_refl _,Nat.le_refl _,(fun x hx=>by cases hx)⟩,hr,⟨by show(-9223372036854775808:Int)<=-1;omega,by show(-1:Int)<=9223372036854775807;omega⟩⟩
 refine⟨k3,k2,World.ownsRow_nil _ _ _ _,rfl,(fun i c v h=>by simp[ZfL] at h),(fun i hi=>absurd hi (Nat.not_lt_zero _)),(fun i j hi=>absurd hi (Nat.not_lt_zero _)),(fun i j hi=>absurd hi (Nat.not_lt_zero _)),(by show w.heap.size≠w.heap.size+1;omega),⟨by show w.heap.size<=w.heap.size;omega,by show w.heap.size<_;omega⟩,⟨by show w.heap.size<=w.heap.size+1;omega,by show w.heap.size+1<_;omega⟩,(fun g hg=>by cases hg),(fun i hi=>absurd hi (Nat.not_lt_zero _)),(fun i hi=>absurd hi (Nat.not_lt_zero _))⟩
theorem Zxz (room:Int) (hr:I64 room) (w:World):
 Calls Tryz.prog 9 #[.int .i64 room] w fun e w'=>∃ p,e=.returned (ptr p)∧Dsk (fun k=>w.heap.size<=k∧k<w'.heap.size) w' p (ZfL room) 0 0∧Below w.heap.size w w':=by
 have HR:=ZZ hr
 clear hr
 have hmm:=@run_makeMap Tryz.prog
 go_enter Tryz.func9,Tryz.ntmps9
 go_wp2
 go_ret
 exact⟨_,rfl,Zxy w room HR.out,(((Below.refl _ w).alloc zL _).alloc (by simp) _).alloc (by simp;omega) _⟩
theorem ZqJ {F:Nat->Prop} {p:Nat} {L:Lay} {d:Dk} {u:Int} {N:Nat} (n:Int) (hn:I64 n) (w:World) (h:ZaZ F w p L d u N):
 Calls Tryz.prog 103 #[ptr p,.int .i64 n] w fun e w'=>e=.returned (.tuple #[ZvO (if d.power=0 then none else(look (ZbW d) n).map L.ps),.int .i64 (if d.power=0 then 11 else if(look (ZbW d) n).isSome then 0 else 8)])∧w'=w:=by
 have HO:=ZZ (Znh w h)
 obtain⟨⟨-,-,c2,-,-,-⟩,-⟩:=h.cells
 have hl:=h.rest.now.look hn
 obtain⟨q,hq⟩:∃ q,q=d.power:=⟨_,rfl⟩
 obtain⟨o,ho⟩:∃ o,o=look (ZbW d) n:=⟨_,rfl⟩
 rw[<-ho] at hl
 rw[<-hq] at HO
 rw[<-hq,<-ho]
 clear h hq ho hn
 by_cases h0:q=0
 ·subst h0
  go_enter Tryz.func103,Tryz.ntmps103
  go_wp2_with fail
  refine HO.out.mono ?_
  rintro e w' ⟨rfl,rfl⟩
  go_wp2
  go_ret2
  exact⟨rfl,rfl⟩
 ·rw[if_neg h0,if_neg h0]
  have e0:(q != 0)=true:=by simpa using h0
  rw[e0] at HO
  clear h0 e0
  cases o with
  | none=>
   have hl':(Instr.lookup 65 (.map (some L.now)) (.int .i64 n) true).run Tryz.prog w=.ok (.tuple #[.pointer none,.bool false]) w:=hl
   clear hl
   go_enter Tryz.func103,Tryz.ntmps103
   go_wp2_with fail
   refine HO.out.mono ?_
   rintro e w' ⟨rfl,rfl⟩
   go_wp2
   go_ret2
   exact⟨rfl,rfl⟩
  | some f=>
   have hl':(Instr.lookup 65 (.map (some L.now)) (.int .i64 n) true).run Tryz.prog w=.ok (.tuple #[.pointer (some ⟨L.ps f,0,none⟩),.bool true]) w:=hl
   clear hl
   obtain⟨x,hx⟩:∃ x,x=L.ps f:=⟨_,rfl⟩
   have e1:ZvO (Option.map L.ps (some f))=.pointer (some ⟨x,0,none⟩):=by rw[hx];rfl
   rw[<-hx] at hl'
   rw[e1]
   clear hx e1
   go_enter Tryz.func103,Tryz.ntmps103
   go_wp2_with fail
   refine HO.out.mono ?_
   rintro e w' ⟨rfl,rfl⟩
   go_wp2
   go_ret2
   exact⟨rfl,rfl⟩
def Gr (F:Nat->Prop) (w w':World) (k:Nat):Prop:=F k∨(w.heap.size<=k∧k<w'.heap.size)
theorem Gr.lt {F:Nat->Prop} {w w':World} (hs:w.heap.size<=w'.heap.size) (hF:∀ k,F k->k<w.heap.size):∀ k,Gr F w w' k->k<w'.heap.size:=by
 rintro k (h | h)
 ·have:=hF k h;omega
 ·exact h.2
theorem ZvQ (n:Int) (x:Nat) (w:World):
 Calls Tryz.prog 96 #[.int .i64 n,ptr x] w fun e w'=>e=.returned (.func (.func 139) #[] #[ptr (w.heap.size+1),ptr w.heap.size])∧w'=(w.alloc (.cells #[.int .i64 n] 3)).alloc (.cells #[ptr x] 115):=by
 have hmf:∀ (fn:Fn) (first cap:Array Value) (w:World),(Instr.makeFunc fn first cap).run Tryz.prog w=.ok (.func fn first cap) w:=fun _ _ _ _=>rfl
 go_enter Tryz.func96,Tryz.ntmps96
 go_wp2
 go_ret
 exact⟨rfl,rfl⟩
theorem Zgw {n:Int} (h:Zgj n=true):I64 n:=by
 simp only [Zgj,Bool.and_eq_true,decide_eq_true_eq] at h
 exact⟨by omega,by omega⟩
def ZlN (w:World) (b N:Nat) (ps:Nat->Nat) (g:Int->Option Nat) (c:Ch) (e:Ending) (w':World):Prop:=
 e=.returned (.tuple #[])∧ZdP w' b (N+1) (fun n=>(chF g c n).map ps)∧w.grownBy w' (some b)
theorem ZeY (w:World) {ops:Array Oper} {rest:List Oper} {o:Oper} {a:Act} {Q:Exit->Act->World->Prop} (hgd:o.guard=none) (m x:Operand)
 (ho:o.op=.call { callee:=.builtin .delete,args:=#[m,x],argTypes:=#[65,3] })
 (b N:Nat) (f:Int->Option Nat) (p:Int) (hm:a.eval m=.map (some b)) (hx:a.eval x=.int .i64 p) (hown:ZdP w b N f) (hp:I64 p)
 (h:∀ w',ZdP w' b N (fun m=>if m=p then none else f m)->w.grownBy w' (some b)->wpList Tryz.prog ops Q rest (a.put o.dst (.tuple #[])) w'):wpList Tryz.prog ops Q (o::rest) a w:=
 wpList_plain hgd fun _ hK=>by
  obtain⟨w',hrun,h2,h3⟩:=hown.del hp o.type
  unfold Oper.wp execOp
  simp only [ho,resolve,invoke,builtin,Sem.run_bind,Sem.run_pure,Result.andThen_ok,List.map_toArray,List.map_cons,List.map_nil,hm,hx,hrun]
  exact hK _ _ (h w' h2 h3)
theorem Zpd {a b c:World} {r:Nat} (h:a.grownBy b (some r)) (k:b.grownBy c (some r)):a.grownBy c (some r):=h.andThen k (fun _ hj=>.inr hj)
theorem ZtG {n:Int} {f:Nat} (hn:Zgj n=true) {b1 b2 b N:Nat} {ps:Nat->Nat} {g:Int->Option Nat} (w:World) (h1:Bk 3 w b1 #[.int .i64 n]) (h2:Bk 115 w b2 #[ptr (ps f)]) (hm:ZdP w b N (fun n=>(g n).map ps)) (hN:N<=10000000):
 Calls Tryz.prog 139 #[.map (some b),ptr b2,ptr b1] w fun e w'=>ZlN w b N ps g (.give n f) e w':=by
 obtain⟨w1,hrun,hm1,hg1⟩:=hm.put (p:=n) (ps f) (Zgw hn) hN
 have HM:Hid (ZdP w1 b (N+1) (fun n'=>(chF g (.give n f) n').map ps)):=ZZ (hm1.fun fun q _=>by
  show(if q=n then some (ps f) else(g q).map ps)=(if q=n then some f else g q).map ps
  split <;> rfl)
 have HG:=ZZ hg1
 obtain⟨c1,-⟩:=h1.cell 0 rfl
 obtain⟨c2,-⟩:=h2.cell 0 rfl
 obtain⟨x,hx⟩:∃ x,x=ps f:=⟨_,rfl⟩
 rw[<-hx] at hrun c2
 clear hm1 hg1 hm h1 h2 hx hn hN
 go_enter Tryz.func139,Tryz.ntmps139
 go_wp2
 go_end0
 exact⟨rfl,HM.out,HG.out⟩
theorem ZtH {n tz:Int} {f:Nat} (hn:Zgj n=true) (hto:Zgj tz=true) {b1 b2 b3 b N:Nat} {ps:Nat->Nat} {g:Int->Option Nat} (w:World) (h1:Bk 3 w b1 #[.int .i64 n]) (h2:Bk 3 w b2 #[.int .i64 tz]) (h3:Bk 115 w b3 #[ptr (ps f)]) (hm:ZdP w b N (fun n=>(g n).map ps)) (hN:N<=10000000):
 Calls Tryz.prog 143 #[.map (some b),ptr b3,ptr b2,ptr b1] w fun e w'=>ZlN w b N ps g (.move n tz f) e w':=by
 obtain⟨w1,hrun,hm1,hg1⟩:=hm.put (p:=tz) (ps f) (Zgw hto) hN
 obtain⟨c2,-⟩:=h2.cell 0 rfl
 obtain⟨c3,-⟩:=h3.cell 0 rfl
 obtain⟨d1,-⟩:=(h1.keep (hg1.block b1 h1.lt (by intro e;exact(h1.neMap hm) (Option.some.inj e)))).cell 0 rfl
 have HM:=ZZ hm1
 have HN:=ZZ hn
 have HC:Hid (∀ w2,ZdP w2 b (N+1) (fun m=>if m=n then none else if m=tz then some (ps f) else(g m).map ps)->w1.grownBy w2 (some b)->ZlN w b N ps g (.move n tz f) (.returned (.tuple #[])) w2):=ZZ (fun w2 hm2 hg2=>by
  refine⟨rfl,hm2.fun fun q _=>?_,Zpd hg1 hg2⟩
  show(if q=n then none else if q=tz then some (ps f) else(g q).map ps)=(if q=n then none else if q=tz then some f else g q).map ps
  split
  ·rfl
  ·split <;> rfl)
 obtain⟨x,hx⟩:∃ x,x=ps f:=⟨_,rfl⟩
 rw[<-hx] at hrun c3
 clear hm1 hg1 hm h1 h2 h3 hx hn hto hN
 go_enter Tryz.func143,Tryz.ntmps143
 go_wp2_with(first | (at_delete;refine ZeY _ rfl _ _ rfl b _ _ n rfl rfl HM.out (Zgw HN.out) ?_;intro w2 hm2 hg2))
 go_end0
 exact HC.out _ hm2 hg2
theorem ZtI {n:Int} (hn:Zgj n=true) {b1 b N:Nat} {ps:Nat->Nat} {g:Int->Option Nat} (w:World) (h1:Bk 3 w b1 #[.int .i64 n]) (hm:ZdP w b N (fun n=>(g n).map ps)):
 Calls Tryz.prog 157 #[.map (some b),ptr b1] w fun e w'=>ZlN w b N ps g (.take n) e w':=by
 obtain⟨c1,-⟩:=h1.cell 0 rfl
 have HM:=ZZ hm
 have HN:=ZZ hn
 clear hm hn h1
 go_enter Tryz.func157,Tryz.ntmps157
 go_wp2_with(first | (at_delete;refine ZeY _ rfl _ _ rfl b _ _ n rfl rfl HM.out (Zgw HN.out) ?_;intro w2 hm2 hg2))
 go_end0
 refine⟨rfl,(hm2.mono (Nat.le_succ _)).fun fun q _=>?_,hg2⟩
 show(if q=n then none else(g q).map ps)=(if q=n then none else g q).map ps
 split <;> rfl
theorem ZxA:(Tryz.prog.info? 113).map (fun i=>(i.zero,i.size,i.bytes))=some (some .nilFunc,1,8):=by kernel_rfl
theorem ZlO (w:World) (ty:TypeId) (v:Value) (cs:List Value) (h:w.ownsRow 0 113 1 v cs.length cs) (fn:Fn) (c0 c1:Array Value) (hlim:cs.length<=10000000):
 ∃ v' w',(Builtin.append_ #[67,67] ty #[v,.slice (some ⟨w.heap.size,0,none⟩) 1 1]).run Tryz.prog (w.alloc (.cells #[.func fn c0 c1] 113))=.ok v' w'∧
  w'.ownsRow 0 113 1 v' (cs++[Value.func fn c0 c1]).length (cs++[Value.func fn c0 c1])∧(w.alloc (.cells #[.func fn c0 c1] 113)).grownBy w' v.ownBlock∧(v'.ownBlock=v.ownBlock∨v'.ownBlock=some (w.heap.size+1)):=by
 obtain⟨i0,hi,hz0,hz1,hz2⟩:=info_parts ZxA
 obtain⟨v',w',hrun,ho,hg,_,hl⟩:=run_append_own_at (P:=Tryz.prog) (w.alloc (.cells #[.func fn c0 c1] 113)) 0 67 ty 113 i0 .nilFunc 1 8 Tryz.underlying67 hi hz0 hz1 hz2 rfl (by decide) v cs.length cs (World.ownsRow.alloc h _)
  ⟨w.heap.size,0,none⟩ 1 1 [.func fn c0 c1] rfl (fun j u hj=>by
   match j,hj with
   | 0,hj=>simp at hj;subst hj;simp[Addr.add]) (fun u hu=>by simp at hu;subst hu;rfl) (by unfold maxLen;omega) (by omega) (Nat.zero_le _)
 refine⟨v',w',hrun,?_,hg,?_⟩
 ·rw[List.length_append]
  exact ho
 ·rcases hl with hl | hl
  ·exact .inl hl
  ·exact .inr (by rw[hl];simp)
theorem ZcV (w:World) {ops:Array Oper} {rest:List Oper} {o:Oper} {a:Act} {Q:Exit->Act->World->Prop} (hgd:o.guard=none) (s x:Operand)
 (ho:o.op=.call { callee:=.builtin .append,args:=#[s,x],argTypes:=#[67,67] })
 (v:Value) (cs:List Value) (hs:a.eval s=v) (h:w.ownsRow 0 113 1 v cs.length cs) (fn:Fn) (c0 c1:Array Value) (hx:a.eval x=.slice (some ⟨w.heap.size,0,none⟩) 1 1) (hlim:cs.length<=10000000)
 (hK:∀ v' w',w'.ownsRow 0 113 1 v' (cs++[Value.func fn c0 c1]).length (cs++[Value.func fn c0 c1])->(w.alloc (.cells #[.func fn c0 c1] 113)).grownBy w' v.ownBlock->(v'.ownBlock=v.ownBlock∨v'.ownBlock=some (w.heap.size+1))->
  wpList Tryz.prog ops Q rest (a.put o.dst v') w'):wpList Tryz.prog ops Q (o::rest) a (w.alloc (.cells #[.func fn c0 c1] 113)):=
 wpList_plain hgd fun _ hK'=>by
  obtain⟨v',w',hrun,h2,h3,h4⟩:=ZlO w o.type v cs h fn c0 c1 hlim
  unfold Oper.wp execOp
  simp only [ho,resolve,invoke,builtin,Sem.run_bind,Sem.run_pure,Result.andThen_ok,List.map_toArray,List.map_cons,List.map_nil,hs,hx,hrun]
  exact hK' _ _ (hK v' w' h2 h3 h4)
theorem ZtJ {m:Nat} {c:Ch} (h:Zvu m c):∀ n tz f,c=.move n tz f->n≠tz:=by
 rintro n tz f rfl
 exact h.2.2.1
theorem ZtK (d:Dk) (c:Ch):ZbW { d with waits:=d.waits++[c] }=chD (ZbW d) c:=by
 show(d.waits++[c]).foldl chD d.kept=_
 rw[List.foldl_append]
 rfl
theorem ZaZ.addWait {F:Nat->Prop} {w w1 w2:World} {p:Nat} {L:Lay} {d:Dk} {u:Int} {N:Nat} {c:Ch} {fn:Fn} {c0 c1:Array Value} {v':Value} (h:ZaZ F w p L d u N) (hc:ChV F w L.ps c (.func fn c0 c1)) (hok:OkD d) (hco:Zvu d.files.length c)
 (hg1:w.grownBy w1 (some L.now)) (hm:ZdP w1 L.now (N+1) (fun n=>(chF (look (ZbW d)) c n).map L.ps))
 (hrow:w2.ownsRow 0 113 1 v' (L.cs++[Value.func fn c0 c1]).length (L.cs++[Value.func fn c0 c1])) (hg2:(w1.alloc (.cells #[.func fn c0 c1] 113)).grownBy w2 L.wv.ownBlock) (hv:v'.ownBlock=L.wv.ownBlock∨v'.ownBlock=some (w1.heap.size+1)):
 ZaZ (Gr F w w2) (w2.setCell ⟨p,4,none⟩ v') p { L with wv:=v',cs:=L.cs++[Value.func fn c0 c1] } { d with waits:=d.waits++[c] } u (N+1)∧ZaE F w (w2.setCell ⟨p,4,none⟩ v'):=by
 have h0:=h.rest
 have hs1:=hg1.size
 have hs2:w1.heap.size+1<=w2.heap.size:=by have:=hg2.size;simpa using this
 have hs3:(w2.setCell ⟨p,4,none⟩ v').heap.size=w2.heap.size:=by simp
 have hk2:∀ k,F k->k≠L.now->L.wv.ownBlock≠some k->w2.heap[k]?=w.heap[k]?:=fun k hf hn hr=>by
  have hlt:=h.lt k hf
  rw[hg2.block k (by simp;omega) (fun e=>hr e.symm),Below.heap_alloc _ _ _ (by omega),hg1.block k hlt (fun e=>hn (Option.some.inj e))]
 have hk:∀ k,F k->k≠L.now->L.wv.ownBlock≠some k->k≠p->(w2.setCell ⟨p,4,none⟩ v').heap[k]?=w.heap[k]?:=fun k hf hn hr hp=>by
  rw[Below.heap_setCell _ _ _ _ hp,hk2 k hf hn hr]
 have hwr:∀ {t:TypeId} {k:Nat} {cs:Array Value},Bk t w k cs->t≠113->L.wv.ownBlock≠some k:=fun hb ht hg=>by
  obtain⟨cs',hb'⟩:=Zek h0.row hg
  exact(hb.ne hb' ht) rfl
 have hwm:∀ {k n:Nat} {g:Int->Option Nat},ZdP w k n g->L.wv.ownBlock≠some k:=fun hm hg=>by
  obtain⟨cs',hb'⟩:=Zek h0.row hg
  exact(hb'.neMap hm) rfl
 have hbk:∀ {t:TypeId} {k:Nat} {cs:Array Value},Bk t w k cs->F k->t≠113->t≠69->(w2.setCell ⟨p,4,none⟩ v').heap[k]?=w.heap[k]?:=fun hb hf h1 h2=>
  hk _ hf (hb.neMap h0.now) (hwr hb h1) (hb.ne h.head h2)
 have hnp:L.now≠p:=(h.head.neMap h0.now).symm
 have hhead:Bk 69 w2 p (Zpc L d u):=h.head.keep (hk2 p h.fh hnp.symm (hwr h.head (by decide)))
 have hFn:∀ g,v'.ownBlock=some g->Gr F w w2 g:=fun g hg=>by
  rcases hv with hv | hv
  ·exact .inl (h0.fw g (by rw[<-hv];exact hg))
  ·rw[hv] at hg
   obtain rfl:=Option.some.inj hg
   exact .inr ⟨by omega,by have:=(World.ownsRow.lt hrow _ hv).2;omega⟩
 refine⟨⟨hhead.set 4 v',?_,.inl h.fh,fun k hk=>?_⟩,?_⟩
 ·refine⟨?_,?_,?_,?_,?_,?_,h0.psn,h0.vsn,h0.nk,.inl h0.fn,.inl h0.fk,hFn,fun i hi=>.inl (h0.fp i hi),fun i hi g hg=>.inl (h0.fv i hi g hg)⟩
  ·have e:∀ n,(look (ZbW { d with waits:=d.waits++[c] }) n).map L.ps=(chF (look (ZbW d)) c n).map L.ps:=fun n=>by rw[ZtK,ZlC hok.dir.rise c (ZtJ hco)]
   refine(hm.keep (w':=w2.setCell ⟨p,4,none⟩ v') ?_).fun fun n _=>(e n).symm
   rw[Below.heap_setCell _ _ _ _ hnp,hg2.block L.now (by simp;have:=hm.lt;omega) (fun e=>hwm h0.now e.symm),Below.heap_alloc _ _ _ hm.lt]
  ·exact(h0.kept.mono (Nat.le_succ N)).keep (hk _ h0.fk (Ne.symm h0.nk) (hwm h0.kept) (h.head.neMap h0.kept).symm)
  ·exact Zah hrow fun g hg=>Below.heap_setCell _ _ _ _ (by
    obtain⟨cs',hb'⟩:=Zek hrow hg
    exact hb'.ne hhead (by decide))
  ·rw[List.length_append,List.length_append,h0.many]
   rfl
  ·intro i c' v hi hv2
   have hkeep:∀ c v,ChV F w L.ps c v->ChV (Gr F w w2) (w2.setCell ⟨p,4,none⟩ v') L.ps c v:=fun c v hcv=>hcv.keep (fun _ hf=>.inl hf) (fun _ _=>rfl) fun k cs' hf hb=>by
    rcases hb with hb | hb <;> exact hbk hb hf (by decide) (by decide)
   rw[List.getElem?_append] at hi hv2
   rw[h0.many] at hv2
   by_cases hlt:i<d.waits.length
   ·rw[if_pos hlt] at hi hv2
    exact hkeep _ _ (h0.wait i c' v hi hv2)
   ·rw[if_neg hlt] at hi hv2
    have e0:i-d.waits.length=0:=by
     have:=(List.getElem?_eq_some_iff.1 hi).1
     simp at this
     omega
    rw[e0] at hi hv2
    simp only [List.getElem?_cons_zero,Option.some.injEq] at hi hv2
    rw[<-hi,<-hv2]
    exact hkeep _ _ hc
  ·intro i hi
   refine(h0.file i hi).keep (hbk (h0.file i hi).box (h0.fp i hi) (by decide) (by decide)) fun g hg=>?_
   obtain⟨cs',hb⟩:=Zek (h0.file i hi).own hg
   exact hbk hb (h0.fv i hi g hg) (by decide) (by decide)
 ·rw[hs3]
  exact Gr.lt (by omega) h.lt k hk
 ·have o1:ZaE F w w1:=ZaE.ofGrown hg1 fun k e _=>by obtain rfl:=Option.some.inj e;exact h0.fn
  have o2:ZaE F (w1.alloc (.cells #[.func fn c0 c1] 113)) w2:=ZaE.ofGrown hg2 fun k e _=>h0.fw k e
  exact((o1.alloc _).trans o2 (fun _ _ hf=>hf)).setCell 4 (fun _=>h.fh) v'
theorem Zir {w:World} {base n s:Nat} {t:TypeId} {v:Value} {xs:List Value} (h:w.ownsRow base t s v n xs):∃ ao m cp,v=.slice ao m cp:=by
 rcases h.2 with ⟨hv,_⟩ | ⟨g,cap,cur,hv,_⟩
 ·exact⟨_,_,_,hv⟩
 ·exact⟨_,_,_,hv⟩
theorem ZtL (F:Nat->Prop) (w w2:World) (a:Addr) (v:Value):Gr F w (w2.setCell a v)=Gr F w w2:=by
 funext k
 simp[Gr]
def ZxB (F:Nat->Prop) (w:World) (p:Nat) (L:Lay) (d:Dk) (u:Int) (N:Nat) (c:Ch) (e:Ending) (w':World):Prop:=
 e=.returned (.tuple #[])∧∃ L',ZaZ (Gr F w w') w' p L' { d with waits:=d.waits++[c] } u (N+1)∧L'.ps=L.ps∧L'.vs=L.vs∧ZaE F w w'
theorem ZtM {F:Nat->Prop} {p:Nat} {L:Lay} {d:Dk} {u:Int} {N:Nat} {c:Ch} {cv:Value} (w:World) (h:ZaZ F w p L d u N) (hc:ChV F w L.ps c cv) (hok:OkD d) (hco:Zvu d.files.length c) (hN:N<=1000000) (hW:d.waits.length<=1000000):
 Calls Tryz.prog 95 #[ptr p,cv] w fun e w'=>ZxB F w p L d u N c e w':=by
 have H:=ZZ h
 have HOK:=ZZ hok
 have HCO:=ZZ hco
 obtain⟨⟨-,-,c2,-,-,-⟩,-⟩:=h.cells
 have HNP:Hid (L.now≠p):=ZZ (h.head.neMap h.rest.now).symm
 have HWN:Hid (∀ g,L.wv.ownBlock=some g->g≠L.now):=ZZ (fun g hg=>by
  obtain⟨cs',hb'⟩:=Zek h.rest.row hg
  exact hb'.neMap h.rest.now)
 clear h hok hco
 cases c with
 | give n f=>
  obtain⟨b1,b2,rfl,h1,h2,f1,f2⟩:=hc
  have HCH:Hid (ChV F w L.ps (.give n f) (.func (.func 139) #[] #[ptr b2,ptr b1])):=ZZ ⟨b1,b2,rfl,h1,h2,f1,f2⟩
  have HK:=ZZ (ZtG (f:=f) HCO.out.1 w h1 h2 H.out.rest.now (by omega))
  go_enter Tryz.func95,Tryz.ntmps95
  go_wp2_with fail
  refine HK.out.mono ?_
  rintro e w1 ⟨rfl,hm1,hg1⟩
  have HM1:=ZZ hm1
  have HG1:=ZZ hg1
  have h4:=H.out.head.keep (hg1.block p H.out.head.lt (fun e=>HNP.out (Option.some.inj e).symm))
  obtain⟨c4,f4⟩:=h4.cell 4 rfl
  have HR1:Hid (w1.ownsRow 0 113 1 L.wv L.cs.length L.cs):=ZZ (Zah H.out.rest.row fun g hg=>hg1.block g (World.ownsRow.lt H.out.rest.row g hg).2 (fun e=>HWN.out g hg (Option.some.inj e)))
  clear hm1 hg1 h4
  have HP4:Hid (p<w1.heap.size):=ZZ (Nat.lt_of_lt_of_le H.out.head.lt HG1.out.size)
  go_wp2_with(at_builtin;refine(fun(h:True->_)=>h trivial) ?_)
  intro _
  refine ZcV w1 rfl _ _ rfl L.wv L.cs rfl HR1.out _ _ _ rfl (by have:=H.out.rest.many;omega) ?_
  intro v' w2 hr2 hg2 hv2
  have HR2:=ZZ hr2
  have HG2:=ZZ hg2
  have HV2:=ZZ hv2
  have h5:Bk 69 w2 p (Zpc L d u):=(H.out.head.keep (HG1.out.block p H.out.head.lt (fun e=>HNP.out (Option.some.inj e).symm))).keep ((hg2.block p (by simp;have:=HP4.out;omega) (fun e=>by
   obtain⟨cs',hb'⟩:=Zek HR1.out e.symm
   exact(hb'.ne (H.out.head.keep (HG1.out.block p H.out.head.lt (fun e=>HNP.out (Option.some.inj e).symm))) (by decide)) rfl)).trans (Below.heap_alloc _ _ _ HP4.out))
  obtain⟨d4,g4⟩:=h5.cell 4 rfl
  obtain⟨ao,nn,cp,rfl⟩:=Zir hr2
  clear hr2 hg2 hv2 h5 c4 f4
  go_wp2
  go_end0
  obtain⟨hd,hon⟩:=H.out.addWait HCH.out HOK.out HCO.out HG1.out HM1.out HR2.out HG2.out HV2.out
  rw[<-ZtL F w w2 ⟨p,4,none⟩ (.slice ao nn cp)] at hd
  exact⟨rfl,_,hd,rfl,rfl,hon⟩
 | move n m f=>
  obtain⟨b1,b2,b3,rfl,h1,h2,h3,f1,f2,f3⟩:=hc
  have HCH:Hid (ChV F w L.ps (.move n m f) (.func (.func 143) #[] #[ptr b3,ptr b2,ptr b1])):=ZZ ⟨b1,b2,b3,rfl,h1,h2,h3,f1,f2,f3⟩
  have HK:=ZZ (ZtH (f:=f) HCO.out.1 HCO.out.2.1 w h1 h2 h3 H.out.rest.now (by omega))
  go_enter Tryz.func95,Tryz.ntmps95
  go_wp2_with fail
  refine HK.out.mono ?_
  rintro e w1 ⟨rfl,hm1,hg1⟩
  have HM1:=ZZ hm1
  have HG1:=ZZ hg1
  have h4:=H.out.head.keep (hg1.block p H.out.head.lt (fun e=>HNP.out (Option.some.inj e).symm))
  obtain⟨c4,f4⟩:=h4.cell 4 rfl
  have HR1:Hid (w1.ownsRow 0 113 1 L.wv L.cs.length L.cs):=ZZ (Zah H.out.rest.row fun g hg=>hg1.block g (World.ownsRow.lt H.out.rest.row g hg).2 (fun e=>HWN.out g hg (Option.some.inj e)))
  clear hm1 hg1 h4
  have HP4:Hid (p<w1.heap.size):=ZZ (Nat.lt_of_lt_of_le H.out.head.lt HG1.out.size)
  go_wp2_with(at_builtin;refine(fun(h:True->_)=>h trivial) ?_)
  intro _
  refine ZcV w1 rfl _ _ rfl L.wv L.cs rfl HR1.out _ _ _ rfl (by have:=H.out.rest.many;omega) ?_
  intro v' w2 hr2 hg2 hv2
  have HR2:=ZZ hr2
  have HG2:=ZZ hg2
  have HV2:=ZZ hv2
  have h5:Bk 69 w2 p (Zpc L d u):=(H.out.head.keep (HG1.out.block p H.out.head.lt (fun e=>HNP.out (Option.some.inj e).symm))).keep ((hg2.block p (by simp;have:=HP4.out;omega) (fun e=>by
   obtain⟨cs',hb'⟩:=Zek HR1.out e.symm
   exact(hb'.ne (H.out.head.keep (HG1.out.block p H.out.head.lt (fun e=>HNP.out (Option.some.inj e).symm))) (by decide)) rfl)).trans (Below.heap_alloc _ _ _ HP4.out))
  obtain⟨d4,g4⟩:=h5.cell 4 rfl
  obtain⟨ao,nn,cp,rfl⟩:=Zir hr2
  clear hr2 hg2 hv2 h5 c4 f4
  go_wp2
  go_end0
  obtain⟨hd,hon⟩:=H.out.addWait HCH.out HOK.out HCO.out HG1.out HM1.out HR2.out HG2.out HV2.out
  rw[<-ZtL F w w2 ⟨p,4,none⟩ (.slice ao nn cp)] at hd
  exact⟨rfl,_,hd,rfl,rfl,hon⟩
 | take n=>
  obtain⟨b1,rfl,h1,f1⟩:=hc
  have HCH:Hid (ChV F w L.ps (.take n) (.func (.func 157) #[] #[ptr b1])):=ZZ ⟨b1,rfl,h1,f1⟩
  have HK:=ZZ (ZtI HCO.out w h1 H.out.rest.now)
  go_enter Tryz.func95,Tryz.ntmps95
  go_wp2_with fail
  refine HK.out.mono ?_
  rintro e w1 ⟨rfl,hm1,hg1⟩
  have HM1:=ZZ hm1
  have HG1:=ZZ hg1
  have h4:=H.out.head.keep (hg1.block p H.out.head.lt (fun e=>HNP.out (Option.some.inj e).symm))
  obtain⟨c4,f4⟩:=h4.cell 4 rfl
  have HR1:Hid (w1.ownsRow 0 113 1 L.wv L.cs.length L.cs):=ZZ (Zah H.out.rest.row fun g hg=>hg1.block g (World.ownsRow.lt H.out.rest.row g hg).2 (fun e=>HWN.out g hg (Option.some.inj e)))
  clear hm1 hg1 h4
  have HP4:Hid (p<w1.heap.size):=ZZ (Nat.lt_of_lt_of_le H.out.head.lt HG1.out.size)
  go_wp2_with(at_builtin;refine(fun(h:True->_)=>h trivial) ?_)
  intro _
  refine ZcV w1 rfl _ _ rfl L.wv L.cs rfl HR1.out _ _ _ rfl (by have:=H.out.rest.many;omega) ?_
  intro v' w2 hr2 hg2 hv2
  have HR2:=ZZ hr2
  have HG2:=ZZ hg2
  have HV2:=ZZ hv2
  have h5:Bk 69 w2 p (Zpc L d u):=(H.out.head.keep (HG1.out.block p H.out.head.lt (fun e=>HNP.out (Option.some.inj e).symm))).keep ((hg2.block p (by simp;have:=HP4.out;omega) (fun e=>by
   obtain⟨cs',hb'⟩:=Zek HR1.out e.symm
   exact(hb'.ne (H.out.head.keep (HG1.out.block p H.out.head.lt (fun e=>HNP.out (Option.some.inj e).symm))) (by decide)) rfl)).trans (Below.heap_alloc _ _ _ HP4.out))
  obtain⟨d4,g4⟩:=h5.cell 4 rfl
  obtain⟨ao,nn,cp,rfl⟩:=Zir hr2
  clear hr2 hg2 hv2 h5 c4 f4
  go_wp2
  go_end0
  obtain⟨hd,hon⟩:=H.out.addWait HCH.out HOK.out HCO.out HG1.out HM1.out HR2.out HG2.out HV2.out
  rw[<-ZtL F w w2 ⟨p,4,none⟩ (.slice ao nn cp)] at hd
  exact⟨rfl,_,hd,rfl,rfl,hon⟩
def Zyx (fs:List Fl):Option Nat->Nat
 | some f=>(fl fs f).b.length
 | none=>0
theorem ZcN (fs:List Fl) (p:Int × Nat) (l:Dir):Zft fs (p::l)=(fl fs p.2).b.length+Zft fs l:=by simp[Zft]
theorem ZlP (fs:List Fl):Zft fs []=0:=rfl
theorem Zjf (fs:List Fl) (a b:Dir):Zft fs (a++b)=Zft fs a+Zft fs b:=by simp[Zft]
theorem Zjg (fs:List Fl) (n:Int) (f:Nat):∀ (l:Dir) (done:Bool),Zft fs (Zkn n f done l)=Zft fs (l.filter fun p=>decide (p.1≠n))+(if done then 0 else(fl fs f).b.length)
 | [],done=>by cases done <;> simp[Zkn,Zft]
 | q::l,done=>by
  have ih:=Zjg fs n f l (done || decide (q.1>n))
  rw[Zkn,Zjf,Zjf,ih,List.filter_cons]
  by_cases h1:q.1>n
  ·have h2:q.1≠n:=by omega
   cases done <;> simp[h1,h2,ZcN,ZlP] <;> omega
  ·by_cases h2:q.1=n
   ·cases done <;> simp[h2,ZlP]
   ·cases done <;> simp[h1,h2,ZcN,ZlP] <;> omega
theorem Zjh (fs:List Fl) (n:Int):∀ l:Dir,Zbw l->Zft fs (l.filter fun p=>decide (p.1≠n))+Zyx fs (look l n)=Zft fs l
 | [],_=>rfl
 | q::l,h=>by
  unfold Zbw at h
  rw[List.pairwise_cons] at h
  rw[List.filter_cons,look]
  by_cases e:q.1=n
  ·have hn:∀ p ∈ l,p.1≠n:=fun p hp=>by have:=h.1 p hp;omega
   rw[if_pos e,if_neg (by simp[e]),ZcN,List.filter_eq_self.2 (fun p hp=>by simpa using hn p hp)]
   show _+(fl fs q.2).b.length=_
   omega
  ·rw[if_neg e,if_pos (by simp[e]),ZcN,ZcN]
   have:=Zjh fs n l h.2
   omega
theorem ZtN (fs:List Fl) {l:Dir} (h:Zbw l) (n:Int) (o:Option Nat):Zft fs (Zkq l n o)+Zyx fs (look l n)=Zft fs l+Zyx fs o:=by
 have h1:=Zjh fs n l h
 cases o with
 | none=>rw[Zkq,Zjg];show _=_+0;simp only [if_true];omega
 | some f=>rw[Zkq,Zjg];simp only [Bool.false_eq_true,if_false];show _=_+(fl fs f).b.length;omega
theorem Zni {fs:List Fl} {f:Nat} (h:f<fs.length) (x:Fl):fl (fs++[x]) f=fl fs f:=by
 unfold fl
 simp[List.getD,List.getElem?_append,h]
theorem ZtO (fs:List Fl) (x:Fl):fl (fs++[x]) fs.length=x:=by
 unfold fl
 simp[List.getD]
theorem ZqK {fs fs':List Fl} {l:Dir} (h:∀ p ∈ l,(fl fs' p.2).b.length=(fl fs p.2).b.length):Zft fs' l=Zft fs l:=by
 unfold Zft
 rw[List.map_congr_left h]
theorem ZtP {fs:List Fl} {l:Dir} (h:∀ p ∈ l,p.2<fs.length) (x:Fl):Zft (fs++[x]) l=Zft fs l:=
 ZqK fun p hp=>by rw[Zni (h p hp)]
theorem ZlQ {fs:List Fl} {f:Nat} (hf:f<fs.length) (x:Fl):∀ {l:Dir},Zkp l->(∃ n,(n,f) ∈ l)->Zft (fs.set f x) l+(fl fs f).b.length=Zft fs l+x.b.length
 | [],_,⟨_,h⟩=>by cases h
 | q::l,ha,⟨n,h⟩=>by
  unfold Zkp at ha
  rw[List.pairwise_cons] at ha
  rw[ZcN,ZcN]
  by_cases e:q.2=f
  ·have hn:Zft (fs.set f x) l=Zft fs l:=ZqK fun p hp=>by rw[ZeP (by rw[<-e];exact ha.1 p hp)]
   rw[e,hn,ZiB hf]
   omega
  ·rw[ZeP (fun e'=>e e'.symm)]
   rcases List.mem_cons.1 h with h | h
   ·exact absurd (by rw[<-h]) e
   ·have:=ZlQ hf x (l:=l) ha.2 ⟨n,h⟩
    omega
theorem Zhm {d:Dk} (h:OkD d) {n:Int} {f:Nat} (e:look (ZbW d) n=some f) (b:List UInt8):ZcB (appendTo d f b)=ZcB d+b.length:=by
 have hm:=(ZcY h.dir.rise n f).1 e
 have:=ZlQ (h.dir.may _ hm).2 ⟨(fl d.files f).b++b,(fl d.files f).k⟩ h.dir.apart ⟨n,hm⟩
 simp only [List.length_append] at this
 show Zft (ZfM d.files f b) (ZbW d)=Zft d.files (ZbW d)+b.length
 unfold ZfM
 omega
theorem ZkW {d:Dk} (h:OkD d) {n:Int} {f:Nat} (e:look (ZbW d) n=some f) (q:Int):ZcB { d with files:=Zfu d.files f,power:=q }=ZcB d:=by
 have hm:=(ZcY h.dir.rise n f).1 e
 have:=ZlQ (h.dir.may _ hm).2 ⟨(fl d.files f).b,(fl d.files f).b.length⟩ h.dir.apart ⟨n,hm⟩
 show Zft (Zfu d.files f) (ZbW d)=Zft d.files (ZbW d)
 unfold Zfu
 dsimp only at this
 omega
theorem Zji {d:Dk} (h:OkD d) {n:Int} (e:look (ZbW d) n=none):ZcB (ZbL d n)=ZcB d:=by
 have h1:=ZtN (d.files++[⟨[],0⟩]) h.dir.rise n (some d.files.length)
 have h2:Zft (d.files++[⟨[],0⟩]) (ZbW d)=Zft d.files (ZbW d):=ZtP (fun p hp=>(h.dir.may p hp).2) _
 have h3:Zyx (d.files++[⟨[],0⟩]) (some d.files.length)=0:=by show(fl _ _).b.length=0;rw[ZtO];rfl
 rw[e,h2,h3] at h1
 unfold ZcB
 rw[ZkP,chD]
 show Zft (d.files++[⟨[],0⟩]) (Zkq (ZbW d) n (some d.files.length))=_
 simpa[Zyx] using h1
theorem ZtQ {fs:List Fl} {T:Nat} (h:∀ x ∈ fs,x.b.length<=T):∀ l:Dir,(∀ p ∈ l,p.2<fs.length)->Zft fs l<=l.length*T
 | [],_=>Nat.zero_le _
 | p::l,hl=>by
  have ih:=ZtQ h l fun q hq=>hl q (List.mem_cons_of_mem _ hq)
  have h1:=h _ (Zgk (hl p (List.mem_cons_self ..)))
  rw[ZcN,List.length_cons,Nat.add_mul]
  omega
theorem ZhT (l:List Ch):∀ k:Dir,(l.foldl chD k).length<=k.length+l.length:=by
 induction l with
 | nil=>intro k;exact Nat.le_refl _
 | cons c l ih=>
  intro k
  have h1:=ih (chD k c)
  have h2:=Zrd k c
  rw[List.foldl_cons,List.length_cons]
  omega
theorem ZvR {d:Dk} (h:OkD d) {N T:Nat} (h1:d.kept.length+d.waits.length<=N) (h2:∀ x ∈ d.files,x.b.length<=T):ZcB d<=N*T:=by
 have h3:=ZtQ h2 (ZbW d) fun p hp=>(h.dir.may p hp).2
 have h4:=ZhT d.waits d.kept
 have h5:(ZbW d).length*T<=N*T:=Nat.mul_le_mul_right T (by unfold ZbW;omega)
 unfold ZcB
 omega
theorem Zgx (d:Dk) (k:Nat):(Zvw d k).length<=d.kept.length+d.waits.length:=by
 have h:=ZhT (d.waits.take k) d.kept
 have h2:(d.waits.take k).length<=d.waits.length:=by rw[List.length_take];omega
 unfold Zvw
 omega
theorem ZaZ.widen {F F':Nat->Prop} {w:World} {p:Nat} {L:Lay} {d:Dk} {u:Int} {N:Nat} (h:ZaZ F w p L d u N) (hF:∀ k,F k->F' k) (hlt:∀ k,F' k->k<w.heap.size):ZaZ F' w p L d u N:=
 ⟨h.head,⟨h.rest.now,h.rest.kept,h.rest.row,h.rest.many,fun i c v h1 h2=>(h.rest.wait i c v h1 h2).keep hF (fun _ _=>rfl) (fun _ _ _ _=>rfl),h.rest.file,h.rest.psn,h.rest.vsn,h.rest.nk,hF _ h.rest.fn,hF _ h.rest.fk,fun g hg=>hF g (h.rest.fw g hg),fun i hi=>hF _ (h.rest.fp i hi),fun i hi g hg=>hF g (h.rest.fv i hi g hg)⟩,hF _ h.fh,hlt⟩
theorem ZaZ.more {F:Nat->Prop} {w w':World} {p:Nat} {L:Lay} {d:Dk} {u:Int} {N:Nat} (h:ZaZ F w p L d u N) (hb:Below w.heap.size w w'):ZaZ (Gr F w w') w' p L d u N:=
 (h.keep (fun k hf=>hb.block k (h.lt k hf)) hb.size).widen (fun _ hf=>.inl hf) (Gr.lt hb.size h.lt)
theorem ZxC {m:Nat} {c:Ch} (h:Zvu m c) {f:Nat} (e:chOf c=some f):f<m:=by
 cases c with
 | give n g=>obtain rfl:=Option.some.inj e;exact h.2
 | move n g x=>obtain rfl:=Option.some.inj e;exact h.2.2.2
 | take n=>cases e
theorem ZaZ.addFile {F:Nat->Prop} {w:World} {p:Nat} {L:Lay} {d:Dk} {u:Int} {N:Nat} (h:ZaZ F w p L d u N) (hok:OkD d):
 ZaZ (Gr F w (w.alloc (.cells #[.slice none 0 0,.int .i64 0] 117))) (w.alloc (.cells #[.slice none 0 0,.int .i64 0] 117)) p { L with ps:=fun i=>if i=d.files.length then w.heap.size else L.ps i,vs:=fun i=>if i=d.files.length then .slice none 0 0 else L.vs i } { d with files:=d.files++[⟨[],0⟩] } u N:=by
 have hb:Below w.heap.size w (w.alloc (.cells #[.slice none 0 0,.int .i64 0] 117)):=(Below.refl _ w).alloc zL _
 have hnew:Bk 117 (w.alloc (.cells #[.slice none 0 0,.int .i64 0] 117)) w.heap.size #[.slice none 0 0,.int .i64 0]:=heap_alloc_new w _
 have hs:(w.alloc (.cells #[.slice none 0 0,.int .i64 0] 117)).heap.size=w.heap.size+1:=by simp
 obtain⟨W,hW⟩:∃ W,W=w.alloc (.cells #[.slice none 0 0,.int .i64 0] 117):=⟨_,rfl⟩
 rw[<-hW] at hb hnew hs ⊢
 have h1:=h.more hb
 have h0:=h1.rest
 have hlen:(d.files++[(⟨[],0⟩:Fl)]).length=d.files.length+1:=by simp
 refine⟨h1.head,⟨?_,?_,h0.row,h0.many,?_,?_,?_,?_,h0.nk,h0.fn,h0.fk,h0.fw,?_,?_⟩,h1.fh,h1.lt⟩
 ·refine h0.now.fun fun n _=>?_
  show(look (ZbW d) n).map L.ps=(look (ZbW d) n).map _
  cases e:look (ZbW d) n with
  | none=>rfl
  | some f=>
   have:=(hok.dir.mayOf e).2
   show some (L.ps f)=some (if f=d.files.length then w.heap.size else L.ps f)
   rw[if_neg (by omega)]
 ·refine h0.kept.fun fun n _=>?_
  show(look d.kept n).map L.ps=(look d.kept n).map _
  cases e:look d.kept n with
  | none=>rfl
  | some f=>
   have:=(hok.kept.mayOf e).2
   show some (L.ps f)=some (if f=d.files.length then w.heap.size else L.ps f)
   rw[if_neg (by omega)]
 ·intro i c v hi hv
  refine(h0.wait i c v hi hv).keep (fun _ hf=>hf) (fun f hf=>?_) (fun _ _ _ _=>rfl)
  have:=ZxC (hok.chs c (List.mem_of_getElem? hi)) hf
  show(if f=d.files.length then w.heap.size else L.ps f)=L.ps f
  rw[if_neg (by omega)]
 ·intro i hi
  show Zpa W (if i=d.files.length then w.heap.size else L.ps i) (if i=d.files.length then .slice none 0 0 else L.vs i) (fl (d.files++[⟨[],0⟩]) i)
  by_cases e:i=d.files.length
  ·rw[if_pos e,if_pos e,e,ZtO]
   exact⟨hnew,World.ownsRow_nil _ _ _ _⟩
  ·have hi':i<d.files.length:=by have:i<(d.files++[(⟨[],0⟩:Fl)]).length:=hi;omega
   rw[if_neg e,if_neg e,Zni hi']
   exact h0.file i hi'
 ·intro i j hi hj hij
  have hi2:i<(d.files++[(⟨[],0⟩:Fl)]).length:=hi
  have hj2:j<(d.files++[(⟨[],0⟩:Fl)]).length:=hj
  show(if i=d.files.length then w.heap.size else L.ps i)≠(if j=d.files.length then w.heap.size else L.ps j)
  have hold:∀ i,i<d.files.length->L.ps i<w.heap.size:=fun i hi=>h.lt _ (h.rest.fp i hi)
  by_cases e1:i=d.files.length
  ·rw[if_pos e1,if_neg (by omega)]
   have:=hold j (by omega)
   omega
  ·rw[if_neg e1]
   by_cases e2:j=d.files.length
   ·rw[if_pos e2]
    have:=hold i (by omega)
    omega
   ·rw[if_neg e2]
    exact h0.psn i j (by show i<d.files.length;omega) (by show j<d.files.length;omega) hij
 ·intro i j hi hj hij g
  have hi2:i<(d.files++[(⟨[],0⟩:Fl)]).length:=hi
  have hj2:j<(d.files++[(⟨[],0⟩:Fl)]).length:=hj
  show(if i=d.files.length then Value.slice none 0 0 else L.vs i).ownBlock=some g->(if j=d.files.length then Value.slice none 0 0 else L.vs j).ownBlock≠some g
  by_cases e1:i=d.files.length
  ·rw[if_pos e1]
   intro hg
   cases hg
  ·rw[if_neg e1]
   by_cases e2:j=d.files.length
   ·rw[if_pos e2]
    intro _ hg
    cases hg
   ·rw[if_neg e2]
    exact h0.vsn i j (by show i<d.files.length;omega) (by show j<d.files.length;omega) hij g
 ·intro i hi
  have hi2:i<(d.files++[(⟨[],0⟩:Fl)]).length:=hi
  show Gr F w W (if i=d.files.length then w.heap.size else L.ps i)
  by_cases e:i=d.files.length
  ·rw[if_pos e]
   exact .inr ⟨Nat.le_refl _,by omega⟩
  ·rw[if_neg e]
   exact h0.fp i (by show i<d.files.length;omega)
 ·intro i hi g
  have hi2:i<(d.files++[(⟨[],0⟩:Fl)]).length:=hi
  show(if i=d.files.length then Value.slice none 0 0 else L.vs i).ownBlock=some g->Gr F w W g
  by_cases e:i=d.files.length
  ·rw[if_pos e]
   intro hg
   cases hg
  ·rw[if_neg e]
   exact h0.fv i (by show i<d.files.length;omega) g
theorem Zkw (w:World) (ty:TypeId) (v:Value) (l0:List UInt8) (hown:Own w 0 v l0) (vx:Value) (l:List UInt8) (hr:Rd w vx l)
 (hlim:l0.length+l.length<=70368744177664):
 ∃ v' w',(Builtin.append_ #[53,53] ty #[v,vx]).run Tryz.prog w=.ok v' w'∧Own w' 0 v' (l0++l)∧w.grownBy w' v.ownBlock∧(v'.ownBlock=v.ownBlock∨v'.ownBlock=some w.heap.size):=by
 obtain⟨i0,hi,hz0,hz1,hz2⟩:=info_parts ZlG
 obtain⟨ao,cap,rfl,hlc,hcm,hn0,hao⟩:=hr
 cases ao with
 | none=>
  have hc:=hn0 rfl
  subst hc
  have hl:l=[]:=List.eq_nil_of_length_eq_zero (by omega)
  subst hl
  have hrun:=run_append_owned_none (P:=Tryz.prog) w 0 53 ty 5 i0 1 Tryz.underlying53 hi v l0.length (Lib.byteCells l0) hown
  exact⟨v,w,hrun,by rw[List.append_nil];exact hown,⟨rfl,rfl,rfl,Nat.le_refl _,fun _ _ _=>rfl⟩,.inl rfl⟩
 | some a=>
  obtain⟨v',w',hrun,ho,hg,_,hl⟩:=run_append_own_at (P:=Tryz.prog) w 0 53 ty 5 i0 (.int .u8 0) 1 1 Tryz.underlying53 hi hz0 hz1 hz2 rfl (by decide) v l0.length (Lib.byteCells l0) hown a l.length cap (Lib.byteCells l)
   (by rw[Zbg,Nat.mul_one]) (Rd.cells hao a rfl) (ZcZ l) (by unfold maxLen;omega) (by omega) (Nat.zero_le _)
  exact⟨v',w',hrun,Own.mk' ho (by simp) (by simp[Lib.byteCells]),hg,hl⟩
theorem Zel (w:World) {ops:Array Oper} {rest:List Oper} {o:Oper} {a:Act} {Q:Exit->Act->World->Prop} (hgd:o.guard=none) (s x:Operand)
 (ho:o.op=.call { callee:=.builtin .append,args:=#[s,x],argTypes:=#[53,53] })
 (v:Value) (l0:List UInt8) (hs:a.eval s=v) (hown:Own w 0 v l0) (vx:Value) (l:List UInt8) (hx:a.eval x=vx) (hr:Rd w vx l)
 (hlim:l0.length+l.length<=70368744177664)
 (h:∀ v' w',Own w' 0 v' (l0++l)->w.grownBy w' v.ownBlock->(v'.ownBlock=v.ownBlock∨v'.ownBlock=some w.heap.size)->wpList Tryz.prog ops Q rest (a.put o.dst v') w'):wpList Tryz.prog ops Q (o::rest) a w:=
 wpList_plain hgd fun _ hK=>by
  obtain⟨v',w',hrun,h2,h3,h4⟩:=Zkw w o.type v l0 hown vx l hr hlim
  unfold Oper.wp execOp
  simp only [ho,resolve,invoke,builtin,Sem.run_bind,Sem.run_pure,Result.andThen_ok,List.map_toArray,List.map_cons,List.map_nil,hs,hx,hrun]
  exact hK _ _ (h v' w' h2 h3 h4)
theorem ZaZ.grow {F:Nat->Prop} {w w1:World} {p:Nat} {L:Lay} {d:Dk} {u:Int} {N f:Nat} {v':Value} {x:List UInt8} (h:ZaZ F w p L d u N) (hf:f<d.files.length)
 (ho:Own w1 0 v' ((fl d.files f).b++x)) (hg:w.grownBy w1 (L.vs f).ownBlock) (hl:v'.ownBlock=(L.vs f).ownBlock∨v'.ownBlock=some w.heap.size):
 ZaZ (Gr F w w1) (w1.setCell ⟨L.ps f,0,none⟩ v') p { L with vs:=fun i=>if i=f then v' else L.vs i } { d with files:=ZfM d.files f x } u N∧ZaE F w (w1.setCell ⟨L.ps f,0,none⟩ v'):=by
 have h0:=h.rest
 have hb:=(h0.file f hf).box
 have hne:(L.vs f).ownBlock≠some (L.ps f):=fun e=>by
  obtain⟨cs',hb'⟩:=Zek (h0.file f hf).own e
  exact(hb.ne hb' (by decide)) rfl
 have hb1:Bk 117 w1 (L.ps f) #[L.vs f,.int .i64 ((fl d.files f).k:Int)]:=hb.keep (hg.block _ hb.lt (fun e=>hne e.symm))
 have hs:(w1.setCell ⟨L.ps f,0,none⟩ v').heap.size=w1.heap.size:=by simp
 refine⟨h.setFile (F':=Gr F w w1) hf (fun k hk h1 h2=>?_) ⟨hb1.set 0 v',?_⟩ ?_ (fun _ hk=>.inl hk) (fun g hg'=>?_) (fun k hk=>by rw[hs];exact Gr.lt hg.size h.lt k hk),?_⟩
 ·rw[Below.heap_setCell _ _ _ _ h1,hg.block k (h.lt k hk) (fun e=>h2 e.symm)]
 ·refine Zah ho fun g hg'=>Below.heap_setCell _ _ _ _ ?_
  obtain⟨cs',hb'⟩:=Zek ho hg'
  exact hb'.ne hb1 (by decide)
 ·rcases hl with hl | hl
  ·exact .inl hl
  ·exact .inr fun g hg'=>by rw[hl] at hg';exact Nat.le_of_eq (Option.some.inj hg')
 ·rcases hl with hl | hl
  ·exact .inl (h0.fv f hf g (by rw[<-hl];exact hg'))
  ·have h3:=(World.ownsRow.lt ho g hg').2
   rw[hl] at hg'
   obtain rfl:=Option.some.inj hg'
   exact .inr ⟨Nat.le_refl _,h3⟩
 ·exact(ZaE.ofGrown hg fun k e _=>h0.fv f hf k e).setCell 0 (fun _=>h0.fp f hf) v'
theorem Bnd.grow {d:Dk} {N T:Nat} (h:Bnd d N T) (f:Nat) (b:List UInt8) (q:Int):Bnd { d with files:=ZfM d.files f b,power:=q } (N+1) (T+b.length):=by
 refine⟨by show(ZfM d.files f b).length<=_;have:=h.files;simp[ZfM];omega,by have:=h.names;show d.kept.length+d.waits.length<=_;omega,fun x hx=>?_⟩
 rcases List.mem_or_eq_of_mem_set hx with hx | rfl
 ·have:=h.bytes x hx;omega
 ·simp only [List.length_append]
  by_cases hf:f<d.files.length
  ·have:=h.bytes _ (Zgk hf);omega
  ·unfold fl
   rw[List.getD,List.getElem?_eq_none (by omega)]
   simp only [Option.getD_none,List.length_nil]
   omega
theorem Bnd.fresh {d:Dk} {N T:Nat} (h:Bnd d N T) (n:Int):Bnd (ZbL d n) (N+1) T:=by
 refine⟨by show(d.files++[_]).length<=_;have:=h.files;simp;omega,by have:=h.names;show d.kept.length+(d.waits++[_]).length<=_;simp;omega,fun x hx=>?_⟩
 rcases List.mem_append.1 hx with hx | hx
 ·exact h.bytes x hx
 ·rw[List.mem_singleton.1 hx]
  exact Nat.zero_le _
theorem Bnd.mono {d:Dk} {N T N' T':Nat} (h:Bnd d N T) (hN:N<=N') (hT:T<=T'):Bnd d N' T':=
 ⟨Nat.le_trans h.files hN,Nat.le_trans h.names hN,fun x hx=>Nat.le_trans (h.bytes x hx) hT⟩
theorem ZaZ.mono {F:Nat->Prop} {w:World} {p:Nat} {L:Lay} {d:Dk} {u:Int} {N N':Nat} (h:ZaZ F w p L d u N) (hN:N<=N'):ZaZ F w p L d u N':=⟨h.head,h.rest.mono hN,h.fh,h.lt⟩
theorem Dsk.mono {F:Nat->Prop} {w:World} {p:Nat} {d:Dk} {N T N' T':Nat} (h:Dsk F w p d N T) (hN:N<=N') (hT:T<=T'):Dsk F w p d N' T':=by
 obtain⟨L,h1,h2,h3,h4⟩:=h
 exact⟨L,h1.mono hN,h2,h3.mono hN hT,h4⟩
def ZlR (F:Nat->Prop) (w:World) (p:Nat) (d:Dk) (code:Int) (N T:Nat) (e:Ending) (w':World):Prop:=
 e=.returned (.int .i64 code)∧∃ F',Dsk F' w' p d N T∧ZaE F w w'∧∀ k,F' k->F k∨w.heap.size<=k
theorem ZlR.same {F:Nat->Prop} {w:World} {p:Nat} {d:Dk} {code:Int} {N T N' T':Nat} (h:Dsk F w p d N T) (hN:N<=N') (hT:T<=T'):ZlR F w p d code N' T' (.returned (.int .i64 code)) w:=
 ⟨rfl,F,h.mono hN hT,ZaE.refl _ _,fun _ hk=>.inl hk⟩
theorem ZlR.drew {F:Nat->Prop} {w:World} {p:Nat} {d:Dk} {code:Int} {N T N' T':Nat} (h:Dsk F w p d N T) (hN:N<=N') (hT:T<=T') (q:Nat):ZlR F w p d code N' T' (.returned (.int .i64 code)) (w.drewN q):=
 ⟨rfl,F,(h.below (Zaz (Below.refl _ _) q)).mono hN hT,(ZaE.refl _ _).drewN q,fun _ hk=>.inl hk⟩
theorem ZlS {q:Int} (h:I64 q):I64 (ZdW q):=by
 obtain⟨h1,h2⟩:=h
 unfold ZdW I64
 split <;> omega
theorem ZxD {d:Dk} (h:OkD d) {N T:Nat} (hb:Bnd d N T) (hN:N<=1000000) (hT:T<=1000000000):ZcB d<=1000000000000000:=by
 have h1:=ZvR h hb.names hb.bytes
 have h2:N*T<=1000000*1000000000:=Nat.mul_le_mul hN hT
 omega
theorem ZlR.appended {F F2:Nat->Prop} {w W2:World} {p:Nat} {d1:Dk} {N1 N' T f:Nat} {n:Int} {b:List UInt8} {L2:Lay} (hok:OkD d1) (hbn:Bnd d1 N1 T) (hi:I64 d1.room∧I64 d1.power) (hl:look (ZbW d1) n=some f)
 (h:ZaZ F2 W2 p L2 (appendTo d1 f b) ((ZcB d1:Int)+b.length) N1) (ho:ZaE F w W2) (hg:∀ k,F2 k->F k∨w.heap.size<=k) (hN:N1+1<=N'):ZlR F w p (appendTo d1 f b) 0 N' (T+b.length) (.returned (.int .i64 0)) W2:=by
 refine⟨rfl,F2,⟨L2,?_,hok.appendTo f b,(hbn.grow f b _).mono hN zL,hi.1,ZlS hi.2⟩,ho,hg⟩
 rw[Zhm hok hl b]
 exact h.mono (by omega)
theorem Rd.blockLt {w:World} {v:Value} {l:List UInt8} (h:Rd w v l):l=[]∨∀ k,v.ownBlock=some k->k<w.heap.size:=by
 obtain⟨ao,cap,rfl,h2,h3,hn,h4⟩:=h
 rcases h4 with h4 | ⟨b,off,rfl,h6⟩
 ·exact .inl h4
 ·by_cases e:l=[]
  ·exact .inl e
  ·right
   intro k hk
   obtain rfl:b=k:=by simpa[Value.ownBlock] using hk
   exact World.block_lt_of_cell? w ⟨b,off+0,none⟩ (h6 0 (List.length_pos_iff.2 e))
theorem Rd.onlyN {w w':World} {v:Value} {l:List UInt8} (h:Rd w v l) {F G:Nat->Prop} {B:Nat} (ho:ZaE G w w') (hG:∀ k,G k->F k∨B<=k) (hv:l=[]∨∀ k,v.ownBlock=some k->¬ F k) (hlt:l=[]∨∀ k,v.ownBlock=some k->k<B):Rd w' v l:=by
 rcases hv with rfl | hv
 ·obtain⟨ao,cap,rfl,h2,h3,hn,h4⟩:=h
  exact⟨ao,cap,rfl,h2,h3,hn,.inl rfl⟩
 rcases hlt with rfl | hlt
 ·obtain⟨ao,cap,rfl,h2,h3,hn,h4⟩:=h
  exact⟨ao,cap,rfl,h2,h3,hn,.inl rfl⟩
 ·exact h.only ho fun k hk hg=>by
   rcases hG k hg with hf | hf
   ·exact hv k hk hf
   ·have:=hlt k hk;omega
theorem Zrx {F:Nat->Prop} {p:Nat} {d:Dk} {N T:Nat} (n:Int) (hn:I64 n) (vb:Value) (b:List UInt8) (w:World) (h:Dsk F w p d N T) (hr:Rd w vb b) (hv:b=[]∨∀ k,vb.ownBlock=some k->¬ F k) (hN:N<=1000000) (hT:T<=1000000000) (hbl:b.length<=1000000000):
 Calls Tryz.prog 52 #[ptr p,.int .i64 n,vb] w fun e w'=>ZlR F w p (Zaw d n b).1 (Zaw d n b).2 (N+2) (T+b.length) e w':=by
 have HD:=ZZ h
 obtain⟨L,h,hok,hbn,hrm,hpw⟩:=h
 have H:=ZZ h
 have HOK:=ZZ hok
 have HBN:=ZZ hbn
 have HI:=ZZ (And.intro hrm hpw)
 have HRD:=ZZ hr
 have HBL:=ZZ hr.blockLt
 have HV:=ZZ hv
 have HO:=ZZ (Znh w h)
 have HM:=ZZ (ZtF n w)
 have hl:=h.rest.now.look hn
 obtain⟨⟨c0,c1,c2,-,-,-⟩,-⟩:=h.cells
 have hub:=ZxD hok hbn hN hT
 obtain⟨U,hU⟩:∃ U:Int,U=(ZcB d:Int):=⟨_,rfl⟩
 have hU0:0<=U∧U<=1000000000000000:=by omega
 rw[<-hU] at c1
 obtain⟨ao,cap,rfl,-⟩:=hr
 obtain⟨R,hR⟩:∃ R,R=d.room:=⟨_,rfl⟩
 rw[<-hR] at c0
 unfold Zaw
 rw[<-hU,<-hR]
 have HU:=ZZ hU
 clear hU hub hR
 clear hok hbn hpw hv h
 by_cases h0:d.power=0
 ·rw[if_pos h0]
  rw[h0] at HO
  clear hl h0
  go_enter Tryz.func52,Tryz.ntmps52
  go_wp2_with fail
  refine HO.out.mono ?_
  rintro e w' ⟨rfl,rfl⟩
  go_wp2
  go_ret
  exact ZlR.same HD.out (by omega) (by omega)
 rw[if_neg h0]
 have e0:(d.power != 0)=true:=by simpa using h0
 rw[e0] at HO
 clear h0 e0
 cases hmn:Zgj n with
 | false=>
  rw[if_pos rfl]
  rw[hmn] at HM
  clear hl hmn
  go_enter Tryz.func52,Tryz.ntmps52
  go_wp2_with fail
  refine HO.out.mono ?_
  rintro e w' ⟨rfl,rfl⟩
  go_wp2_with fail
  refine HM.out.mono ?_
  rintro e w' ⟨rfl,rfl⟩
  go_wp2
  go_ret
  exact ZlR.same HD.out (by omega) (by omega)
 | true=>
 rw[if_neg (by simp)]
 have HMN:=ZZ hmn
 rw[hmn] at HM
 clear hmn
 by_cases hroom:U+(b.length:Int)>R
 ·rw[if_pos hroom]
  clear hl
  go_enter Tryz.func52,Tryz.ntmps52
  go_wp2_with fail
  refine HO.out.mono ?_
  rintro e w' ⟨rfl,rfl⟩
  go_wp2_with fail
  refine HM.out.mono ?_
  rintro e w' ⟨rfl,rfl⟩
  go_upto_region 5 with fail
  go_quiet(fail)
  go_wp2
  go_ret
  exact ZlR.drew HD.out (by omega) (by omega) _
 rw[if_neg hroom]
 have hroom':decide (U+(b.length:Int)>R)=false:=decide_eq_false hroom
 have hroom2:U+(b.length:Int)<=R:=by omega
 cases ho:look (ZbW d) n with
 | some f=>
  clear hl
  dsimp only
  have HLK:=ZZ ho
  clear ho
  go_enter Tryz.func52,Tryz.ntmps52
  go_wp2_with fail
  refine HO.out.mono ?_
  rintro e w' ⟨rfl,rfl⟩
  go_wp2_with fail
  refine HM.out.mono ?_
  rintro e w' ⟨rfl,rfl⟩
  go_upto_region 5 with fail
  go_cut[17] (fun v wc=>v=.bool false∧Hid (∃ q,wc=w'.drewN q))
  case first=>
   go_quiet(fail)
   go_wp2
   go_meet
   exact⟨rfl,ZZ ⟨_,rfl⟩⟩
  case rest=>
   obtain⟨W,rfl⟩:∃ W,W=wc:=⟨_,rfl⟩
   obtain⟨rfl,hw⟩:=hcut
   obtain⟨w,rfl⟩:∃ w0,w0=w':=⟨_,rfl⟩
   obtain⟨q,hq⟩:=hw.out
   have H0:Hid (ZaZ F W p L d U N):=ZZ (by rw[hq,HU.out];exact H.out.keep (fun _ _=>rfl) zL)
   have HON0:Hid (ZaE F w W):=ZZ (by rw[hq];exact(ZaE.refl _ _).drewN q)
   have HRD0:Hid (Rd W (.slice ao b.length cap) b):=ZZ (by rw[hq];exact HRD.out.below (Zaz (Below.refl _ _) q) zL)
   clear hw hq c0 c1 c2 hroom hroom' H HRD HO HM HD
   obtain⟨⟨-,-,c2,-,-,-⟩,-⟩:=H0.out.cells
   have hl:=H0.out.rest.now.look hn
   rw[HLK.out] at hl
   have hl':(Instr.lookup 65 (.map (some L.now)) (.int .i64 n) true).run Tryz.prog W=.ok (.tuple #[.pointer (some ⟨L.ps f,0,none⟩),.bool true]) W:=hl
   have hf:f<d.files.length:=(HOK.out.dir.mayOf HLK.out).2
   have HLK1:=HLK
   have H1:=H0
   have HU1:=HU
   have HOK1:=HOK
   have HBN1:=HBN
   have HI1:=HI
   have HGR1:Hid (∀ k,F k->F k∨w.heap.size<=k):=ZZ (fun k hk=>.inl hk)
   have HON1:=HON0
   have HRD1:=HRD0
   clear hl H0 HON0 HRD0
   go_upto_region 11 with fail
   clear hl' c2
   obtain⟨g0,y0⟩:=(H1.out.rest.file f hf).box.cell 0 rfl
   have HOW:=ZZ (H1.out.rest.file f hf).own
   have hbx:=ZZ (H1.out.rest.file f hf).box
   obtain⟨va,vc,hvs⟩:=(H1.out.rest.file f hf).own.shape
   rw[hvs] at g0
   have HVS:=ZZ hvs
   have HLIM:Hid ((fl d.files f).b.length+b.length<=70368744177664):=ZZ (by have:=HBN1.out.bytes _ (Zgk hf);omega)
   clear hvs
   go_wp2_with(at_builtin;refine(fun(h:True->_)=>h trivial) ?_)
   intro _
   rw[<-HVS.out]
   refine Zel W rfl _ _ rfl (L.vs f) _ rfl HOW.out _ b rfl HRD1.out HLIM.out ?_
   intro v' w2 ho2 hg2 hl2
   obtain⟨hd2,hon2⟩:=H1.out.grow hf ho2 hg2 hl2
   have HD2:=ZZ hd2
   have HON2:=ZZ hon2
   have hne:(L.vs f).ownBlock≠some (L.ps f):=fun e=>by
    obtain⟨cs',hb'⟩:=Zek HOW.out e
    exact(hbx.out.ne hb' (by decide)) rfl
   obtain⟨g2,y2⟩:=(hbx.out.keep (hg2.block _ hbx.out.lt (fun e=>hne e.symm))).cell 0 rfl
   rw[HVS.out] at g2
   obtain⟨va',vc',hvs'⟩:=ho2.shape
   rw[hvs'] at HD2 HON2 ⊢
   obtain⟨W3,hW3⟩:∃ W3,W3=w2.setCell ⟨L.ps f,0,none⟩ (.slice va' ((fl d.files f).b++b).length vc'):=⟨_,rfl⟩
   have HW3:=ZZ hW3
   obtain⟨M,hM⟩:∃ M,M=((fl d.files f).b++b).length:=⟨_,rfl⟩
   rw[<-hW3] at HD2 HON2
   rw[<-hM]
   rw[<-hM] at HW3
   clear ho2 hg2 hl2 hd2 hon2 hne hvs' hW3 hM g0 y0
   go_upto_region 12 with fail
   rw[<-HW3.out]
   clear HW3 g2 y2
   obtain⟨⟨-,k1,-,-,-,-⟩,j1,-⟩:=HD2.out.cells
   obtain⟨W4,hW4⟩:∃ W4,W4=W3.setCell ⟨p,1,none⟩ (.int .i64 (U+(b.length:Int))):=⟨_,rfl⟩
   have HD3:=ZZ (HD2.out.setHead 1 (.int .i64 (U+(b.length:Int))) (d':={ d with files:=ZfM d.files f b }) (u':=U+(b.length:Int)) ⟨rfl,rfl,rfl⟩ rfl)
   have HON3:Hid (ZaE F w W4):=ZZ (by
    rw[hW4]
    exact(HON1.out.trans HON2.out (fun k hk hf=>(HGR1.out k hf).resolve_right (by omega))).setCell 1 (fun hlt=>((HGR1.out p H1.out.fh).resolve_right (by omega))) _)
   rw[<-hW4] at HD3
   have HW4:=ZZ hW4
   clear hW4
   go_upto_region 13 with fail
   rw[<-HW4.out]
   clear HW4 k1 j1
   go_wp2_with fail
   refine(Ziq W4 HD3.out HI1.out.2).mono ?_
   rintro e W5 ⟨rfl,hd5,hon5⟩
   go_wp2
   go_ret
   refine ZlR.appended HOK1.out HBN1.out HI1.out HLK1.out (by rw[<-HU1.out];exact hd5) ((HON3.out.trans hon5 (fun k hk hf=>?_))) (fun k hk=>?_) (by omega)
   ·rcases hf with hf | hf
    ·exact(HGR1.out k hf).resolve_right (by omega)
    ·have:=HON1.out.size;omega
   ·rcases hk with hk | hk
    ·exact HGR1.out k hk
    ·have:=HON1.out.size;exact .inr (by omega)
 | none=>
  clear hl
  dsimp only
  have HLK:=ZZ ho
  clear ho
  go_enter Tryz.func52,Tryz.ntmps52
  go_wp2_with fail
  refine HO.out.mono ?_
  rintro e w' ⟨rfl,rfl⟩
  go_wp2_with fail
  refine HM.out.mono ?_
  rintro e w' ⟨rfl,rfl⟩
  go_upto_region 5 with fail
  go_cut[17] (fun v wc=>v=.bool false∧Hid (∃ q,wc=w'.drewN q))
  case first=>
   go_quiet(fail)
   go_wp2
   go_meet
   exact⟨rfl,ZZ ⟨_,rfl⟩⟩
  case rest=>
   obtain⟨W,rfl⟩:∃ W,W=wc:=⟨_,rfl⟩
   obtain⟨rfl,hw⟩:=hcut
   obtain⟨w,rfl⟩:∃ w0,w0=w':=⟨_,rfl⟩
   obtain⟨q,hq⟩:=hw.out
   have H0:Hid (ZaZ F W p L d U N):=ZZ (by rw[hq,HU.out];exact H.out.keep (fun _ _=>rfl) zL)
   have HON0:Hid (ZaE F w W):=ZZ (by rw[hq];exact(ZaE.refl _ _).drewN q)
   have HRD0:Hid (Rd W (.slice ao b.length cap) b):=ZZ (by rw[hq];exact HRD.out.below (Zaz (Below.refl _ _) q) zL)
   clear hw hq c0 c1 c2 hroom hroom' H HRD HO HM HD
   obtain⟨⟨-,-,c2,-,-,-⟩,-⟩:=H0.out.cells
   have hl:=H0.out.rest.now.look hn
   rw[HLK.out] at hl
   have hl':(Instr.lookup 65 (.map (some L.now)) (.int .i64 n) true).run Tryz.prog W=.ok (.tuple #[.pointer none,.bool false]) W:=hl
   have HFR:=ZZ (H0.out.addFile HOK.out)
   have HONF:=ZZ (HON0.out.alloc (.cells #[.slice none 0 0,.int .i64 0] 117))
   have HRDF:Hid (Rd (W.alloc (.cells #[.slice none 0 0,.int .i64 0] 117)) (.slice ao b.length cap) b):=ZZ (HRD0.out.below ((Below.refl _ _).alloc zL _) zL)
   have HSZ:Hid (w.heap.size<=W.heap.size):=ZZ HON0.out.size
   have HWZ:Hid (W.heap.size<(W.alloc (.cells #[.slice none 0 0,.int .i64 0] 117)).heap.size):=ZZ (by simp)
   obtain⟨WA,hWA⟩:∃ WA,WA=W.alloc (.cells #[.slice none 0 0,.int .i64 0] 117):=⟨_,rfl⟩
   rw[<-hWA] at HFR HONF HRDF HWZ
   have HWA:=ZZ hWA
   have HO:=HLK
   clear hWA hl
   go_upto_region 10 with fail
   rw[<-HWA.out]
   clear HWA hl' c2
   go_wp2_with fail
   refine(ZvQ n W.heap.size WA).mono ?_
   rintro e WB ⟨rfl,hWB⟩
   have hbB:Below WA.heap.size WA WB:=by rw[hWB];exact((Below.refl _ _).alloc zL _).alloc (by simp) _
   have hsB:WB.heap.size=WA.heap.size+1+1:=by rw[hWB];simp
   have hc1:Bk 3 WB WA.heap.size #[.int .i64 n]:=by rw[hWB];exact(Below.heap_alloc _ _ _ (by simp)).trans (heap_alloc_new WA _)
   have hc2:Bk 115 WB (WA.heap.size+1) #[ptr W.heap.size]:=by
    have e1:WA.heap.size+1=(WA.alloc (.cells #[.int .i64 n] 3)).heap.size:=by simp
    rw[hWB,e1]
    exact heap_alloc_new _ _
   have HDB:=ZZ (HFR.out.more hbB)
   obtain⟨FB,hFB⟩:∃ FB,FB=Gr (Gr F W WA) WA WB:=⟨_,rfl⟩
   rw[<-hFB] at HDB
   obtain⟨LB,hLB⟩:∃ LB:Lay,LB={ L with ps:=fun i=>if i=d.files.length then W.heap.size else L.ps i,vs:=fun i=>if i=d.files.length then .slice none 0 0 else L.vs i }:=⟨_,rfl⟩
   have hps:LB.ps d.files.length=W.heap.size:=by rw[hLB];exact if_pos rfl
   rw[<-hLB] at HDB
   have HCV:Hid (ChV FB WB LB.ps (.give n d.files.length) (.func (.func 139) #[] #[ptr (WA.heap.size+1),ptr WA.heap.size])):=ZZ ⟨_,_,rfl,hc1,by rw[hps];exact hc2,by rw[hFB];exact .inr ⟨Nat.le_refl _,by omega⟩,by rw[hFB];exact .inr ⟨by omega,by omega⟩⟩
   have HFRB:Hid (∀ k,FB k->F k∨w.heap.size<=k):=ZZ (fun k hk=>by
    rw[hFB] at hk
    have h1:=HSZ.out
    have h2:=HWZ.out
    rcases hk with (hk | hk) | hk
    ·exact .inl hk
    ·exact .inr (by omega)
    ·exact .inr (by omega))
   have HONB:Hid (ZaE F w WB):=ZZ (HONF.out.trans (G:=fun _=>False) (ZaE.ofBelow hbB) (fun _ _ hf=>hf.elim))
   have HRDB:Hid (Rd WB (.slice ao b.length cap) b):=ZZ (HRDF.out.below hbB zL)
   have HPS:=ZZ hps
   have HOKF:Hid (OkD { d with files:=d.files++[⟨[],0⟩] }):=ZZ ⟨fun k=>(HOK.out.dirs k).more (by simp),fun c hc=>(HOK.out.chs c hc).more (by simp),fun x hx=>by
    rcases List.mem_append.1 hx with hx | hx
    ·exact HOK.out.keep x hx
    ·rw[List.mem_singleton.1 hx];exact Nat.le_refl _⟩
   have HAP:=ZZ (ZtM WB HDB.out HCV.out HOKF.out ⟨HMN.out,by simp⟩ hN (by have:=HBN.out.names;show d.waits.length<=1000000;omega))
   clear hbB hsB hc1 hc2 hFB hLB hps hWB
   go_wp2_with fail
   refine HAP.out.mono ?_
   rintro e WC ⟨rfl,LC,hdc,hpsc,-,honc⟩
   have HLK1:Hid (look (ZbW (ZbL d n)) n=some d.files.length):=ZZ (ZkO HOK.out n)
   have H1:Hid (ZaZ (Gr FB WB WC) WC p LC (ZbL d n) U (N+1)):=ZZ hdc
   have HU1:Hid (U=(ZcB (ZbL d n):Int)):=ZZ (by rw[Zji HOK.out HO.out];exact HU.out)
   have HOK1:Hid (OkD (ZbL d n)):=ZZ (HOK.out.fresh HMN.out)
   have HBN1:Hid (Bnd (ZbL d n) (N+1) T):=ZZ (HBN.out.fresh n)
   have HI1:Hid (I64 (ZbL d n).room∧I64 (ZbL d n).power):=ZZ HI.out
   have HGR1:Hid (∀ k,Gr FB WB WC k->F k∨w.heap.size<=k):=ZZ (fun k hk=>by
    rcases hk with hk | hk
    ·exact HFRB.out k hk
    ·have:=HONB.out.size;exact .inr (by omega))
   have HON1:Hid (ZaE F w WC):=ZZ (HONB.out.trans honc (fun k hk hf=>(HFRB.out k hf).resolve_right (by omega)))
   have HRD1:Hid (Rd WC (.slice ao b.length cap) b):=ZZ (HRDB.out.onlyN (B:=w.heap.size) honc HFRB.out HV.out HBL.out)
   have hf:d.files.length<(ZbL d n).files.length:=by simp[ZbL]
   have hpc:LC.ps d.files.length=W.heap.size:=by rw[hpsc];exact HPS.out
   rw[<-hpc]
   clear hdc hpsc honc hpc HAP HCV HDB HFRB HONB HRDB HPS HOKF HFR HONF HRDF HSZ HWZ HO H0 HON0 HRD0 HOK HBN HI HU hn HMN
   go_upto_region 11 with fail
   obtain⟨g0,y0⟩:=(H1.out.rest.file d.files.length hf).box.cell 0 rfl
   have HOW:=ZZ (H1.out.rest.file d.files.length hf).own
   have hbx:=ZZ (H1.out.rest.file d.files.length hf).box
   obtain⟨va,vc,hvs⟩:=(H1.out.rest.file d.files.length hf).own.shape
   rw[hvs] at g0
   have HVS:=ZZ hvs
   have HLIM:Hid ((fl (ZbL d n).files d.files.length).b.length+b.length<=70368744177664):=ZZ (by have:=HBN1.out.bytes _ (Zgk hf);omega)
   clear hvs
   go_wp2_with(at_builtin;refine(fun(h:True->_)=>h trivial) ?_)
   intro _
   rw[<-HVS.out]
   refine Zel WC rfl _ _ rfl (LC.vs d.files.length) _ rfl HOW.out _ b rfl HRD1.out HLIM.out ?_
   intro v' w2 ho2 hg2 hl2
   obtain⟨hd2,hon2⟩:=H1.out.grow hf ho2 hg2 hl2
   have HD2:=ZZ hd2
   have HON2:=ZZ hon2
   have hne:(LC.vs d.files.length).ownBlock≠some (LC.ps d.files.length):=fun e=>by
    obtain⟨cs',hb'⟩:=Zek HOW.out e
    exact(hbx.out.ne hb' (by decide)) rfl
   obtain⟨g2,y2⟩:=(hbx.out.keep (hg2.block _ hbx.out.lt (fun e=>hne e.symm))).cell 0 rfl
   rw[HVS.out] at g2
   obtain⟨va',vc',hvs'⟩:=ho2.shape
   rw[hvs'] at HD2 HON2 ⊢
   obtain⟨W3,hW3⟩:∃ W3,W3=w2.setCell ⟨LC.ps d.files.length,0,none⟩ (.slice va' ((fl (ZbL d n).files d.files.length).b++b).length vc'):=⟨_,rfl⟩
   have HW3:=ZZ hW3
   obtain⟨M,hM⟩:∃ M,M=((fl (ZbL d n).files d.files.length).b++b).length:=⟨_,rfl⟩
   rw[<-hW3] at HD2 HON2
   rw[<-hM]
   rw[<-hM] at HW3
   clear ho2 hg2 hl2 hd2 hon2 hne hvs' hW3 hM g0 y0
   go_upto_region 12 with fail
   rw[<-HW3.out]
   clear HW3 g2 y2
   obtain⟨⟨-,k1,-,-,-,-⟩,j1,-⟩:=HD2.out.cells
   obtain⟨W4,hW4⟩:∃ W4,W4=W3.setCell ⟨p,1,none⟩ (.int .i64 (U+(b.length:Int))):=⟨_,rfl⟩
   have HD3:=ZZ (HD2.out.setHead 1 (.int .i64 (U+(b.length:Int))) (d':={ (ZbL d n) with files:=ZfM (ZbL d n).files d.files.length b }) (u':=U+(b.length:Int)) ⟨rfl,rfl,rfl⟩ rfl)
   have HON3:Hid (ZaE F w W4):=ZZ (by
    rw[hW4]
    exact(HON1.out.trans HON2.out (fun k hk hf=>(HGR1.out k hf).resolve_right (by omega))).setCell 1 (fun hlt=>((HGR1.out p H1.out.fh).resolve_right (by omega))) _)
   rw[<-hW4] at HD3
   have HW4:=ZZ hW4
   clear hW4
   go_upto_region 13 with fail
   rw[<-HW4.out]
   clear HW4 k1 j1
   go_wp2_with fail
   refine(Ziq W4 HD3.out HI1.out.2).mono ?_
   rintro e W5 ⟨rfl,hd5,hon5⟩
   go_wp2
   go_ret
   refine ZlR.appended HOK1.out HBN1.out HI1.out HLK1.out (by rw[<-HU1.out];exact hd5) ((HON3.out.trans hon5 (fun k hk hf=>?_))) (fun k hk=>?_) (by omega)
   ·rcases hf with hf | hf
    ·exact(HGR1.out k hf).resolve_right (by omega)
    ·have:=HON1.out.size;omega
   ·rcases hk with hk | hk
    ·exact HGR1.out k hk
    ·have:=HON1.out.size;exact .inr (by omega)
theorem Own.nil (w:World) (B:Nat):Own w B (.slice none 0 0) []:=World.ownsRow_nil w B 5 1
theorem ZlT (w:World) (ty:TypeId) (B:Nat) (v:Value) (l0:List UInt8) (hown:Own w B v l0) (vx:Value) (l:List UInt8) (hr:Rd w vx l)
 (hlim:l0.length+l.length<=70368744177664) (hbase:B<=w.heap.size):
 ∃ v' w',(Builtin.append_ #[53,53] ty #[v,vx]).run Tryz.prog w=.ok v' w'∧Own w' B v' (l0++l)∧Below B w w':=by
 obtain⟨i0,hi,hz0,hz1,hz2⟩:=info_parts ZlG
 obtain⟨ao,cap,rfl,hlc,hcm,hn0,hao⟩:=hr
 cases ao with
 | none=>
  have hc:=hn0 rfl
  subst hc
  have hl:l=[]:=List.eq_nil_of_length_eq_zero (by omega)
  subst hl
  have hrun:=run_append_owned_none (P:=Tryz.prog) w B 53 ty 5 i0 1 Tryz.underlying53 hi v l0.length (Lib.byteCells l0) hown
  exact⟨v,w,hrun,by rw[List.append_nil];exact hown,Below.refl _ _⟩
 | some a=>
  obtain⟨v',w',hrun,ho,hg,_⟩:=run_append_own (P:=Tryz.prog) w B 53 ty 5 i0 (.int .u8 0) 1 1 Tryz.underlying53 hi hz0 hz1 hz2 rfl (by decide) v l0.length (Lib.byteCells l0) hown a l.length cap (Lib.byteCells l)
   (by rw[Zbg,Nat.mul_one]) (Rd.cells hao a rfl) (ZcZ l) (by unfold maxLen;omega) (by omega) hbase
  refine⟨v',w',hrun,Own.mk' ho (by simp) (by simp[Lib.byteCells]),?_⟩
  exact(Below.refl _ _).grown hg hbase (fun k hk=>(World.ownsRow.lt hown k hk).1)
theorem Znj {o:Oper} {a:Act} {K:Act->World->Prop} {Q:Exit->Act->World->Prop} (w:World) (s x:Operand)
 (ho:o.op=.call { callee:=.builtin .append,args:=#[s,x],argTypes:=#[53,53] })
 (B:Nat) (v:Value) (l0:List UInt8) (hs:a.eval s=v) (hown:Own w B v l0) (vx:Value) (l:List UInt8) (hx:a.eval x=vx) (hr:Rd w vx l)
 (hlim:l0.length+l.length<=70368744177664) (hbase:B<=w.heap.size)
 (h:∀ v' w',Own w' B v' (l0++l)->Below B w w'->K (a.put o.dst v') w'):o.wp Tryz.prog a w K Q:=by
 obtain⟨v',w',hrun,h2,h3⟩:=ZlT w o.type B v l0 hown vx l hr hlim hbase
 unfold Oper.wp execOp
 simp only [ho,resolve,invoke,builtin,Sem.run_bind,Sem.run_pure,Result.andThen_ok,List.map_toArray,List.map_cons,List.map_nil,hs,hx,hrun]
 exact h v' w' h2 h3
theorem ZaK (w:World) {ops:Array Oper} {rest:List Oper} {o:Oper} {a:Act} {Q:Exit->Act->World->Prop} (hgd:o.guard=none) (s x:Operand)
 (ho:o.op=.call { callee:=.builtin .append,args:=#[s,x],argTypes:=#[53,53] })
 (B:Nat) (v:Value) (l0:List UInt8) (hs:a.eval s=v) (hown:Own w B v l0) (vx:Value) (l:List UInt8) (hx:a.eval x=vx) (hr:Rd w vx l)
 (hlim:l0.length+l.length<=70368744177664) (hbase:B<=w.heap.size)
 (h:∀ v' w',Own w' B v' (l0++l)->Below B w w'->wpList Tryz.prog ops Q rest (a.put o.dst v') w'):wpList Tryz.prog ops Q (o::rest) a w:=
 wpList_plain hgd fun _ hK=>Znj w s x ho B v l0 hs hown vx l hx hr hlim hbase fun v' w' h2 h3=>hK _ _ (h v' w' h2 h3)
theorem ZvS (w:World) (B:Nat) (hB:B<=w.heap.size):Own (w.alloc (.cells #[] 5)) B (.slice (some ⟨w.heap.size,0,none⟩) 0 0) []:=
 ⟨rfl,.inr ⟨w.heap.size,0,#[],rfl,hB,heap_alloc_new w _,Nat.le_refl _,Nat.zero_le _,rfl,rfl⟩⟩
theorem Zry (v:Value) (l:List UInt8) (w:World) (hr:Rd w v l) (hlim:l.length<=70368744177664):
 Calls Tryz.prog 113 #[v] w fun e w'=>∃ v',e=.returned v'∧Own w' w.heap.size v' l∧Below w.heap.size w w':=by
 have HR:=ZZ hr
 obtain⟨ao,cap,rfl,hlc,hcm,hn0,hao⟩:=hr
 cases ao with
 | none=>
  have hc:=hn0 rfl
  have hl:l=[]:=List.eq_nil_of_length_eq_zero (by omega)
  subst hl
  subst hc
  clear hao hn0
  have hnil:∀ w,(binOp .eql 53 (.slice none 0 0) (.slice none 0 0)).run Tryz.prog w=.ok (.bool true) w:=fun w=>run_eql_slice_nil w _ _ none 0 0 Tryz.underlying53
  go_enter Tryz.func113,Tryz.ntmps113
  go_wp2
  go_ret
  exact⟨_,rfl,Own.nil _ _,Below.refl _ _⟩
 | some ad=>
  clear hao hn0 hlc hcm
  have hnil:∀ w,(binOp .eql 53 (.slice (some ad) l.length cap) (.slice none 0 0)).run Tryz.prog w=.ok (.bool false) w:=fun w=>run_eql_slice_nil w _ _ (some ad) _ _ Tryz.underlying53
  have HO:=ZZ (ZvS w w.heap.size zL)
  have HB:=ZZ ((Below.refl w.heap.size w).alloc zL (.cells #[] 5))
  have HR1:=ZZ (HR.out.below HB.out zL)
  have HS:Hid (w.heap.size<=(w.alloc (.cells #[] 5)).heap.size):=HB.out.size
  go_enter Tryz.func113,Tryz.ntmps113
  go_wp2_with(at_builtin;refine ZaK _ rfl _ _ rfl w.heap.size _ [] rfl HO.out _ l rfl HR1.out (by simp;omega) HS.out ?_)
  intro v4 w4 ho4 hb4
  have HO4:=ZZ ho4
  have HB4:=ZZ (HB.out.trans hb4)
  clear ho4 hb4
  go_wp2
  go_ret
  exact⟨v4,rfl,HO4.out,HB4.out⟩
theorem Znk {F:Nat->Prop} {p:Nat} {d:Dk} {N T:Nat} (n:Int) (hn:I64 n) (w:World) (h:Dsk F w p d N T) (hT:T<=1000000000):
 Calls Tryz.prog 75 #[ptr p,.int .i64 n] w fun e w'=>∃ v,e=.returned (.tuple #[v,.int .i64 (Zcv d n).2])∧Own w' w.heap.size v (Zcv d n).1∧Below w.heap.size w w':=by
 obtain⟨L,h,hok,hbn,-,-⟩:=h
 have HF:=ZZ (ZqJ n hn w h)
 have H:=ZZ h
 have HOK:=ZZ hok
 have HBN:=ZZ hbn
 clear h hok hbn
 unfold Zcv
 by_cases h0:d.power=0
 ·rw[if_pos h0]
  rw[if_pos h0,if_pos h0] at HF
  clear h0
  go_enter Tryz.func75,Tryz.ntmps75
  go_wp2_with fail
  refine HF.out.mono ?_
  rintro e w' ⟨rfl,rfl⟩
  go_wp2
  go_ret2
  exact⟨_,rfl,Own.nil _ _,Below.refl _ _⟩
 rw[if_neg h0]
 rw[if_neg h0,if_neg h0] at HF
 clear h0
 cases ho:look (ZbW d) n with
 | none=>
  rw[ho] at HF
  dsimp only [Option.map_none,Option.isSome_none,Bool.false_eq_true,if_false,ZvO] at HF ⊢
  clear ho
  go_enter Tryz.func75,Tryz.ntmps75
  go_wp2_with fail
  refine HF.out.mono ?_
  rintro e w' ⟨rfl,rfl⟩
  go_wp2
  go_ret2
  exact⟨_,rfl,Own.nil _ _,Below.refl _ _⟩
 | some f=>
  rw[ho] at HF
  dsimp only [Option.map_some,Option.isSome_some,if_true,ZvO] at HF ⊢
  have hf:f<d.files.length:=(HOK.out.dir.mayOf ho).2
  obtain⟨c0,-⟩:=(H.out.rest.file f hf).box.cell 0 rfl
  have HRD:=ZZ (H.out.rest.file f hf).own.rd
  have HC:=ZZ (Zry _ _ w HRD.out (by have:=HBN.out.bytes _ (Zgk hf);omega))
  obtain⟨va,vc,hvs⟩:=(H.out.rest.file f hf).own.shape
  rw[hvs] at c0 HC
  clear ho hf hvs hT hn
  go_enter Tryz.func75,Tryz.ntmps75
  go_wp2_with fail
  refine HF.out.mono ?_
  rintro e w' ⟨rfl,rfl⟩
  go_wp2_with fail
  refine HC.out.mono ?_
  rintro e w1 ⟨v1,rfl,ho1,hb1⟩
  go_wp2
  go_ret2
  exact⟨_,rfl,ho1,hb1⟩
theorem ZvT {F:Nat->Prop} {p:Nat} {d:Dk} {N T:Nat} (n:Int) (hn:I64 n) (w:World) (h:Dsk F w p d N T):
 Calls Tryz.prog 59 #[ptr p,.int .i64 n] w fun e w'=>ZlR F w p (ZdX d n).1 (ZdX d n).2 (N+2) T e w':=by
 have HD:=ZZ h
 obtain⟨L,h,hok,hbn,hrm,hpw⟩:=h
 have HF:=ZZ (ZqJ n hn w h)
 have H:=ZZ h
 have HOK:=ZZ hok
 have HBN:=ZZ hbn
 have HI:=ZZ (And.intro hrm hpw)
 clear h hok hbn hrm hpw
 unfold ZdX
 by_cases h0:d.power=0
 ·rw[if_pos h0]
  rw[if_pos h0,if_pos h0] at HF
  clear h0
  go_enter Tryz.func59,Tryz.ntmps59
  go_wp2_with fail
  refine HF.out.mono ?_
  rintro e w' ⟨rfl,rfl⟩
  go_wp2
  go_ret
  exact ZlR.same HD.out (by omega) zL
 rw[if_neg h0]
 rw[if_neg h0,if_neg h0] at HF
 clear h0
 cases ho:look (ZbW d) n with
 | none=>
  rw[ho] at HF
  dsimp only [Option.map_none,Option.isSome_none,Bool.false_eq_true,if_false,ZvO] at HF ⊢
  clear ho
  go_enter Tryz.func59,Tryz.ntmps59
  go_wp2_with fail
  refine HF.out.mono ?_
  rintro e w' ⟨rfl,rfl⟩
  go_wp2
  go_ret
  exact ZlR.same HD.out (by omega) zL
 | some f=>
  rw[ho] at HF
  dsimp only [Option.map_some,Option.isSome_some,if_true,ZvO] at HF ⊢
  have HLK:=ZZ ho
  have hf:f<d.files.length:=(HOK.out.dir.mayOf ho).2
  have HX:=ZZ (H.out.rest.file f hf)
  obtain⟨c0,-⟩:=(H.out.rest.file f hf).box.cell 0 rfl
  obtain⟨c1,f1⟩:=(H.out.rest.file f hf).box.cell 1 rfl
  have HD1:Hid (ZaZ F (w.setCell ⟨L.ps f,1,none⟩ (.int .i64 ((fl d.files f).b.length:Int))) p { L with vs:=fun i=>if i=f then L.vs f else L.vs i } { d with files:=Zfu d.files f } (ZcB d) N):=ZZ (H.out.setFile (F':=F) (v':=L.vs f) (x':=⟨(fl d.files f).b,(fl d.files f).b.length⟩) hf (fun k _ h1 _=>Below.heap_setCell _ _ _ _ h1) ⟨HX.out.box.set 1 _,Zah HX.out.own fun g hg=>Below.heap_setCell _ _ _ _ (by
   obtain⟨cs',hb'⟩:=Zek HX.out.own hg
   exact hb'.ne HX.out.box (by decide))⟩ (.inl rfl) (fun _ hk=>hk) (fun g hg=>H.out.rest.fv f hf g hg) (fun k hk=>by simpa using H.out.lt k hk))
  have HON1:Hid (ZaE F w (w.setCell ⟨L.ps f,1,none⟩ (.int .i64 ((fl d.files f).b.length:Int)))):=ZZ ((ZaE.refl _ _).setCell 1 (fun _=>H.out.rest.fp f hf) _)
  obtain⟨va,vc,hvs⟩:=HX.out.own.shape
  rw[hvs] at c0
  obtain⟨W1,hW1⟩:∃ W1,W1=w.setCell ⟨L.ps f,1,none⟩ (.int .i64 ((fl d.files f).b.length:Int)):=⟨_,rfl⟩
  rw[<-hW1] at HD1 HON1
  have HW1:=ZZ hW1
  clear ho hf hvs hn hW1
  go_enter Tryz.func59,Tryz.ntmps59
  go_wp2_with fail
  refine HF.out.mono ?_
  rintro e w' ⟨rfl,rfl⟩
  go_upto_region 5 with fail
  rw[<-HW1.out]
  clear HW1 c0 c1 f1
  go_wp2_with fail
  refine(Ziq W1 HD1.out HI.out.2).mono ?_
  rintro e W5 ⟨rfl,hd5,hon5⟩
  go_wp2
  go_ret
  refine⟨rfl,F,⟨{ L with vs:=fun i=>if i=f then L.vs f else L.vs i },?_,?_,⟨?_,?_,?_⟩,HI.out.1,ZlS HI.out.2⟩,HON1.out.trans hon5 (fun _ _ hf=>hf),fun _ hk=>.inl hk⟩
  ·rw[ZkW HOK.out HLK.out]
   exact hd5.mono (by omega)
  ·exact HOK.out.bytes (by simp[Zfu]) (ZlD HOK.out.keep _ zL)
  ·have:=HBN.out.files
   show(Zfu d.files f).length<=_
   simp[Zfu]
   omega
  ·have:=HBN.out.names
   show d.kept.length+d.waits.length<=_
   omega
  ·intro x hx
   rcases List.mem_or_eq_of_mem_set hx with hx | rfl
   ·exact HBN.out.bytes x hx
   ·have:=HBN.out.bytes _ (Zgk (HOK.out.dir.mayOf HLK.out).2)
    exact this
open Go.RowKit Go.ChangeShapes
theorem Zjj:Tryz.prog.cellsOf 3=1:=by kernel_rfl
theorem Zrz:Tryz.prog.cellsOf 23=1:=by kernel_rfl
theorem ZbO {n:Int} (h:(Lit.int .i64 n).wf=true):I64 n:=by
 simpa[I64,Lit.wf,IntKind.min,IntKind.max,IntKind.signed,IntKind.bits] using h
section
variable {H:Type} {enc:TypeId × Value->H} {w:World} {base fuel:Nat} {held:Bool}
theorem ZvU {cs:List Value} {x:DataW H × List MemPlace} (h:DataW.trod enc Tryz.prog w base (fun _=>true) held fuel 23 cs=some x):∃ v l,cs=[v]∧RdI w v l:=by
 rcases open_ints Tryz.underlying23 Tryz.underlying3 (by kernel_rfl) h with ⟨hcs,_⟩ | ⟨y,l,c,zs,hcs,_,hl,hm,hz,_,hcell,hwz⟩
 ·exact⟨_,[],hcs,RdI.nil _⟩
 ·exact⟨_,_,hcs,RdI.ofRow hl hm (by simpa using hz) hcell hwz⟩
end
open Go.RowKit Go.Maps Go.Shelf
theorem ZtR {B:Nat} {v:Value} {l:List Int} (w:World) (h:Zax w B v l) (hl:l.length<=10000000):
 Calls Tryz.prog 67 #[v] w fun e w'=>e=.returned (.tuple #[])∧Zax w' B v (l.mergeSort fun x y=>decide (x<=y))∧w.grownBy w' v.ownBlock:=by
 have h0:=h
 have hg0:w.grownBy w v.ownBlock:=⟨rfl,rfl,rfl,Nat.le_refl _,fun _ _ _=>rfl⟩
 rcases h.2 with ⟨rfl,hn⟩ | ⟨g,cap,cur,rfl,hb,hg,hnc,hcm,hcs,ht⟩
 ·have e:l=[]:=List.eq_nil_of_length_eq_zero hn
  subst e
  have hc:=Any.slices_Sort_int_none Zzd none 0 w
  refine hc.mono ?_
  rintro e w' ⟨rfl,rfl⟩
  exact⟨rfl,by simpa using h0,hg0⟩
 ·by_cases e:l=[]
  ·subst e
   have hc:=Any.slices_Sort_int_none Zzd (some ⟨g,0,none⟩) cap w
   refine hc.mono ?_
   rintro e w' ⟨rfl,rfl⟩
   exact⟨rfl,by simpa using h0,hg0⟩
  ·have hH:Sort.Holds (Value.int .i64) w g 0 l.toArray:=holds_of_blockI hg (by rw[Nat.mul_one] at ht;exact ht)
   have hc:=Any.slices_Sort_int Zzd g 0 cap l w hH (Array.getElem?_eq_some_iff.1 hg).1 (by omega)
   refine hc.mono ?_
   rintro e w' ⟨rfl,n,os,rfl⟩
   refine⟨rfl,?_,grownBy_sortedI _⟩
   have ho:=ownsRow_sortedI (n:=n) (os:=os) (ss:=l) (ts:=l.mergeSort fun x y=>decide (x<=y)) (by simp) hb hg hnc hcm hcs
   unfold Zax
   rw[show(l.mergeSort fun x y=>decide (x<=y)).length=l.length by simp]
   exact ho
structure Met (f:Int->Option Nat) (left:Lit->Bool) (l:List Int):Prop where
 mem:∀ p,I64 p->(p ∈ l↔(f p).isSome=true∧left (.int .i64 p)=false)
 nd:l.Nodup
 i:∀ p ∈ l,I64 p
theorem Met.step {f:Int->Option Nat} {left:Lit->Bool} {l:List Int} (h:Met f left l) {x:Int} (hx:I64 x) (hl:left (.int .i64 x)=true) (hf:(f x).isSome=true):Met f (fun z=>left z && !z.sameKey (.int .i64 x)) (l++[x]):=by
 refine⟨fun p hp=>?_,?_,fun p hp=>?_⟩
 ·rw[List.mem_append,h.mem p hp,List.mem_singleton]
  by_cases e:p=x
  ·subst e
   have hs:(Lit.int .i64 p).sameKey (.int .i64 p)=true:=WideAt.sameKey_self (by first | exact trivial | simp[WideAt.IsKeyLit])
   simp[hs,hf]
  ·have hs:(Lit.int .i64 p).sameKey (.int .i64 x)=false:=sameKey_ne (by intro h;injection h with _ h;exact e h)
   simp[hs,e]
 ·rw[List.nodup_append]
  refine⟨h.nd,by simp,fun a ha b hb=>?_⟩
  rw[List.mem_singleton.1 hb]
  rintro rfl
  have:=((h.mem a hx).1 ha).2
  rw[hl] at this
  cases this
 ·rcases List.mem_append.1 hp with hp | hp
  ·exact h.i p hp
  ·rw[List.mem_singleton.1 hp];exact hx
theorem Met.done {f:Int->Option Nat} {left:Lit->Bool} {l:List Int} (h:Met f left l) (hl:∀ k,left k=false) {d:Dir} (hd:Zbw d) (hm:∀ p ∈ d,I64 p.1) (hf:∀ p,I64 p->(f p).isSome=(look d p).isSome):(l.mergeSort fun x y=>decide (x<=y))=d.map Prod.fst:=by
 have hs:(l.mergeSort fun x y=>decide (x<=y)).Pairwise (fun a b=>decide (a<=b)=true):=List.pairwise_mergeSort (fun a b c h1 h2=>by simp only [decide_eq_true_eq] at *;omega) (fun a b=>by simp only [Bool.or_eq_true,decide_eq_true_eq];omega) l
 have hp:=List.mergeSort_perm l fun x y=>decide (x<=y)
 have hnd:(l.mergeSort fun x y=>decide (x<=y)).Nodup:=hp.nodup_iff.2 h.nd
 refine ZhK ?_ (ZhJ hd) fun x=>?_
 ·refine(hs.and hnd).imp fun {a b} hab=>?_
  have h1:=of_decide_eq_true hab.1
  have h2:=hab.2
  omega
 ·rw[hp.mem_iff,List.mem_map]
  constructor
  ·intro hx
   have h1:=((h.mem x (h.i x hx)).1 hx).1
   rw[hf x (h.i x hx)] at h1
   obtain⟨y,hy⟩:=Option.isSome_iff_exists.1 h1
   exact⟨(x,y),(ZcY hd x y).1 hy,rfl⟩
  ·rintro⟨p,hpd,rfl⟩
   have hi:=hm p hpd
   have h1:look d p.1=some p.2:=(ZcY hd p.1 p.2).2 hpd
   exact(h.mem p.1 hi).2 ⟨by rw[hf p.1 hi,h1];rfl,hl _⟩
theorem Zjk {w:World} {b n:Nat} {D:DataW Unit} (h:w.ownsMap Tryz.prog 3 Zdz b n D):Maps.size D<=n:=by
 obtain⟨es,clock,hb,F,hs,rfl⟩:=h
 rw[size_eq,length_sorted]
 simpa using hs
theorem Zpe {w w':World} {b r n cnt:Nat} {D:DataW Unit} {left:Lit->Bool} (h:w.ranges Tryz.prog 3 Zdz b r n D left cnt) (hb:w'.heap[b]?=w.heap[b]?) (hr:w'.heap[r]?=w.heap[r]?):w'.ranges Tryz.prog 3 Zdz b r n D left cnt:=by
 obtain⟨es,clock,since,seen,c0,h1,F,hs,hD,h2,rest⟩:=h
 exact⟨es,clock,since,seen,c0,hb.trans h1,F,hs,hD,hr.trans h2,rest⟩
theorem Znl {F:Nat->Prop} {p:Nat} {L:Lay} {d:Dk} {u:Int} {N:Nat} (w:World) (h:ZaZ F w p L d u N) (hok:OkD d) (hN:N<=1000000):
 Calls Tryz.prog 28 #[ptr p] w fun e w'=>∃ v,e=.returned v∧Zax w' w.heap.size v ((ZbW d).map Prod.fst)∧Below w.heap.size w w':=by
 obtain⟨⟨-,-,c2,-,-,-⟩,-⟩:=h.cells
 obtain⟨D,hown,hrd⟩:=h.rest.now
 have HOW:=ZZ hown
 have HSZ:Hid (Maps.size D<=N):=ZZ (Zjk hown)
 have HLT:Hid (L.now<w.heap.size):=ZZ h.rest.now.lt
 have HRD:Hid (∀ q,I64 q->Maps.has D (.int .i64 q)=(look (ZbW d) q).isSome):=ZZ (fun q hq=>by rw[hrd.has hq];cases look (ZbW d) q <;> rfl)
 have HDN:Hid (∀ left l,Met (look (ZbW d)) left l->(∀ k,left k=false)->(l.mergeSort fun x y=>decide (x<=y))=(ZbW d).map Prod.fst):=ZZ (fun left l hm hl=>hm.done hl hok.dir.rise (fun p hp=>Zgw (hok.dir.may p hp).1) (fun _ _=>rfl))
 clear h hown hrd hok
 go_enter Tryz.func28,Tryz.ntmps28
 go_wp2_with(first
  | (at_range;refine wpList_range_own _ rfl _ 65 rfl 3 115 Zjd Tryz.underlying65 Zdz L.now N D rfl HOW.out ?_;intro w0 hrg0 hg0 hs0)
  | go_in)
 go_frame
 go_loopw[3] (fun v wr=>∃ (left:Lit->Bool) (cnt:Nat) (l:List Int),Hid (wr.ranges Tryz.prog 3 Zdz L.now w.heap.size N D left cnt)∧cnt+l.length<=Maps.size D∧Hid (Zax wr (w.heap.size+1) v l)∧Hid (Met (look (ZbW d)) left l)∧Hid (Below w.heap.size w wr∧w.heap.size+1<=wr.heap.size))
  (fun _ wr=>wr.rangeLeft L.now w.heap.size)
 case atStart=>
  refine⟨_,_,[],ZZ hrg0,by simp,ZZ (Zax.nil _ _),ZZ ⟨fun q hq=>?_,List.nodup_nil,by simp⟩,ZZ ⟨⟨hg0.os,hg0.tape,hg0.output,hg0.size,fun k hk=>hg0.block k hk (by simp)⟩,by omega⟩⟩
  rw[HRD.out q hq]
  cases look (ZbW d) q <;> simp
 case round=>
  obtain⟨left,cnt,l,HRG,hcl,HO,HM,HB⟩:=hrel
  go_wp2_with(first
   | (at_next;refine wpList_next_ranges _ rfl _ rfl 3 Zjd Zdz (Value.int .i64) (fun b:Nat=>ptr b) (fun key kl hk=>by obtain⟨x,rfl,_⟩:=Maps.keyOf_int_inv Tryz.underlying3 hk;exact⟨x,rfl⟩) (fun v y hv=>by obtain⟨c,rfl,_⟩:=Zje hv;exact⟨c,rfl⟩) L.now w.heap.size N _ _ _ rfl HRG.out ?_ ?_)
   | go_in)
  ·intro hc0 hl0
   have HL0:=ZZ hl0
   have hll:l.length<=10000000:=by have:=HSZ.out;omega
   have HS:=ZZ (ZtR _ HO.out hll)
   clear hc0 hl0
   go_wp2_with fail
   refine HS.out.mono ?_
   rintro e W1 ⟨rfl,ho1,hg1⟩
   have HBW:Hid (Below w.heap.size w W1):=ZZ (HB.out.1.grown hg1 HB.out.1.size (fun k hk=>by have:=(World.ownsRow.lt HO.out k hk).1;omega))
   have HO1:=ZZ ho1
   clear ho1 hg1
   go_wp2
   go_ret
   refine⟨_,rfl,?_,HBW.out⟩
   rw[<-HDN.out _ _ HM.out HL0.out]
   exact HO1.out.mono (by omega)
  ·intro x c kl yd yp w1 cnt1 hkey hlx hv hat hrg1 hlt hg1 hs1 hen
   obtain⟨x',ex,rfl,hwx⟩:=Maps.keyOf_int_inv Tryz.underlying3 hkey
   cases ex
   have HI:=ZZ (ZbO hwx)
   have HF:Hid ((look (ZbW d) x).isSome=true):=ZZ (by rw[<-HRD.out x HI.out];exact has_true_of_atKey hat)
   have HM1:=ZZ (HM.out.step HI.out hlx HF.out)
   have HRG1:=ZZ hrg1
   have HO1:Hid (Zax w1 (w.heap.size+1) _ l):=ZZ (World.ownsRow.kept HO.out hg1 (.inr (fun e=>by have:=(World.ownsRow.lt HO.out _ e).1;omega)))
   have HB1:Hid (Below w.heap.size w w1∧w.heap.size+1<=w1.heap.size):=ZZ ⟨HB.out.1.grown hg1 HB.out.1.size (fun k hk=>by have:=Option.some.inj hk;omega),by have:=HB.out.2;omega⟩
   have HLTC:=ZZ hlt
   have hlim:l.length<=1000000∧cnt1+(l++[x]).length<=Maps.size D:=by
    have:=HSZ.out
    simp only [List.length_append,List.length_singleton]
    omega
   have HLM:=ZZ hlim
   clear hkey hlx hv hat hrg1 hlt hg1 hs1 hwx hlim hcl
   go_wp2_with(at_builtin;refine(fun(h:True->_)=>h trivial) ?_)
   intro _
   refine ZgZ w1 rfl _ _ rfl (w.heap.size+1) u3 l rfl HO1.out x rfl HLM.out.1 HB1.out.2 ?_
   intro v2 w2 ho2 hb2
   have HO2:=ZZ ho2
   have HRG2:=ZZ (Zpe HRG1.out (hb2.block _ (by have:=HLT.out;omega)) (hb2.block _ (by omega)))
   have HB2:Hid (Below w.heap.size w w2∧w.heap.size+1<=w2.heap.size):=ZZ ⟨HB1.out.1.trans (hb2.mono (by omega)),by have:=HB1.out.2;have:=hb2.size;omega⟩
   clear ho2 hb2
   go_wp2
   go_roundw
   case rel=>exact⟨_,cnt1,l++[x],HRG2,HLM.out.2,HO2,HM1,HB2⟩
   case measure=>rw[HRG2.out.left_eq,HRG.out.left_eq];exact HLTC.out
theorem ZaZ.synced {F:Nat->Prop} {w w1:World} {p:Nat} {L:Lay} {d:Dk} {u:Int} {N:Nat} (h:ZaZ F w p L d u N) (hb:Below w.heap.size w w1) (hs:w1.heap.size=w.heap.size+1) (hm:ZdP w1 w.heap.size N (fun n=>(look (ZbW d) n).map L.ps)):
 ZaZ (Gr F w w1) ((w1.setCell ⟨p,3,none⟩ (.map (some w.heap.size))).setCell ⟨p,4,none⟩ (.slice none 0 0)) p { L with kept:=w.heap.size,wv:=.slice none 0 0,cs:=[] } { d with kept:=ZbW d,waits:=[] } u N:=by
 have h1:=h.more hb
 have h0:=h1.rest
 have hk:∀ k,k≠p->((w1.setCell ⟨p,3,none⟩ (.map (some w.heap.size))).setCell ⟨p,4,none⟩ (.slice none 0 0)).heap[k]?=w1.heap[k]?:=fun k hne=>by
  rw[Below.heap_setCell _ _ _ _ hne,Below.heap_setCell _ _ _ _ hne]
 have hr:=h0.keep h1.head (fun k _ hne=>hk k hne)
 refine⟨(h1.head.set 3 _).set 4 _,⟨hr.now,hm.keep (hk _ (by have:=h.lt p h.fh;show w.heap.size≠p;omega)),World.ownsRow_nil _ _ _ _,rfl,(fun i c v hi=>by simp at hi),hr.file,hr.psn,hr.vsn,?_,hr.fn,.inr ⟨Nat.le_refl _,by show w.heap.size<_;omega⟩,(fun g hg=>by cases hg),hr.fp,hr.fv⟩,h1.fh,fun k hk=>?_⟩
 ·have:=h.rest.now.lt
  show L.now≠w.heap.size
  omega
 ·have:=h1.lt k hk
  simpa using this
theorem Zpf {F:Nat->Prop} {p:Nat} {d:Dk} {N T:Nat} (w:World) (h:Dsk F w p d N T):
 Calls Tryz.prog 107 #[ptr p] w fun e w'=>ZlR F w p (Zbd d).1 (Zbd d).2 (N+2) T e w':=by
 have HD:=ZZ h
 obtain⟨L,h,hok,hbn,hrm,hpw⟩:=h
 have H:=ZZ h
 have HOK:=ZZ hok
 have HBN:=ZZ hbn
 have HI:=ZZ (And.intro hrm hpw)
 have HO:=ZZ (Znh w h)
 obtain⟨⟨-,-,c2,c3,c4,-⟩,-,f3,f4,-⟩:=h.cells
 have HC:=ZZ (Zrw h.rest.now)
 clear hok hbn hrm hpw
 unfold Zbd
 by_cases h0:d.power=0
 ·rw[if_pos h0]
  rw[h0] at HO
  clear h0 h
  go_enter Tryz.func107,Tryz.ntmps107
  go_wp2_with fail
  refine HO.out.mono ?_
  rintro e w' ⟨rfl,rfl⟩
  go_wp2
  go_ret
  exact ZlR.same HD.out (by omega) zL
 rw[if_neg h0]
 have e0:(d.power != 0)=true:=by simpa using h0
 rw[e0] at HO
 clear h0 e0 h
 go_enter Tryz.func107,Tryz.ntmps107
 go_wp2_with fail
 refine HO.out.mono ?_
 rintro e w' ⟨rfl,rfl⟩
 go_wp2_with fail
 refine HC.out.mono ?_
 rintro e W1 ⟨rfl,hm1,hs1,hb1⟩
 have HD1:=ZZ (H.out.synced hb1 hs1 hm1)
 have HX:=ZZ (H.out.more hb1)
 have HB1:=ZZ hb1
 obtain⟨⟨-,-,-,k3,k4,-⟩,-,j3,j4,-⟩:=HX.out.cells
 obtain⟨va,vn,vc,hvs⟩:=Zir HX.out.rest.row
 rw[hvs] at k4
 have HON1:Hid (ZaE F w' ((W1.setCell ⟨p,3,none⟩ (.map (some w'.heap.size))).setCell ⟨p,4,none⟩ (.slice none 0 0))):=ZZ (((ZaE.ofBelow hb1).setCell 3 (fun _=>H.out.fh) _).setCell 4 (fun _=>H.out.fh) _)
 obtain⟨W2,hW2⟩:∃ W2,W2=(W1.setCell ⟨p,3,none⟩ (.map (some w'.heap.size))).setCell ⟨p,4,none⟩ (.slice none 0 0):=⟨_,rfl⟩
 rw[<-hW2] at HD1 HON1
 have HW2:=ZZ hW2
 have HS1:=ZZ hs1
 clear c2 c3 c4 f3 f4 hm1 hs1 hb1 hvs hW2
 go_upto_region 5 with fail
 rw[<-HW2.out]
 clear HW2 k3 k4 j3 j4
 go_wp2_with fail
 refine(Ziq W2 HD1.out HI.out.2).mono ?_
 rintro e W4 ⟨rfl,hd4,hon4⟩
 go_wp2
 go_ret
 refine⟨rfl,_,⟨_,hd4.mono (by omega),ZqA (fs:=d.files) HOK.out.dir HOK.out.keep,⟨by have:=HBN.out.files;show d.files.length<=_;omega,?_,HBN.out.bytes⟩,HI.out.1,ZlS HI.out.2⟩,HON1.out.trans hon4 (fun k hk hf=>?_),fun k hk=>?_⟩
 ·have h1:=HBN.out.names
  have h2:=Zgx d d.waits.length
  rw[Zfk] at h2
  show(ZbW d).length+0<=_
  omega
 ·rcases hf with hf | hf
  ·exact hf
  ·omega
 ·rcases hk with hk | hk
  ·exact .inl hk
  ·exact .inr hk.1
theorem ZtS (v:Value) (l:List UInt8) (w:World) (hr:Rd w v l) (hlim:l.length<=70368744177664):
 Calls Tryz.prog 183 #[v] w fun e w'=>∃ v',e=.returned v'∧Own w' w.heap.size v' l∧Below w.heap.size w w':=by
 obtain⟨i0,hi,hz0,hz1,hz2⟩:=info_parts ZlG
 have HR:=ZZ hr
 obtain⟨ao,cap,rfl,hlc,hcm,hn0,hao⟩:=hr
 have HA:=ZZ hao
 have HN:=ZZ hn0
 clear hao hn0
 go_enter Tryz.func183,Tryz.ntmps183
 go_wp2_with(at_make;refine wpList_make_own _ rfl _ _ 53 rfl w.heap.size 5 i0 (.int .u8 0) 1 Tryz.underlying53 hi hz0 hz1 _ _ _ (l.length+10) rfl rfl (by omega) (by rw[hz2];omega) (by unfold maxLen;omega) zL ?_)
 intro w1 hown hgrow
 have hb1:Below w.heap.size w w1:=(Below.refl _ _).grown hgrow zL (fun k hk=>by cases hk)
 obtain⟨ao',cap',hv',_,_,_,hao'⟩:=HR.out.below hb1 zL
 simp only [Value.slice.injEq] at hv'
 obtain⟨rfl,_,rfl⟩:=hv'
 have HA1:=ZZ hao'
 have HB:=ZZ hb1
 have HG:=ZZ hgrow
 clear hao' hb1 hgrow HA
 go_wp2_with(at_builtin;refine wpList_append_fits_any _ rfl _ _ 53 rfl w.heap.size 5 i0 1 Tryz.underlying53 hi hz1 w.heap.size 0 (l.length+10) [] rfl hown ao l.length cap (Lib.byteCells l) rfl (by rw[Zbg,Nat.mul_one]) (fun e=>⟨by have:=HN.out e;omega,HN.out e⟩) (Rd.cells HA1.out) (ZcZ l) (by omega) ?_)
 intro w2 hown2 hgrow2
 have hb2:Below w.heap.size w w2:=HB.out.grown hgrow2 (by have:=HB.out.size;omega) (fun k hk=>by simp at hk;omega)
 have HB2:=ZZ hb2
 have HO:=ZZ hown2
 clear hb2 hgrow2 hown2 hown
 go_wp2
 go_ret
 exact⟨_,rfl,Own.mk' HO.out (by simp) (by simp),HB2.out⟩
theorem Zzf (y:Nat):bits .or .u8 ((y:Int) % 256) 128=(y:Int) % 128+128:=by
 rw[Lib.u8_or128_any _ (by omega) (by omega)]
 omega
theorem Own.snoc {w:World} {B:Nat} {v:Value} (l pre:List UInt8) (a:Nat) (ha:a<256) {n:Nat} {x:Int} (h:w.ownsRow B 5 1 v n (Lib.byteCells (l++pre)++[Value.int .u8 x])) (hn:n=l.length+pre.length+1) (hx:x=(a:Int)):Own w B v (l++(pre++[a.toUInt8])):=by
 subst hx
 refine Own.mk' h (by rw[hn];simp;omega) ?_
 rw[<-List.append_assoc,Lib.byteCells_snoc _ ha]
theorem Zgy (v:Value) (l:List UInt8) (u:Nat) (w:World) (hr:Rd w v l) (hlim:l.length<=70368744177664) (hu:u<18446744073709551616):
 Calls Tryz.prog 184 #[v,.int .u64 (u:Int)] w fun e w'=>∃ v',e=.returned v'∧Own w' w.heap.size v' (l++Lib.uvarint u)∧Below w.heap.size w w':=by
 obtain⟨i0,hi,hz0,hz1,hz2⟩:=info_parts ZlG
 have hlen:=Lib.uvarint_length64 hu
 have HC:=ZZ (ZtS v l w hr hlim)
 have HU:=ZZ hu
 clear hr hu
 go_enter Tryz.func184,Tryz.ntmps184
 go_wp2_with fail
 refine HC.out.mono ?_
 rintro e w0 ⟨v0,rfl,hown0,hb0⟩
 have HO0:=ZZ hown0
 have HB0:=ZZ hb0
 clear hown0 hb0 HC
 go_wp2
 go_loopw[1,5] (fun vu vb wr=>∃ (y:Nat) (pre:List UInt8),vu=.int .u64 (y:Int)∧Hid (y<=u∧Lib.uvarint u=pre++Lib.uvarint y)∧Hid (Own wr w.heap.size vb (l++pre))∧Hid (Below w.heap.size w wr))
  (fun vu _ _=>(intOf vu).toNat)
 case atStart=>exact⟨u,[],rfl,⟨Nat.le_refl _,rfl⟩,by rw[List.append_nil];exact HO0.out,HB0.out⟩
 case round=>
  obtain⟨y,pre,rfl,hys,hown1,hnx⟩:=hrel
  have hpl:pre.length+(Lib.uvarint y).length<=10:=by
   have h2:=congrArg List.length hys.out.2
   rw[List.length_append] at h2
   omega
  have hyp:=Lib.uvarint_pos y
  have hsz:=hnx.out.size
  by_cases h128:128<=y
  ·have hor:=Zzf y
   go_wp2_with(at_builtin;refine wpList_append_own _ rfl _ _ 53 rfl w.heap.size 5 i0 (.int .u8 0) 1 1 Tryz.underlying53 hi hz0 hz1 hz2 rfl (by decide) _ _ _ rfl (World.ownsRow.alloc hown1.out _) ⟨wr.heap.size,0,none⟩ 1 1 [Value.int .u8 ((y % 128+128:Nat):Int)] rfl rfl ?c1 ?c2 ?c3 ?c4 ?c5 ?_)
   case c1=>
    intro j u hj
    match j,hj with
    | 0,hj=>simp at hj;subst hj;simp[Addr.add]
   case c2=>intro u hu;simp at hu;subst hu;rfl
   case c3=>unfold maxLen;simp;omega
   case c4=>simp;omega
   case c5=>simp;omega
   intro v' w1 hown' hgrow _
   have hnx1:Below w.heap.size w w1:=(hnx.out.alloc (by omega) _).grown hgrow (by simp;omega) (fun k hk=>(World.ownsRow.lt hown1.out k hk).1)
   have HO:=ZZ (Own.snoc l pre (y % 128+128) (by omega) hown' (by simp) (by omega))
   have HB:=ZZ hnx1
   clear hown' hnx1 hgrow
   go_wp2
   go_roundw
   case rel=>exact⟨y / 128,pre++[(y % 128+128).toUInt8],by go_num,⟨by have:=hys.out.1;omega,by rw[hys.out.2,Lib.uvarint_big h128];simp⟩,HO,HB⟩
   case measure=>simp[intOf];omega
  ·have hsm:Lib.uvarint y=[y.toUInt8]:=Lib.uvarint_small (by omega)
   have HS:=ZZ hsm
   clear hsm
   go_wp2_with(at_builtin;refine wpList_append_own _ rfl _ _ 53 rfl w.heap.size 5 i0 (.int .u8 0) 1 1 Tryz.underlying53 hi hz0 hz1 hz2 rfl (by decide) _ _ _ rfl (World.ownsRow.alloc hown1.out _) ⟨wr.heap.size,0,none⟩ 1 1 [Value.int .u8 (y:Int)] rfl rfl ?c1 ?c2 ?c3 ?c4 ?c5 ?_)
   case c1=>
    intro j u hj
    match j,hj with
    | 0,hj=>simp at hj;subst hj;simp[Addr.add]
   case c2=>intro u hu;simp at hu;subst hu;rfl
   case c3=>unfold maxLen;simp;omega
   case c4=>simp;omega
   case c5=>simp;omega
   intro v' w1 hown' hgrow _
   have hnx1:Below w.heap.size w w1:=(hnx.out.alloc (by omega) _).grown hgrow (by simp;omega) (fun k hk=>(World.ownsRow.lt hown1.out k hk).1)
   have HO:=ZZ (Own.snoc l pre y (by omega) hown' (by simp) rfl)
   have HB:=ZZ hnx1
   clear hown' hnx1 hgrow
   go_wp2
   go_ret
   refine⟨v',rfl,?_,HB.out⟩
   rw[hys.out.2,HS.out]
   exact HO.out
def ZrA (l:List UInt8) (n:Int):List UInt8:=if 0<=n∧n<4611686018427387904 then l++Lib.uvarint n.toNat else l
theorem ZfU (v:Value) (l:List UInt8) (n:Int) (w:World) (hr:Rd w v l) (hlim:l.length<=70368744177664):
 Calls Tryz.prog 132 #[v,.int .i64 n] w fun e w'=>∃ v',e=.returned v'∧Own w' w.heap.size v' (ZrA l n)∧Below w.heap.size w w':=by
 by_cases h:0<=n∧n<4611686018427387904
 ·obtain⟨h0,h1⟩:=h
  have HE:Hid (ZrA l n=l++Lib.uvarint n.toNat):=if_pos ⟨h0,h1⟩
  have HC:=ZZ (Zgy v l n.toNat w hr hlim (by omega))
  have en:((n.toNat:Nat):Int)=n:=Int.toNat_of_nonneg h0
  rw[en] at HC
  clear en hr
  go_enter Tryz.func132,Tryz.ntmps132
  go_wp2_with fail
  refine HC.out.mono ?_
  rintro e w' ⟨v',rfl,ho,hb⟩
  have HO:=ZZ ho
  have HB:=ZZ hb
  clear ho hb HC
  go_wp2
  go_ret
  exact⟨v',rfl,by rw[HE.out];exact HO.out,HB.out⟩
 ·have HE:Hid (ZrA l n=l):=if_neg h
  have HC:=ZZ (ZtS v l w hr hlim)
  clear hr
  by_cases h0:n<0
  all_goals
   go_enter Tryz.func132,Tryz.ntmps132
   go_wp2_with fail
   refine HC.out.mono ?_
   rintro e w' ⟨v',rfl,ho,hb⟩
   have HO:=ZZ ho
   have HB:=ZZ hb
   clear ho hb HC
   go_wp2
   go_ret
   exact⟨v',rfl,by rw[HE.out];exact HO.out,HB.out⟩
theorem Zdi (v:Value) (l:List UInt8) (n:Int) (w:World) (hr:Rd w v l) (hlim:l.length<=70368744177664) (h0:-9223372036854775808<=n) (h1:n<=9223372036854775807):
 Calls Tryz.prog 142 #[v,.int .i64 n] w fun e w'=>∃ v',e=.returned v'∧Own w' w.heap.size v' (l++Lib.uvarint (Lib.zigzag n))∧Below w.heap.size w w':=by
 have HC:=ZZ (Zgy v l (Lib.zigzag n) w hr hlim (Lib.zigzag_lt h0 h1))
 have HZ:=ZZ (Zxk n w h0 h1)
 generalize Lib.zigzag n=z at *
 clear hr h0 h1
 go_enter Tryz.func142,Tryz.ntmps142
 go_wp2_with fail
 refine HZ.out.mono ?_
 rintro e w' ⟨rfl,rfl⟩
 go_wp2_with fail
 refine HC.out.mono ?_
 rintro e w' ⟨v',rfl,ho,hb⟩
 have HO:=ZZ ho
 have HB:=ZZ hb
 clear ho hb HC HZ
 go_wp2
 go_ret
 exact⟨v',rfl,HO.out,HB.out⟩
def Cnt (l:List UInt8) (c:Nat):Prop:=
 (c=0∧∀ j,j<10->j<l.length->128<=(l.getD j 0).toNat)∨
 (1<=c∧c<=10∧c<=l.length∧(∀ j,j+1<c->128<=(l.getD j 0).toNat)∧(l.getD (c-1) 0).toNat<128)
theorem ZtT (v:Value) (l:List UInt8) (w:World) (hr:Rd w v l):
 Calls Tryz.prog 222 #[v] w fun e w'=>∃ c:Nat,e=.returned (.int .i64 (c:Int))∧Cnt l c∧w'=w:=by
 obtain⟨ao,cap,rfl,hlc,hcm,hn0,hao⟩:=hr
 clear hn0
 have hml:(l.length:Int)<=9223372036854775807:=by unfold maxLen at hcm;omega
 by_cases h10:(l.length:Int)<=10
 all_goals
  go_enter Tryz.func222,Tryz.ntmps222
  go_wp2
  go_loop [7] (fun i=>∃ k:Nat,i=.int .i64 k∧k<=10∧k<=l.length∧Hid (∀ j,j<k->128<=(l.getD j 0).toNat)) (fun i=>10-(intOf i).toNat)
  case atStart=>exact⟨0,rfl,by omega,by omega,fun j hj=>by omega⟩
  case round=>
   obtain⟨k,rfl,hk10,hkl,hall⟩:=hrel
   by_cases hlt:k<10∧k<l.length
   ·obtain⟨hlt,hlt'⟩:=hlt
    rcases hao with hao | ⟨b,off,rfl,hc⟩
    ·subst hao;simp at hlt'
    ·have hck:=hc k hlt'
     clear hc
     obtain⟨y,hy⟩:∃ y,y=(l.getD k 0).toNat:=⟨_,rfl⟩
     rw[<-hy] at hck
     have HY:Hid (y=(l.getD k 0).toNat):=hy
     clear hy
     by_cases hyb:(y:Int)<128
     ·go_wp2
      go_ret
      refine⟨k+1,Zeo (by omega),.inr ⟨by omega,by omega,by omega,fun j hj=>hall.out j (by omega),?_⟩,rfl⟩
      rw[Nat.add_sub_cancel,<-HY.out]
      omega
     ·go_wp2
      go_round
      case rel=>
       refine⟨k+1,by go_num,by omega,by omega,fun j hj=>?_⟩
       by_cases e:j=k
       ·rw[e,<-HY.out];omega
       ·exact hall.out j (by omega)
      case measure=>simp[intOf];omega
   ·go_wp2
    go_ret
    exact⟨0,rfl,.inl ⟨rfl,fun j h1 h2=>hall.out j (by omega)⟩,rfl⟩
theorem ZrB {l:List UInt8} (h:Cnt l 0):Zaf l=(0,0):=by
 rcases h with ⟨_,h⟩ | h
 ·unfold Zaf
  rw[ZlE 10 l h]
 ·omega
theorem ZlU {l:List UInt8} {c:Nat} (h:Cnt l (c+1)):c<10∧c<l.length∧(l.getD c 0).toNat<128∧
 dec 10 l=if 0<c∧(l.getD c 0).toNat=0 then none else some (val (l.take (c+1)),c+1):=by
 rcases h with h | ⟨h1,h2,h3,h4,h5⟩
 ·omega
 ·have h5':(l.getD c 0).toNat<128:=by simpa using h5
  exact⟨by omega,by omega,h5',Ztj c 10 l (by omega) (by omega) (fun j hj=>h4 j (by omega)) h5'⟩
theorem ZfV (l:List UInt8) (k:Nat) (h:k<=l.length):val (l.take k)<128 ^ k:=by
 have:=ZwW (l.take k)
 rwa [List.length_take,Nat.min_eq_left h] at this
theorem ZtU {l:List UInt8} (h:Cnt l 10) (hy:(l.getD 9 0).toNat≠1):Zaf l=(0,0):=by
 obtain⟨h1,h2,h3,h4⟩:=ZlU h
 unfold Zaf
 rw[h4]
 by_cases hz:(l.getD 9 0).toNat=0
 ·rw[if_pos ⟨by omega,hz⟩]
 ·rw[if_neg (fun e=>hz e.2)]
  have hv:=Zgl l 9 h2
  have hm:(l.getD 9 0).toNat % 128=(l.getD 9 0).toNat:=Nat.mod_eq_of_lt h3
  rw[hm] at hv
  have e9:128 ^ 9=9223372036854775808:=by decide
  rw[e9] at hv
  have:¬ val (l.take (9+1))<18446744073709551616:=by omega
  simp only [this,if_false]
theorem Zpg {l:List UInt8} {c:Nat} (h:Cnt l (c+1)) (hc:0<c) (hy:(l.getD c 0).toNat=0):Zaf l=(0,0):=by
 obtain⟨h1,h2,h3,h4⟩:=ZlU h
 unfold Zaf
 rw[h4,if_pos ⟨hc,hy⟩]
theorem ZrC {l:List UInt8} {c:Nat} (h:Cnt l (c+1)) (h10:c=9->(l.getD c 0).toNat=1) (h0:0<c->(l.getD c 0).toNat≠0):
 Zaf l=(val (l.take (c+1)),c+1)∧val (l.take (c+1))<18446744073709551616:=by
 obtain⟨h1,h2,h3,h4⟩:=ZlU h
 have hlt:val (l.take (c+1))<18446744073709551616:=by
  by_cases e:c=9
  ·subst e
   have hv:=Zgl l 9 h2
   have hv9:=ZfV l 9 (by omega)
   rw[h10 rfl] at hv
   have e9:128 ^ 9=9223372036854775808:=by decide
   rw[e9] at hv hv9
   omega
  ·have hv:=ZfV l (c+1) (by omega)
   have hp:128 ^ (c+1)<=128 ^ 9:=Nat.pow_le_pow_right (by decide) (by omega)
   have e9:128 ^ 9=9223372036854775808:=by decide
   omega
 refine⟨?_,hlt⟩
 unfold Zaf
 rw[h4,if_neg (fun e=>h0 e.1 e.2)]
 simp only [hlt,if_true]
theorem Zxb (k y x:Nat) (hk:k<64) (hy:y<2 ^ k) (hx:x*2 ^ k<18446744073709551616):
 bits .or .u64 (y:Int) (IntKind.u64.wrap ((x:Int)*2 ^ k))=((y+x*2 ^ k:Nat):Int):=by
 have e:((x:Int)*2 ^ k)=((x*2 ^ k:Nat):Int):=by simp
 have hp:((2 ^ k:Nat):Int)=(2:Int) ^ k:=by simp
 have hk64:(2:Nat) ^ k<=2 ^ 64:=Nat.pow_le_pow_right (by decide) (by omega)
 rw[e,wraps_u64 _ (by omega) (by omega),bits_join_low .u64 64 (by decide) wraps_u64 k (y:Int) ((x*2 ^ k:Nat):Int) (by omega) (by rw[<-hp];omega) (by omega) (by omega) (by rw[<-hp];simp) (by omega)]
 omega
theorem ZxE (l:List UInt8) (k:Nat) (hk:k<l.length) (h10:k<10) (h9:k=9->(l.getD k 0).toNat % 128<=1):
 bits .or .u64 ((val (l.take k):Nat):Int) (IntKind.u64.wrap (((l.getD k 0).toNat:Int) % 128*2 ^ (7*k)))=((val (l.take (k+1)):Nat):Int):=by
 have hv:=ZfV l k (by omega)
 rw[Zgl l k hk,<-pow7]
 rw[<-pow7] at hv
 have e:(((l.getD k 0).toNat:Int) % 128)=(((l.getD k 0).toNat % 128:Nat):Int):=by omega
 rw[e]
 refine Zxb (7*k) _ _ (by omega) hv ?_
 by_cases hk9:k=9
 ·have:=h9 hk9
  subst hk9
  have e9:2 ^ (7*9)=9223372036854775808:=by decide
  rw[e9]
  omega
 ·have hp:2 ^ (7*k)<=2 ^ 56:=Nat.pow_le_pow_right (by decide) (by omega)
  have hm:(l.getD k 0).toNat % 128<=127:=by omega
  have:=Nat.mul_le_mul hm hp
  have e56:127*2 ^ 56<18446744073709551616:=by decide
  omega
theorem ZkX (v:Value) (l:List UInt8) (w:World) (hr:Rd w v l):
 Calls Tryz.prog 207 #[v] w fun e w'=>e=.returned (.tuple #[.int .u64 ((Zaf l).1:Nat),.int .i64 ((Zaf l).2:Nat)])∧w'=w:=by
 have hcnt:=ZtT v l w hr
 obtain⟨ao,cap,rfl,hlc,hcm,hn0,hao⟩:=hr
 clear hn0
 have HC:=ZZ hcnt
 clear hcnt
 go_enter Tryz.func207,Tryz.ntmps207
 go_wp2_with fail
 refine HC.out.mono ?_
 rintro e w' ⟨c,rfl,hc,rfl⟩
 have hc:Hid (Cnt l c):=hc
 clear HC
 cases c with
 | zero=>
  have H:Hid (Zaf l=(0,0)):=ZrB hc.out
  go_wp2
  go_ret2
  exact⟨by rw[H.out];rfl,rfl⟩
 | succ c=>
  obtain⟨hc10,hcl,hyl,hdec⟩:=ZlU hc.out
  clear hdec
  rcases hao with hao | ⟨b,off,rfl,hcell⟩
  ·subst hao;simp at hcl
  have hck:=hcell c hcl
  obtain⟨y,hy⟩:∃ y,y=(l.getD c 0).toNat:=⟨_,rfl⟩
  rw[<-hy] at hck hyl
  have HY:Hid (y=(l.getD c 0).toNat):=hy
  have HCELL:=ZZ hcell
  clear hy hcell
  by_cases hbad:(c=9∧y≠1)∨(0<c∧y=0)
  ·have H:Hid (Zaf l=(0,0)):=by
    rcases hbad with ⟨h9,hy1⟩ | ⟨h0,hy0⟩
    ·subst h9
     exact ZtU hc.out (by rw[<-HY.out];exact hy1)
    ·exact Zpg hc.out h0 (by rw[<-HY.out];exact hy0)
   by_cases h9:c=9
   ·have e9:(((c:Int)+1) == 10)=true:=beq_iff_eq.2 (by omega)
    have hne:((y:Int) != 1)=true:=by rw[bne_iff_ne];omega
    clear hbad h9
    go_wp2
    go_ret2
    exact⟨by rw[H.out];rfl,rfl⟩
   ·have e9:(((c:Int)+1) == 10)=false:=beq_eq_false_iff_ne.2 (by omega)
    have e1:(1:Int)<(c:Int)+1:=by omega
    have e0:((y:Int) == 0)=true:=beq_iff_eq.2 (by omega)
    clear hbad h9
    go_wp2
    go_ret2
    exact⟨by rw[H.out];rfl,rfl⟩
  ·have H:Hid (Zaf l=(val (l.take (c+1)),c+1)∧val (l.take (c+1))<18446744073709551616):=ZrC hc.out (fun h=>by rw[<-HY.out];omega) (fun h=>by rw[<-HY.out];omega)
   have hw3:(c=9∧y=1)∨c=0∨(0<c∧c<9∧y≠0):=by omega
   have H9:Hid (c=9->y=1):=fun h=>by omega
   clear hbad
   rcases hw3 with hw3 | hw3 | hw3
   all_goals
    first
     | (have e9:(((c:Int)+1) == 10)=true:=beq_iff_eq.2 (by omega)
        have hne:((y:Int) != 1)=false:=by rw[bne_eq_false_iff_eq];omega
        have e1:(1:Int)<(c:Int)+1:=by omega
        have e0:((y:Int) == 0)=false:=beq_eq_false_iff_ne.2 (by omega))
     | (have e9:(((c:Int)+1) == 10)=false:=beq_eq_false_iff_ne.2 (by omega)
        have e1:¬ (1:Int)<(c:Int)+1:=by omega)
     | (have e9:(((c:Int)+1) == 10)=false:=beq_eq_false_iff_ne.2 (by omega)
        have e1:(1:Int)<(c:Int)+1:=by omega
        have e0:((y:Int) == 0)=false:=beq_eq_false_iff_ne.2 (by omega))
    clear hw3
    have ez:(((c:Int)+1) == 0)=false:=beq_eq_false_iff_ne.2 (by omega)
    go_wp2
    go_loop [5,35] (fun u i=>∃ k:Nat,k<=c+1∧i=.int .i64 k∧u=.int .u64 (val (l.take k):Nat)) (fun _ i=>c+1-(intOf i).toNat)
    case atStart=>exact⟨0,Nat.zero_le _,rfl,rfl⟩
    case round=>
     obtain⟨k,hk,rfl,rfl⟩:=hrel
     by_cases hlt:k<c+1
     ·have hkc:=HCELL.out k (by omega)
      obtain⟨x,hx⟩:∃ x,x=(l.getD k 0).toNat:=⟨_,rfl⟩
      rw[<-hx] at hkc
      have hx256:x<256:=by rw[hx];exact UInt8.toNat_lt _
      have HX:=ZZ hx
      clear hx
      obtain⟨z,hz⟩:∃ z,z=val (l.take k):=⟨_,rfl⟩
      rw[<-hz]
      have HZ:=ZZ hz
      clear hz hck
      go_wp2
      go_round
      case rel=>
       refine⟨k+1,by omega,by go_num,?_⟩
       rw[HZ.out,HX.out,ZxE l k (by omega) (by omega) (fun h=>?_)]
       have hc9:c=k:=by omega
       rw[<-hc9,<-HY.out,H9.out (by omega)]
       decide
      case measure=>simp[intOf];omega
     ·go_wp2
      go_ret2
      have ek:k=c+1:=by omega
      rw[H.out.1,ek]
      exact⟨rfl,rfl⟩
theorem ZeZ (v:Value) (l:List UInt8) (w:World) (hr:Rd w v l):
 Calls Tryz.prog 168 #[v] w fun e w'=>e=.returned (.tuple #[.int .i64 ((Zab l).1:Nat),.int .i64 ((Zab l).2:Nat)])∧w'=w:=by
 have HC:=ZZ (ZkX v l w hr)
 have H:Hid (Zab l=if(Zaf l).1<4611686018427387904 then Zaf l else(0,0)):=rfl
 generalize Zaf l=d at *
 obtain⟨u,k⟩:=d
 obtain⟨U,hU⟩:∃ U:Int,U=(u:Int):=⟨_,rfl⟩
 simp only at HC H
 rw[<-hU] at HC
 have hU0:0<=U:=by omega
 have HU:=ZZ hU
 clear hU
 by_cases hu:U<4611686018427387904
 ·go_enter Tryz.func168,Tryz.ntmps168
  go_wp2_with fail
  refine HC.out.mono ?_
  rintro e w' ⟨rfl,rfl⟩
  go_wp2
  go_ret2
  have e:=H.out
  have eu:=HU.out
  rw[if_pos (by omega)] at e
  rw[e]
  exact⟨by rw[eu];rfl,rfl⟩
 ·go_enter Tryz.func168,Tryz.ntmps168
  go_wp2_with fail
  refine HC.out.mono ?_
  rintro e w' ⟨rfl,rfl⟩
  go_wp2
  go_ret2
  have e:=H.out
  have eu:=HU.out
  rw[if_neg (by omega)] at e
  rw[e]
  exact⟨rfl,rfl⟩
theorem Zcr (v:Value) (l:List UInt8) (w:World) (hr:Rd w v l):
 Calls Tryz.prog 201 #[v] w fun e w'=>e=.returned (.tuple #[.int .i64 (zag (Zaf l).1),.int .i64 ((Zaf l).2:Nat)])∧w'=w:=by
 have HC:=ZZ (ZkX v l w hr)
 have hlt:=ZlF l
 have hle:=Zci l
 generalize Zaf l=d at *
 obtain⟨u,k⟩:=d
 simp only at HC hlt hle
 go_enter Tryz.func201,Tryz.ntmps201
 go_wp2_with fail
 refine HC.out.mono ?_
 rintro e w' ⟨rfl,rfl⟩
 go_wp2_with fail
 refine(Zxl u _ hlt).mono ?_
 rintro e w1 ⟨rfl,rfl⟩
 go_wp2
 go_ret2
 exact⟨rfl,rfl⟩
end Go.Proofs.YtnahjngbneicaaaGreatDoor
