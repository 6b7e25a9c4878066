import Derived.Test.YtnahjngbneicaaaGreatDoorPack6
import Derived.Deep.WholeRow
import Derived.Test.YtnahjngbneicaaaGreatDoorPack5
import Derived.Test.YtnahjngbneicaaaGreatDoorPack4
import Derived.Test.YtnahjngbneicaaaGreatDoorPack7
import Derived.BigQuiet
import Derived.Lib.LazyBuf
import Derived.Test.YtnahjngbneicaaaGreatDoorPack1
import Derived.Test.YtnahjngbneicaaaGreatDoorPack3
import Derived.Deep.RegionHeld
import Derived.Deep.RegionHeld2
import Derived.Test.YtnahjngbneicaaaGreatDoorPack2
import Derived.Deep.QuietTactic
namespace Go.Proofs.YtnahjngbneicaaaGreatDoor
set_option maxHeartbeats 2000000
set_option maxRecDepth 100000
open Go.RowKit
def ZaI:Array Value:=((List.range 256).map fun c=>Value.int .u32 ((Zfv c:Nat):Int)).toArray
def ZbI:Array Value:=(List.replicate 256 (Value.int .u32 0)).toArray
theorem Ziw:(Tryz.prog.info? 266).map (fun i=>(i.zero,i.size))=some (some (.agg ZbI),256):=by kernel_rfl
theorem ZbT:ZaI.size=256:=by simp[ZaI]
theorem Zfd:ZbI.size=256:=by
 unfold ZbI
 rw[List.size_toArray,List.length_replicate]
theorem ZhW:ZaI.all (·.oneCell')=true:=by
 rw[Array.all_eq_true]
 intro i hi
 simp[ZaI,Value.oneCell']
theorem ZjK (k:Nat) (h:k<256):ZaI[k]?=some (.int .u32 ((Zfv k:Nat):Int)):=by
 simp[ZaI,h]
theorem ZuD (w:World):(Instr.storeAt 266 (.pointer (some ⟨w.heap.size,0,none⟩)) (.agg ZaI)).run Tryz.prog (w.alloc (.cells ZbI 266))=.ok () (w.alloc (.cells ZaI 266)):=
 run_storeAt_new w 266 ZbI ZaI (by rw[ZbT];exact(zero_of_info Ziw).2) (by rw[ZbT,Zfd]) ZhW
def Zwl (w:World) (b:Nat):Prop:=∀ k,k<256->w.cell? ⟨b,k,none⟩=some (.int .u32 ((Zfv k:Nat):Int))
theorem Zwl.made (w:World):Zwl (w.alloc (.cells ZaI 266)) w.heap.size:=by
 intro k hk
 rw[cell_of_row _ w.heap.size k ZaI 266 (0,0) (heap_alloc_last w _)]
 exact ZjK k hk
theorem ZjL (w:World) {ops:Array Oper} {rest:List Oper} {o:Oper} {a:Act} {Q:Exit->Act->World->Prop} (hgd:o.guard=none) (x y:Operand) (ho:o.op=.store 266 x y)
 (hx:a.eval x=.pointer (some ⟨w.heap.size,0,none⟩)) (hy:a.eval y=.agg ZaI)
 (h:∀ w',Below w.heap.size w w'->Zwl w' w.heap.size->wpList Tryz.prog ops Q rest (a.put o.dst undef) w'):wpList Tryz.prog ops Q (o::rest) a (w.alloc (.cells ZbI 266)):=
 wpList_plain hgd fun _ hK=>by
  have hrun:=ZuD w
  unfold Oper.wp execOp
  simp only [ho,hx,hy,hrun,Sem.run_bind,Sem.run_pure,Result.andThen_ok]
  exact hK _ _ (h _ ((Below.refl _ _).alloc zL _) (Zwl.made w))
def ZjM (k:Nat):Array Value:=((List.range 256).map fun c=>if c<k then Value.int .u32 ((Zfv c:Nat):Int) else Value.int .u32 0).toArray
theorem Zem (k:Nat):(ZjM k).size=256:=by simp[ZjM]
theorem Zfe (k i:Nat) (h:i<256):(ZjM k)[i]?=some (if i<k then Value.int .u32 ((Zfv i:Nat):Int) else Value.int .u32 0):=by
 simp[ZjM,h]
theorem Zsc:ZjM 0=ZbI:=by
 apply Array.ext_getElem?
 intro i
 by_cases h:i<256
 ·rw[Zfe 0 i h]
  unfold ZbI
  rw[List.getElem?_toArray,List.getElem?_replicate_of_lt h]
  simp
 ·rw[Array.getElem?_eq_none (by rw[Zem];omega),Array.getElem?_eq_none (by rw[Zfd];omega)]
theorem Zsd:ZjM 256=ZaI:=by
 apply Array.ext_getElem?
 intro i
 by_cases h:i<256
 ·rw[Zfe 256 i h,if_pos h,ZjK i h]
 ·rw[Array.getElem?_eq_none (by rw[Zem];omega),Array.getElem?_eq_none (by rw[ZbT];omega)]
theorem ZuE (k:Nat) (hk:k<256):(ZjM k).setIfInBounds k (Value.int .u32 ((Zfv k:Nat):Int))=ZjM (k+1):=by
 apply Array.ext_getElem?
 intro i
 rw[Array.getElem?_setIfInBounds]
 by_cases h:i<256
 ·rw[Zfe (k+1) i h,Zfe k i h,Zem]
  by_cases hi:k=i
  ·subst hi
   simp[hk]
  ·rw[if_neg hi]
   have e:(i<k+1)=(i<k):=by
    apply propext
    omega
   simp only [e]
 ·have hi:¬ k=i:=by omega
  rw[if_neg hi,Array.getElem?_eq_none (by rw[Zem];omega),Array.getElem?_eq_none (by rw[Zem];omega)]
theorem Zmp {C:Array Value} (h:C.size=256):(Tryz.prog.info? 266).map (·.size)=some C.size:=by
 rw[h]
 exact(zero_of_info Ziw).2
theorem ZjN (w:World) {ops:Array Oper} {rest:List Oper} {o:Oper} {a:Act} {Q:Exit->Act->World->Prop} (hgd:o.guard=none) (x:Operand) (ho:o.op=.load 266 x)
 (g:Nat) (C:Array Value) (fr:Nat × Nat) (hx:a.eval x=.pointer (some ⟨g,0,none⟩)) (hg:w.heap[g]?=some (.cells C 266 fr)) (hC:C.size=256)
 (h:wpList Tryz.prog ops Q rest (a.put o.dst (.agg C)) w):wpList Tryz.prog ops Q (o::rest) a w:=
 wpList_plain hgd fun _ hK=>by
  have hrun:=run_loadVar_row (P:=Tryz.prog) w g 266 266 C fr _ hg Tryz.underlying266 rfl (Zmp hC)
  unfold Oper.wp execOp
  simp only [ho,hx,Instr.loadAt,Instr.sureAddr,Sem.run_bind,Sem.run_pure,Result.andThen_ok,hrun]
  exact hK _ _ h
theorem Zij (w:World) {ops:Array Oper} {rest:List Oper} {o:Oper} {a:Act} {Q:Exit->Act->World->Prop} (hgd:o.guard=none) (x y:Operand) (ho:o.op=.store 266 x y)
 (g:Nat) (C D:Array Value) (hx:a.eval x=.pointer (some ⟨g,0,none⟩)) (hy:a.eval y=.agg D) (hg:w.heap[g]?=some (.cells C 266 (0,0))) (hC:C.size=256) (hD:D.size=256) (h1:D.all (·.oneCell')=true)
 (h:wpList Tryz.prog ops Q rest (a.put o.dst undef) (w.setRow g D)):wpList Tryz.prog ops Q (o::rest) a w:=
 wpList_plain hgd fun _ hK=>by
  have hrun:=run_storeVar_row (P:=Tryz.prog) w g 266 266 C D hg (Zmp hD) (by rw[hC,hD]) h1
  unfold Oper.wp execOp
  simp only [ho,hx,hy,Instr.storeAt,Instr.sureAddr,Sem.run_bind,Sem.run_pure,Result.andThen_ok,hrun]
  exact hK _ _ h
theorem ZnT {fn:Func} {p:Tmp} {ty:TypeId} (h:fn.results=#[.cell p ty]) (tmps:Array Value) (P:Program) (w:World):
 (results fn tmps).run P w=((asAddr (tmps.getD p undef)).run P w).andThen fun a w₁=>(loadVar ty a).run P w₁:=by
 simp only [results,h]
 simp[Sem.run_bind,Result.andThen]
theorem ZuF (k:Nat) (hk:k<256) (w:World):Calls Tryz.prog 225 #[.int .u32 (k:Int)] w fun e w'=>e=.returned (.int .u32 (Zfv k:Nat))∧w'=w:=by
 have HK:=ZZ hk
 clear hk
 go_enter Tryz.func225,Tryz.ntmps225
 go_wp2
 go_loop [0,4] (fun x j=>∃ m:Nat,m<=8∧j=.int .i64 (m:Int)∧x=.int .u32 (Zde m k:Nat)) (fun _ j=>8-(intOf j).toNat)
 case atStart=>exact⟨0,Nat.zero_le _,rfl,rfl⟩
 case round=>
  obtain⟨m,hm,rfl,rfl⟩:=hrel
  by_cases hm8:m<8
  ·have HS:=ZZ (ZrV m k)
   have hbt:Zde m k<4294967296:=Zur m (by have:=HK.out;omega)
   generalize Zde m k=y at *
   obtain⟨Y,hY⟩:∃ Y:Int,Y=(y:Int):=⟨_,rfl⟩
   rw[<-hY]
   have hY0:0<=Y:=by omega
   have hY1:Y<4294967296:=by omega
   have HY:=ZZ hY
   have HBT:=ZZ hbt
   clear hY hbt
   by_cases ho:Y % 2=1
   ·have hob:(Y % 2 == 1)=true:=beq_iff_eq.2 ho
    have HO:=ZZ ho
    clear ho
    go_wp2
    go_round
    case rel=>
     have e:=HY.out
     have eo:=HO.out
     refine⟨m+1,by omega,by go_num,?_⟩
     have e2:Y / 2=((y / 2:Nat):Int):=by omega
     have e3:(2197175160:Int)=((2197175160:Nat):Int):=rfl
     have ht:Zrm y=y / 2 ^^^ 2197175160:=if_pos (by omega)
     rw[HS.out,ht,e2,e3,ZpI _ _ (by have:=HBT.out;omega) (by decide)]
    case measure=>simp[intOf];omega
   ·have hob:(Y % 2 == 1)=false:=beq_eq_false_iff_ne.2 ho
    have HO:=ZZ ho
    clear ho
    go_wp2
    go_round
    case rel=>
     have e:=HY.out
     have eo:=HO.out
     refine⟨m+1,by omega,by go_num,?_⟩
     have e2:Y / 2=((y / 2:Nat):Int):=by omega
     have ht:Zrm y=y / 2:=if_neg (by omega)
     rw[HS.out,ht,e2]
    case measure=>simp[intOf];omega
  ·have HE:Hid (Zde m k=Zfv k):=by
    have e:m=8:=by omega
    rw[e]
    exact rfl
   generalize Zde m k=y at *
   go_wp2
   go_ret
   refine⟨Zeo ?_,rfl⟩
   rw[HE.out]
theorem ZuG (w:World):Calls Tryz.prog 215 #[] w fun e w'=>e=.returned (.agg ZaI)∧Below w.heap.size w w':=by
 have hz:=(zero_of_info Ziw).1
 have HC:Hid (∀ (k:Nat) (w:World),k<256->Calls Tryz.prog 225 #[.int .u32 (k:Int)] w fun e w'=>e=.returned (.int .u32 (Zfv k:Nat))∧w'=w):=fun k w hk=>ZuF k hk w
 go_enter Tryz.func215,Tryz.ntmps215
 go_wp2
 go_loopw[3] (fun i wr=>∃ k:Nat,k<=256∧i=.int .i64 (k:Int)∧Hid (wr.heap[w.heap.size+1]?=some (.cells (ZjM k) 266 (0,0)))∧Hid (wr.heap[w.heap.size]?=some (.cells ZbI 266 (0,0)))∧Hid (Below w.heap.size w wr)) (fun i _=>256-(intOf i).toNat)
 case atStart=>
  have e1:((w.alloc (.cells ZbI 266)).alloc (.cells ZbI 266)).heap[w.heap.size+1]?=some (.cells (ZjM 0) 266 (0,0)):=by
   rw[Zsc]
   have h:=heap_alloc_last (w.alloc (.cells ZbI 266)) (.cells ZbI 266)
   have hs:(w.alloc (.cells ZbI 266)).heap.size=w.heap.size+1:=by simp
   rw[hs] at h
   exact h
  have e0:((w.alloc (.cells ZbI 266)).alloc (.cells ZbI 266)).heap[w.heap.size]?=some (.cells ZbI 266 (0,0)):=
   (Below.heap_alloc _ _ w.heap.size (by simp)).trans (heap_alloc_last w _)
  exact⟨0,Nat.zero_le _,rfl,e1,e0,((Below.refl _ _).alloc zL _).alloc (by simp) _⟩
 case round=>
  obtain⟨k,hk,rfl,h1,h0,hb⟩:=hrel
  by_cases hlt:k<256
  ·have hcell:wr.cell? ⟨w.heap.size+1,k,none⟩=some (.int .u32 0):=by
    rw[cell_of_row wr _ k _ _ _ h1.out,Zfe k k hlt]
    simp
   have hfr:wr.frozen? ⟨w.heap.size+1,k,none⟩=false:=frozen_of_row wr _ k _ _ h1.out
   have HST:Hid ((wr.setCell ⟨w.heap.size+1,k,none⟩ (.int .u32 ((Zfv k:Nat):Int))).heap[w.heap.size+1]?=some (.cells (ZjM (k+1)) 266 (0,0))):=by
    have h:=heap_setCell_same wr (w.heap.size+1) k _ _ (.int .u32 ((Zfv k:Nat):Int)) h1.out
    rw[ZuE k hlt] at h
    exact h
   go_wp2_with fail
   refine(HC.out k wr hlt).mono ?_
   rintro e w2 ⟨rfl,rfl⟩
   go_wp2
   go_roundw
   case rel=>exact⟨k+1,by omega,by go_num,HST,(Below.heap_setCell _ _ _ _ (by show w.heap.size≠w.heap.size+1;omega)).trans h0.out,hb.out.setCell (by show w.heap.size<=w.heap.size+1;omega) _⟩
   case measure=>simp[intOf];omega
  ·have h1':wr.heap[w.heap.size+1]?=some (.cells ZaI 266 (0,0)):=by
    have e:k=256:=by omega
    rw[<-Zsd,<-e]
    exact h1.out
   have H1:=ZZ h1'
   have HRES:Hid ((loadVar 266 ⟨w.heap.size,0,none⟩).run Tryz.prog (wr.setRow w.heap.size ZaI)=.ok (.agg ZaI) (wr.setRow w.heap.size ZaI)):=
    run_loadVar_row (P:=Tryz.prog) _ _ 266 266 ZaI (0,0) _ (setRow_heap wr _ _ ZaI _ _ h0.out) Tryz.underlying266 rfl (Zmp ZbT)
   have HB:Hid (Below w.heap.size w (wr.setRow w.heap.size ZaI)):=
    ⟨hb.out.os,hb.out.tape,hb.out.output,by have:=hb.out.size;simp[World.setRow];omega,fun j hj=>(setRow_other wr _ j _ (by omega)).trans (hb.out.block j hj)⟩
   clear h1' h1
   go_wp2_with(first
    | refine ZjN _ rfl _ rfl (w.heap.size+1) ZaI (0,0) rfl H1.out ZbT ?_
    | refine Zij _ rfl _ _ rfl w.heap.size ZbI ZaI rfl rfl h0.out Zfd ZbT ZhW ?_)
   refine bodyPost_ret (v:=.agg ZaI) ?_ rfl ⟨rfl,HB.out⟩
   have h:=HRES.out
   rw[ZnT Tryz.results215]
   have e:(asAddr (.pointer (some ⟨w.heap.size,0,none⟩))).run Tryz.prog (wr.setRow w.heap.size ZaI)=.ok ⟨w.heap.size,0,none⟩ (wr.setRow w.heap.size ZaI):=by simp[asAddr]
   simp only [Act.put,List.setIfInBounds_toArray,List.set_cons_succ,List.set_cons_zero]
   show((asAddr (.pointer (some ⟨w.heap.size,0,none⟩))).run Tryz.prog (wr.setRow w.heap.size ZaI)).andThen _=_
   rw[e]
   simp only [Result.andThen]
   rw[h]
theorem Zwm (s:Nat) (v:Value) (l:List UInt8) (w:World) (hr:Rd w v l) (hs:s<4294967296):
 Calls Tryz.prog 187 #[.int .u32 (s:Int),v] w fun e w'=>e=.returned (.int .u32 (ZaH s l:Nat))∧Below w.heap.size w w':=by
 have HR:=ZZ hr
 obtain⟨ao,cap,rfl,hlc,hcm,hn0,hao⟩:=hr
 clear hn0
 have HAO:=ZZ hao
 clear hao
 have hml:(l.length:Int)<=9223372036854775807:=by unfold maxLen at hcm;omega
 have HN:=ZZ (Zus s hs)
 have HL:Hid (∀ k,ZdM (s ^^^ 4294967295) (l.take k)<4294967296):=fun k=>ZiO _ (Ztx hs)
 have HE:Hid (ZaH s l=ZdM (s ^^^ 4294967295) l ^^^ 4294967295):=rfl
 have HT:=ZZ (fun w=>ZuG w)
 have hz:=(zero_of_info Ziw).1
 generalize s ^^^ 4294967295=x0 at *
 clear hs
 go_enter Tryz.func187,Tryz.ntmps187
 go_wp2_with fail
 refine(HT.out _).mono ?_
 rintro e w2 ⟨rfl,hb⟩
 have HB2:=ZZ hb
 clear hb HT
 go_wp2_with(refine ZjL _ rfl _ _ rfl rfl rfl ?_)
 intro w3 hb3 ht3
 have HB3:=ZZ (HB2.out.trans (hb3.mono HB2.out.size))
 have HT3:=ZZ ht3
 clear hb3 ht3 hz
 go_wp2
 go_loop [6,14] (fun x i=>∃ k:Nat,k<=l.length∧i=.int .i64 k∧x=.int .u32 (ZdM x0 (l.take k):Nat)) (fun _ i=>l.length-(intOf i).toNat)
 case atStart=>
  refine⟨0,Nat.zero_le _,rfl,?_⟩
  rw[HN.out]
  rfl
 case round=>
  obtain⟨k,hk,rfl,rfl⟩:=hrel
  have hy:=HL.out k
  by_cases hlt:k<l.length
  ·have HS:=ZZ (ZpJ l x0 k hlt)
   rcases HAO.out with hao | ⟨b,off,rfl,_⟩
   ·subst hao;simp at hlt
   have hck:=(HR.out.below HB3.out zL).at k hlt
   have hc256:(l.getD k 0).toNat<256:=UInt8.toNat_lt _
   generalize ZdM x0 (l.take k)=y at *
   generalize (l.getD k 0).toNat=c at *
   have hlb:=ZxJ y c hc256
   have hbx:bits .xor .u8 ((y:Int) % 256) (c:Int)=((y % 256 ^^^ c:Nat):Int):=by
    have e:(y:Int) % 256=((y % 256:Nat):Int):=by omega
    rw[e]
    exact ZyA _ _ (by omega) hc256
   have HF:Hid (bits .xor .u32 ((Zfv (y % 256 ^^^ c):Nat):Int) ((y:Int) / 256)=((ZfO y c:Nat):Int)):=by
    have e:(y:Int) / 256=((y / 256:Nat):Int):=by omega
    rw[e,ZpI _ _ (Zwh _ hlb) (by omega)]
    unfold ZfO
    rw[Zwg y c hc256]
    exact rfl
   have htc:=HT3.out (y % 256 ^^^ c) hlb
   generalize hm:y % 256 ^^^ c=m at *
   have HM:=ZZ hm
   clear hm
   have hmi:(m:Int)<256:=by omega
   obtain⟨E,hE⟩:∃ E:Int,E=((Zfv m:Nat):Int):=⟨_,rfl⟩
   rw[<-hE] at htc HF
   clear hE
   go_wp2
   go_round
   case rel=>exact⟨k+1,by omega,by go_num,by rw[HS.out,<-HF.out]⟩
   case measure=>simp[intOf];omega
  ·go_wp2
   go_ret
   refine⟨Zeo ?_,HB3.out⟩
   rw[HE.out,Zus _ hy,List.take_of_length_le (by omega)]
theorem ZpM (v:Value) (l:List UInt8) (w:World) (hr:Rd w v l):
 Calls Tryz.prog 136 #[v] w fun e w'=>e=.returned (.int .u32 (ZaH 0 l:Nat))∧Below w.heap.size w w':=by
 have HC:Hid (Calls Tryz.prog 187 #[.int .u32 0,v] w fun e w'=>e=.returned (.int .u32 (ZaH 0 l:Nat))∧Below w.heap.size w w'):=Zwm 0 v l w hr (by decide)
 generalize ZaH 0 l=m at *
 clear hr
 go_enter Tryz.func136,Tryz.ntmps136
 go_wp2_with fail
 refine HC.out.mono ?_
 rintro e w' ⟨rfl,hb⟩
 have HB:=ZZ hb
 clear hb HC
 go_wp2
 go_ret
 exact⟨rfl,HB.out⟩
def ZkD (v:Value) (l:List UInt8) (xs:List Value) (L:List (List UInt8)):Prop:=
 xs.length=L.length∧∀ j,j<L.length->∃ x,xs[j]?=some x∧x.oneCell'=true∧∀ W,Rd W v l->Rd W x (L.getD j [])
theorem ZkD.nil (v:Value) (l:List UInt8):ZkD v l [] []:=⟨rfl,fun j hj=>absurd hj (by simp)⟩
theorem ZkD.snoc {v:Value} {l:List UInt8} {xs:List Value} {L:List (List UInt8)} (h:ZkD v l xs L) {x:Value} {d:List UInt8} (h1:x.oneCell'=true) (h2:∀ W,Rd W v l->Rd W x d):ZkD v l (xs++[x]) (L++[d]):=by
 refine⟨by simp[h.1],fun j hj=>?_⟩
 rw[List.length_append,List.length_singleton] at hj
 by_cases hl:j<L.length
 ·obtain⟨y,e1,e2,e3⟩:=h.2 j hl
  refine⟨y,by rw[List.getElem?_append_left (by rw[h.1];exact hl)];exact e1,e2,?_⟩
  have e:(L++[d]).getD j []=L.getD j []:=by simp[List.getD,List.getElem?_append_left hl]
  rw[e]
  exact e3
 ·have e0:j=L.length:=by omega
  subst e0
  refine⟨x,by rw[List.getElem?_append_right (by rw[h.1];omega),h.1];simp,h1,?_⟩
  have e:(L++[d]).getD L.length []=d:=by simp[List.getD]
  rw[e]
  exact h2
theorem ZuH:(Tryz.prog.info? 53).map (fun i=>(i.zero,i.size,i.bytes))=some (some (.slice none 0 0),1,24):=by kernel_rfl
theorem ZjO (w:World) (ty:TypeId) (B:Nat) (v:Value) (n:Nat) (xs:List Value) (h:w.ownsRow B 53 1 v n xs) (a:Addr) (m cap:Nat) (ys:List Value) (hm:ys.length=m) (hc:∀ j u,ys[j]?=some u->w.cell? (a.add j)=some u) (hy:∀ u ∈ ys,u.oneCell'=true) (hlim:n+m<=1000000) (hbase:B<=w.heap.size):
 ∃ v' w',(Builtin.append_ #[144,144] ty #[v,.slice (some a) m cap]).run Tryz.prog w=.ok v' w'∧w'.ownsRow B 53 1 v' (n+m) (xs++ys)∧Below B w w':=by
 obtain⟨i0,hi,hz0,hz1,hz2⟩:=info_parts ZuH
 obtain⟨v',w',hrun,ho,hgr,_⟩:=run_append_own (P:=Tryz.prog) w B 144 ty 53 i0 (.slice none 0 0) 1 24 Tryz.underlying144 hi hz0 hz1 hz2 rfl (by decide) v n xs h
  a m cap ys (by rw[hm,Nat.mul_one]) hc hy (by unfold maxLen;omega) (by omega) hbase
 exact⟨v',w',hrun,ho,(Below.refl _ _).grown hgr hbase (fun k hk=>(World.ownsRow.lt h k hk).1)⟩
theorem ZdU (w:World) {ops:Array Oper} {rest:List Oper} {o:Oper} {a:Act} {Q:Exit->Act->World->Prop} (hgd:o.guard=none) (s x:Operand)
 (ho:o.op=.call { callee:=.builtin .append,args:=#[s,x],argTypes:=#[144,144] })
 (B:Nat) (v:Value) (n:Nat) (xs:List Value) (hs:a.eval s=v) (hown:w.ownsRow B 53 1 v n xs) (d:Addr) (m cap:Nat) (ys:List Value) (hx:a.eval x=.slice (some d) m cap) (hm:ys.length=m) (hc:∀ j u,ys[j]?=some u->w.cell? (d.add j)=some u) (hy:∀ u ∈ ys,u.oneCell'=true)
 (hlim:n+m<=1000000) (hbase:B<=w.heap.size)
 (h:∀ v' w',w'.ownsRow B 53 1 v' (n+m) (xs++ys)->Below B w w'->wpList Tryz.prog ops Q rest (a.put o.dst v') w'):wpList Tryz.prog ops Q (o::rest) a w:=
 wpList_plain hgd fun _ hK=>by
  obtain⟨v',w',hrun,h2,h3⟩:=ZjO w o.type B v n xs hown d m cap ys hm hc hy hlim hbase
  unfold Oper.wp execOp
  simp only [ho,resolve,invoke,builtin,Sem.run_bind,Sem.run_pure,Result.andThen_ok,List.map_toArray,List.map_cons,List.map_nil,hs,hx,hrun]
  exact hK _ _ (h v' w' h2 h3)
theorem Zwn (ao:Option Addr) (l:List UInt8) (cap:Nat) (hlc:l.length<=cap) (i j:Nat) (hij:i<=j) (hj:j<=l.length):
 ∃ xa xn xc,(∀ W,(Instr.sliceAt 53 (.slice ao l.length cap) (some (.int .i64 (i:Int))) (some (.int .i64 (j:Int))) (some (.int .i64 (j:Int)))).run Tryz.prog W=.ok (.slice xa xn xc) W)∧∀ W,Rd W (.slice ao l.length cap) l->Rd W (.slice xa xn xc) ((l.drop i).take (j-i)):=by
 have hsl:∃ xa xn xc,sliced ao i j j 1=.slice xa xn xc:=by
  unfold sliced
  exact⟨_,_,_,rfl⟩
 obtain⟨xa,xn,xc,hsl⟩:=hsl
 refine⟨xa,xn,xc,fun W=>?_,fun W h=>?_⟩
 ·rw[run_sliceAt_slice W 53 _ _ _ _ ZaA,run_slice_lhm W 53 ao l.length cap ZaA .i64 .i64 .i64 (i:Int) (j:Int) (j:Int) (by omega) (by omega) (by omega) (by omega),ZbG,Zev]
  simp only [Int.toNat_natCast]
  rw[<-hsl]
  rfl
 ·rw[<-hsl]
  exact h.mid i j j hij hj zL (by omega)
theorem ZjP (w:World) (x:Obj):w.heap.size<=(w.alloc x).heap.size:=((Below.refl w.heap.size w).alloc zL x).size
theorem ZnU (w:World) (v:Value):∀ j u,[v][j]?=some u->(w.alloc (.cells #[v] 53)).cell? ((⟨w.heap.size,0,none⟩:Addr).add j)=some u:=fun j u hj=>by
 rw[Addr.add_lit,Nat.zero_add,cell_of_row _ w.heap.size j _ 53 (0,0) (heap_alloc_new w _)]
 rw[<-List.getElem?_toArray] at hj
 exact hj
def ZxP (w:World) (v:Value) (l:List UInt8) (L:List (List UInt8)) (e:Ending) (w':World):Prop:=
 ∃ v' xs,e=.returned v'∧w'.ownsRow w.heap.size 53 1 v' L.length xs∧ZkD v l xs L∧Below w.heap.size w w'
theorem Zse (v:Value) (l:List UInt8) (w:World) (hr:Rd w v l) (hlim:l.length<=100000):
 Calls Tryz.prog 102 #[v] w fun e w'=>ZxP w v l (Zbs l) e w':=by
 obtain⟨ao,cap,rfl,hlc,hcm,-⟩:=hr
 have HCV:=ZZ (fun i j=>Zwn ao l cap hlc i j)
 have HPD:Hid (∀ A,A<l.length->Zbs (l.drop A)=(l.drop A).take 64::Zbs (l.drop (A+64))):=ZZ (fun A h=>Zpj h)
 have HP0:Hid (Zbs l=[]++Zbs (l.drop 0)):=ZZ (by simp)
 have HPN:Hid (∀ A,l.length<=A->Zbs (l.drop A)=[]):=ZZ (fun A h=>by rw[List.drop_eq_nil_of_le h,Zcd])
 have HTK:Hid (∀ A,l.length<=A+64->(l.drop A).take (l.length-A)=(l.drop A).take 64):=ZZ (fun A h=>by
  rw[List.take_of_length_le (by rw[List.length_drop];omega),List.take_of_length_le (by rw[List.length_drop];omega)])
 obtain⟨PL,hPL⟩:∃ PL,PL=Zbs l:=⟨_,rfl⟩
 rw[<-hPL] at HP0 ⊢
 clear hPL hcm
 go_enter Tryz.func102,Tryz.ntmps102
 go_wp2
 go_loopw[3,4] (fun vo va wr=>∃ (A:Nat) (P:List (List UInt8)) (xs:List Value),va=.int .i64 (A:Int)∧P.length<=A∧A<=l.length+64∧Hid (wr.ownsRow w.heap.size 53 1 vo P.length xs)∧Hid (ZkD (.slice ao l.length cap) l xs P)∧Hid (PL=P++Zbs (l.drop A))∧Hid (Below w.heap.size w wr)) (fun _ va _=>l.length+64-(intOf va).toNat)
 case atStart=>exact⟨0,[],[],rfl,Nat.le_refl _,by omega,ZZ (World.ownsRow_nil w w.heap.size 53 1),ZZ (ZkD.nil _ _),HP0,Below.refl _ _⟩
 case round=>
  clear HP0
  obtain⟨A,P,xs,rfl,hPA,hA,hO,hV,hE,hB⟩:=hrel
  by_cases hlt:A<l.length
  case neg=>
   have hni:¬ (A:Int)<(l.length:Int):=by omega
   have HF:Hid (PL=P):=ZZ (by rw[hE.out,HPN.out A (by omega),List.append_nil])
   go_wp2
   go_ret
   rw[HF.out]
   exact⟨_,xs,rfl,hO.out,hV.out,hB.out⟩
  have hli:(A:Int)<(l.length:Int):=by omega
  have HPA:=ZZ (HPD.out A hlt)
  by_cases h:A+64<=l.length
  ·obtain⟨xa,xn,xc,hcut,hv⟩:=HCV.out A (A+64) (by omega) h
   have e1:((A+64:Nat):Int)=(A:Int)+64:=by omega
   have e2:A+64-A=64:=by omega
   rw[e1] at hcut
   rw[e2] at hv
   have HV:=ZZ hv
   have hmn:(A:Int)+64<=(l.length:Int):=by omega
   have hmi:min ((A:Int)+64) (l.length:Int)=(A:Int)+64:=by omega
   have hmn2:¬ (l.length:Int)<(A:Int)+64:=by omega
   have HSA:Hid (w.heap.size<=(wr.alloc (.cells #[.slice xa xn xc] 53)).heap.size):=ZZ (Nat.le_trans hB.out.size (ZjP wr _))
   have HOA:Hid ((wr.alloc (.cells #[.slice xa xn xc] 53)).ownsRow w.heap.size 53 1 _ P.length xs):=ZZ (World.ownsRow.alloc hO.out _)
   have HCA:=ZZ (ZnU wr (.slice xa xn xc))
   have HYA:Hid (∀ u ∈ [Value.slice xa xn xc],u.oneCell'=true):=ZZ (fun u hu=>by rw[List.mem_singleton.1 hu];rfl)
   have hPl:P.length+1<=1000000:=by omega
   clear hv e1 e2 HPD HCV HPN HTK h
   go_wp2_with(at_builtin;refine ZdU _ rfl _ _ rfl w.heap.size _ P.length xs rfl HOA.out ⟨wr.heap.size,0,none⟩ 1 1 [.slice xa xn xc] rfl rfl HCA.out HYA.out hPl HSA.out ?_)
   intro v1 W1 ho1 hb1
   have HO1:=ZZ ho1
   have HB1:=ZZ ((hB.out.alloc hB.out.size _).trans hb1)
   clear ho1 hb1
   go_wp2
   go_roundw
   case rel=>exact⟨A+64,P++[(l.drop A).take 64],xs++[.slice xa xn xc],by go_num,by simp;omega,by omega,ZZ (by rw[List.length_append,List.length_singleton];exact HO1.out),ZZ (hV.out.snoc rfl HV.out),ZZ (by rw[hE.out,HPA.out,List.append_assoc];rfl),HB1⟩
   case measure=>simp[intOf];omega
  ·obtain⟨xa,xn,xc,hcut,hv⟩:=HCV.out A l.length (by omega) zL
   rw[HTK.out A (by omega)] at hv
   have HV:=ZZ hv
   have hmn:(l.length:Int)<(A:Int)+64:=by omega
   have hmi:min ((A:Int)+64) (l.length:Int)=(l.length:Int):=by omega
   have hmn2:¬ (A:Int)+64<=(l.length:Int):=by omega
   have HSA:Hid (w.heap.size<=(wr.alloc (.cells #[.slice xa xn xc] 53)).heap.size):=ZZ (Nat.le_trans hB.out.size (ZjP wr _))
   have HOA:Hid ((wr.alloc (.cells #[.slice xa xn xc] 53)).ownsRow w.heap.size 53 1 _ P.length xs):=ZZ (World.ownsRow.alloc hO.out _)
   have HCA:=ZZ (ZnU wr (.slice xa xn xc))
   have HYA:Hid (∀ u ∈ [Value.slice xa xn xc],u.oneCell'=true):=ZZ (fun u hu=>by rw[List.mem_singleton.1 hu];rfl)
   have hPl:P.length+1<=1000000:=by omega
   clear hv HPD HCV HPN HTK h
   go_wp2_with(at_builtin;refine ZdU _ rfl _ _ rfl w.heap.size _ P.length xs rfl HOA.out ⟨wr.heap.size,0,none⟩ 1 1 [.slice xa xn xc] rfl rfl HCA.out HYA.out hPl HSA.out ?_)
   intro v1 W1 ho1 hb1
   have HO1:=ZZ ho1
   have HB1:=ZZ ((hB.out.alloc hB.out.size _).trans hb1)
   clear ho1 hb1
   go_wp2
   go_roundw
   case rel=>exact⟨A+64,P++[(l.drop A).take 64],xs++[.slice xa xn xc],by go_num,by simp;omega,by omega,ZZ (by rw[List.length_append,List.length_singleton];exact HO1.out),ZZ (hV.out.snoc rfl HV.out),ZZ (by rw[hE.out,HPA.out,List.append_assoc];rfl),HB1⟩
   case measure=>simp[intOf];omega
theorem ZuI (va:Value) (a:St) (vb:Value) (b:St) (w:World) (ha:StV w va a) (hb:StV w vb b):
 Calls Tryz.prog 45 #[va,vb] w fun e w'=>e=.returned (.bool (decide (ZmQ a b)))∧Below w.heap.size w w':=by
 obtain⟨vl,rfl,hr,-,-⟩:=ha
 obtain⟨vm,rfl,hm,-,-⟩:=hb
 obtain⟨k1,l1,s1,g1⟩:=a
 obtain⟨k2,l2,s2,g2⟩:=b
 simp only at hr hm ⊢
 have HE:Hid (∀ W,Below w.heap.size w W->Calls Tryz.prog 89 #[vl,vm] W fun e w'=>e=.returned (.bool (decide (l1=l2)))∧Below W.heap.size W w'):=fun W h=>ZrK vl l1 vm l2 W (hr.below h zL) (hm.below h zL)
 have HBA:Hid (∀ x y,Below w.heap.size w ((w.alloc x).alloc y)):=fun x y=>((Below.refl _ _).alloc zL x).alloc (by simp) y
 obtain⟨R,hR⟩:∃ R,R=decide (ZmQ ⟨k1,l1,s1,g1⟩ ⟨k2,l2,s2,g2⟩):=⟨_,rfl⟩
 rw[<-hR]
 have HR:=Zac hR
 clear hR hr hm
 by_cases h1:k1=k2
 ·have q1:(k1 == k2)=true:=beq_iff_eq.2 h1
  have H1:=Zac h1
  clear h1
  by_cases h2:s1=s2
  ·have q2:(s1 == s2)=true:=beq_iff_eq.2 h2
   have H2:=Zac h2
   clear h2
   by_cases h3:g1=g2
   ·have q3:(g1 == g2)=true:=beq_iff_eq.2 h3
    have H3:=Zac h3
    clear h3
    go_enter Tryz.func45,Tryz.ntmps45
    go_wp2_with fail
    refine(HE.out _ (HBA.out _ _)).mono ?_
    rintro e W1 ⟨rfl,hb1⟩
    have HB1:=Zac ((HBA.out _ _).trans (hb1.mono (HBA.out _ _).size))
    clear hb1
    go_wp2
    go_ret
    refine⟨ZbJ ?_,HB1.out⟩
    rw[HR.out]
    exact decide_eq_decide.2 ⟨fun h=>⟨H1.out,H2.out,H3.out,h⟩,fun h=>h.2.2.2⟩
   ·have q3:(g1 == g2)=false:=beq_eq_false_iff_ne.2 h3
    have HF:Hid (R=false):=HR.out.trans (decide_eq_false fun h=>h3 h.2.2.1)
    clear h3
    go_enter Tryz.func45,Tryz.ntmps45
    go_wp2
    go_ret
    exact⟨ZbJ HF.out.symm,HBA.out _ _⟩
  ·have q2:(s1 == s2)=false:=beq_eq_false_iff_ne.2 h2
   have HF:Hid (R=false):=HR.out.trans (decide_eq_false fun h=>h2 h.2.1)
   clear h2
   go_enter Tryz.func45,Tryz.ntmps45
   go_wp2
   go_ret
   exact⟨ZbJ HF.out.symm,HBA.out _ _⟩
 ·have q1:(k1 == k2)=false:=beq_eq_false_iff_ne.2 h1
  have HF:Hid (R=false):=HR.out.trans (decide_eq_false fun h=>h1 h.1)
  clear h1
  go_enter Tryz.func45,Tryz.ntmps45
  go_wp2
  go_ret
  exact⟨ZbJ HF.out.symm,HBA.out _ _⟩
theorem ZnV (e:Ent) (w:World):
 Calls Tryz.prog 189 #[ZrG e] w fun x w'=>x=.returned (.bool (decide (ZfP e)))∧Below w.heap.size w w':=by
 have HF:=ZZ (fun W=>Zju ⟨0,e.proc,e.seq,⟨0,0,0⟩,e.resp⟩ W)
 have hd:decide (ZaF ⟨0,e.proc,e.seq,⟨0,0,0⟩,e.resp⟩)=decide (ZfP e):=decide_eq_decide.2 (Zua e)
 rw[hd] at HF
 clear hd
 generalize decide (ZfP e)=D at *
 obtain⟨p,s,r⟩:=e
 unfold ZrG ZrL at *
 dsimp only at *
 have HB0:Hid (∀ X,Below w.heap.size w (w.alloc X)):=fun X=>(Below.refl _ _).alloc zL X
 go_enter Tryz.func189,Tryz.ntmps189
 go_wp2_with fail
 refine(HF.out _).mono ?_
 rintro x W1 ⟨rfl,hb1⟩
 have HB1:=ZZ ((HB0.out _).trans (hb1.mono (HB0.out _).size))
 clear hb1
 go_wp2
 go_ret
 exact⟨rfl,HB1.out⟩
theorem ZnW (v:Value) (t:List Ent) (w:World) (hr:RdE w v t):
 Calls Tryz.prog 140 #[v] w fun x w'=>x=.returned (.bool (decide (Zhg t)))∧Below w.heap.size w w':=by
 obtain⟨va,vc,rfl,hlc,hcm,-,hw,hao⟩:=hr
 have HAO:=ZZ hao
 have hml:(t.length:Int)<=9223372036854775807:=by unfold maxLen at hcm;omega
 obtain⟨D,hD⟩:∃ D,D=decide (Zhg t):=⟨_,rfl⟩
 rw[<-hD]
 have HD1:Hid (ZcT t t.length->D=true):=ZZ (fun h=>by rw[hD];exact decide_eq_true h)
 have HD0:Hid (∀ k,k<t.length->¬ ZcT t (k+1)->D=false):=ZZ (fun k hk h=>by rw[hD];exact decide_eq_false (fun h2=>h (ZcT.mono h2 hk)))
 have HM:=ZZ (fun e W=>ZnV e W)
 have HL0:Hid (Zjn t 0=0):=ZZ rfl
 have HL1:Hid (∀ k,Zjn t (k+1)=(t.getD k ZaP).proc+1):=ZZ (fun k=>rfl)
 have HN:Hid (∀ k,ZcT t (k+1)↔ZcT t k∧ZfP (t.getD k ZaP)∧Zjn t k<=(t.getD k ZaP).proc):=ZZ (fun k=>Zpk)
 clear hD hcm hlc hao hw
 go_enter Tryz.func140,Tryz.ntmps140
 go_wp2
 go_loopw[3,8] (fun vl vi wr=>∃ (k:Nat) (ls:Int),vi=.int .i64 (k:Int)∧vl=.int .i64 ls∧k<=t.length∧Hid (ls=Zjn t k)∧Hid (ZcT t k)∧Hid (Below w.heap.size w wr)) (fun _ vi _=>t.length-(intOf vi).toNat)
 case atStart=>exact⟨0,0,rfl,rfl,Nat.zero_le _,ZZ HL0.out.symm,ZZ (ZcT.zero t),Below.refl _ _⟩
 case round=>
  obtain⟨k,ls,rfl,rfl,hk,hLS,hT,hB⟩:=hrel
  by_cases hlt:k<t.length
  case neg=>
   obtain rfl:k=t.length:=by omega
   have HT:=ZZ (HD1.out hT.out)
   go_wp2
   go_ret
   rw[HT.out]
   exact⟨rfl,hB.out⟩
  have hki:(k:Int)<(t.length:Int):=by omega
  rcases HAO.out with h0 | ⟨c,off,rfl,hc⟩
  ·rw[h0] at hlt;simp at hlt
  obtain⟨c0,c1,c2⟩:=(hc k hlt).keep (hB.out.block c (hc k hlt).lt)
  have HNK:=ZZ (HN.out k)
  have HDK:=ZZ (HD0.out k hlt)
  have HL1K:=ZZ (HL1.out k)
  have HMK:=ZZ (fun W=>HM.out (t.getD k ZaP) W)
  rw[<-hLS.out] at HNK
  obtain⟨e,he⟩:∃ e,e=t.getD k ZaP:=⟨_,rfl⟩
  rw[<-he] at c0 c1 c2 HNK HL1K HMK
  clear he hc HM HN HD0 HD1 HL1 HL0 HAO
  obtain⟨dk,hdk⟩:∃ dk,dk=decide (ZfP e):=⟨_,rfl⟩
  rw[<-hdk] at HMK
  have HDD:=ZZ hdk
  have HB2:Hid (∀ X,Below w.heap.size w (wr.alloc X)):=ZZ (fun X=>hB.out.alloc hB.out.size X)
  have HX:Hid (∀ cs,Be (wr.alloc (.cells cs 85)) wr.heap.size cs):=ZZ (fun cs=>heap_alloc_new wr _)
  clear hdk
  unfold ZrG at HMK
  have HPB:Hid (dk=true->0<=e.proc∧e.proc<=64):=ZZ (fun h=>by
   have:ZfP e:=of_decide_eq_true (HDD.out.symm.trans h)
   exact⟨this.1,this.2.1⟩)
  by_cases hls:e.proc<ls
  ·have HF:=ZZ (HDK.out (fun h=>by have:=(HNK.out.1 h).2.2;omega))
   obtain⟨p,s,r⟩:=e
   dsimp only at *
   clear HNK HDK HMK HDD
   go_wp2
   go_ret
   rw[HF.out]
   exact⟨rfl,HB2.out _⟩
  ·have hnl:ls<=e.proc:=by omega
   have HNK2:Hid (dk=true->ZcT t (k+1)):=ZZ (fun h=>HNK.out.2 ⟨hT.out,of_decide_eq_true (HDD.out.symm.trans h),hnl⟩)
   have HNF:Hid (dk=false->D=false):=ZZ (fun h=>HDK.out (fun h2=>by
    have h3:=(HNK.out.1 h2).2.1
    have h4:dk=true:=HDD.out.trans (decide_eq_true h3)
    rw[h] at h4
    cases h4))
   obtain⟨p,s,r⟩:=e
   dsimp only at *
   clear HNK HDK HDD
   go_wp2_with fail
   refine(HMK.out _).mono ?_
   rintro x W1 ⟨rfl,hb1⟩
   have HB3:=ZZ ((HB2.out _).trans (hb1.mono (HB2.out _).size))
   have HX3:=ZZ ((HX.out _).below hb1 zL)
   obtain⟨q0,f0⟩:=HX3.out.cell 0
   clear hb1 HMK
   cases dk with
   | false=>
    have HF:=ZZ (HNF.out rfl)
    go_wp2
    go_ret
    rw[HF.out]
    exact⟨rfl,HB3.out⟩
   | true=>
    obtain⟨hp0,hp1⟩:=HPB.out rfl
    have hT2:=ZZ (HNK2.out rfl)
    go_wp2
    go_roundw
    case rel=>exact⟨k+1,p+1,by go_num,by go_num,by omega,ZZ HL1K.out.symm,hT2,HB3⟩
    case measure=>simp[intOf];omega
theorem Zwo (v:Value) (s:ZaX) (w:World) (hs:SnV w v s):
 Calls Tryz.prog 98 #[v] w fun e w'=>e=.returned (.bool (decide (Zks s)))∧Below w.heap.size w w':=by
 obtain⟨vl,vt,rfl,hl,hk,he,ht,hi⟩:=hs
 have HB0:Hid (∀ X,Below w.heap.size w (w.alloc X)):=fun X=>(Below.refl _ _).alloc zL X
 have HX:Hid (∀ cs,Bn (w.alloc (.cells cs 41)) w.heap.size cs):=ZZ (fun cs=>heap_alloc_new w _)
 have HM:=ZZ (fun W (h:Below w.heap.size w W)=>ZpA (.agg #[.int .i64 s.st.kind,vl,.bool s.st.shut,.int .i64 s.st.eng]) s.st W ⟨vl,rfl,hl.below h zL,hk,he⟩)
 have HT:=ZZ (fun W (h:Below w.heap.size w W)=>ZnW vt s.tab W (ht.below h zL))
 obtain⟨la,lc,hvl,-⟩:=hl
 obtain⟨ta,tc,hvt⟩:=ht.shape
 subst hvl hvt
 clear ht
 obtain⟨D,hD⟩:∃ D,D=decide (Zks s):=⟨_,rfl⟩
 rw[<-hD]
 have HD:Hid (D=decide (Zks s)):=ZZ hD
 have HU:Hid (Zks s↔(0<=s.idx∧s.idx<4611686018427387904)∧Zcw s.st∧Zhg s.tab):=ZZ Iff.rfl
 obtain⟨m,hm⟩:∃ m,m=decide (Zcw s.st):=⟨_,rfl⟩
 obtain⟨n,hn⟩:∃ n,n=decide (Zhg s.tab):=⟨_,rfl⟩
 rw[<-hm] at HM
 rw[<-hn] at HT
 have HMM:=ZZ hm
 have HNN:=ZZ hn
 clear hD hm hn hk he hi
 obtain⟨idx,⟨kind,L,shut,eng⟩,tab⟩:=s
 dsimp only at *
 by_cases h0:0<=idx
 case neg=>
  have HF:Hid (D=false):=ZZ (by rw[HD.out];exact decide_eq_false (fun h=>h0 (HU.out.1 h).1.1))
  go_enter Tryz.func98,Tryz.ntmps98
  go_wp2
  go_ret
  rw[HF.out]
  exact⟨rfl,HB0.out _⟩
 by_cases h1:idx<4611686018427387904
 case neg=>
  have HF:Hid (D=false):=ZZ (by rw[HD.out];exact decide_eq_false (fun h=>h1 (HU.out.1 h).1.2))
  go_enter Tryz.func98,Tryz.ntmps98
  go_wp2
  go_ret
  rw[HF.out]
  exact⟨rfl,HB0.out _⟩
 have HDD:Hid (D=(m && n)):=ZZ (by
  rw[HD.out,HMM.out,HNN.out,<-Bool.decide_and]
  exact decide_eq_decide.2 (HU.out.trans ⟨fun h=>h.2,fun h=>⟨⟨h0,h1⟩,h⟩⟩))
 clear HD HU HMM HNN
 go_enter Tryz.func98,Tryz.ntmps98
 go_wp2_with fail
 refine(HM.out _ (HB0.out _)).mono ?_
 rintro x W1 ⟨rfl,hb1⟩
 have HB1:=ZZ ((HB0.out _).trans (hb1.mono (HB0.out _).size))
 have HX1:=ZZ ((HX.out _).below hb1 zL)
 obtain⟨q5,f5⟩:=HX1.out.cell 5
 clear hb1 HM
 cases m with
 | false=>
  go_wp2
  go_ret
  rw[HDD.out]
  exact⟨rfl,HB1.out⟩
 | true=>
  go_wp2_with fail
  refine(HT.out _ HB1.out).mono ?_
  rintro x W2 ⟨rfl,hb2⟩
  have HB2:=ZZ (HB1.out.trans (hb2.mono HB1.out.size))
  clear hb2 HT
  go_wp2
  go_ret
  rw[HDD.out]
  exact⟨rfl,HB2.out⟩
theorem Zsf (va:Value) (A:List Ent) (vb:Value) (B:List Ent) (w:World) (ha:RdE w va A) (hb:RdE w vb B):
 Calls Tryz.prog 46 #[va,vb] w fun e w'=>e=.returned (.bool (decide (A=B)))∧Below w.heap.size w w':=by
 obtain⟨aa,ac,rfl,hlc,hcm,-,-,haa⟩:=ha
 obtain⟨ba,bc,rfl,-,hcm',-,-,hab⟩:=hb
 have HAA:=ZZ haa
 have HAB:=ZZ hab
 obtain⟨D,hD⟩:∃ D,D=decide (A=B):=⟨_,rfl⟩
 rw[<-hD]
 have HD1:Hid (A=B->D=true):=fun h=>by rw[hD];exact decide_eq_true h
 have HD0:Hid (¬ A=B->D=false):=fun h=>by rw[hD];exact decide_eq_false h
 have hgd:=Zud
 have hml:(A.length:Int)<=9223372036854775807:=by unfold maxLen at hcm;omega
 clear hD haa hab hcm hcm'
 by_cases hlen:A.length=B.length
 case neg=>
  have hne:((A.length:Int) != (B.length:Int))=true:=by rw[bne_iff_ne];omega
  have HE:=ZZ (HD0.out (fun h=>hlen (by rw[h])))
  clear hlen
  go_enter Tryz.func46,Tryz.ntmps46
  go_wp2
  go_ret
  rw[HE.out]
  exact⟨rfl,Below.refl _ _⟩
 have hne:((A.length:Int) != (B.length:Int))=false:=by rw[bne_eq_false_iff_eq];omega
 have HLEN:=ZZ hlen
 have HDT:Hid (A.take A.length=B.take A.length->D=true):=ZZ (fun h=>HD1.out (by
  rw[List.take_length,HLEN.out,List.take_length] at h
  exact h))
 have HDF:Hid (∀ k,k<A.length->A.getD k ZaP≠B.getD k ZaP->D=false):=ZZ (fun k hk h=>HD0.out (fun hs=>h (by rw[hs])))
 clear hlen HD1 HD0
 go_enter Tryz.func46,Tryz.ntmps46
 go_wp2
 go_loopw[13] (fun vi wr=>∃ k:Nat,vi=.int .i64 (k:Int)∧k<=A.length∧Hid (A.take k=B.take k)∧Hid (∃ n,wr=w.drewN n)) (fun vi _=>A.length-(intOf vi).toNat)
 case atStart=>exact⟨0,rfl,Nat.zero_le _,rfl,⟨0,rfl⟩⟩
 case round=>
  obtain⟨k,rfl,hk,hP,hW⟩:=hrel
  obtain⟨nw,hwr⟩:=hW.out
  subst hwr
  by_cases hlt:k<A.length
  case neg=>
   obtain rfl:k=A.length:=by omega
   have HT:=ZZ (HDT.out hP.out)
   go_wp2
   go_ret
   rw[HT.out]
   exact⟨rfl,Zaz (Below.refl _ _) _⟩
  rcases HAA.out with h0 | ⟨c,off,rfl,hc⟩
  ·rw[h0] at hlt;simp at hlt
  rcases HAB.out with h0 | ⟨c',off',rfl,hc'⟩
  ·have hlen:=HLEN.out;rw[h0] at hlen;simp at hlen;rw[hlen] at hlt;simp at hlt
  obtain⟨c0,c1,c2⟩:=hc k hlt
  obtain⟨d0,d1,d2⟩:=hc' k (by have:=HLEN.out;omega)
  have hki:(k:Int)<(A.length:Int):=by omega
  have hkj:(k:Int)<(B.length:Int):=by have:=HLEN.out;omega
  have HNE:=ZZ (HDF.out k hlt)
  have HPN:Hid (A.getD k ZaP=B.getD k ZaP->A.take (k+1)=B.take (k+1)):=fun h=>by rw[Zle hlt,Zle (by have:=HLEN.out;omega),hP.out,h]
  clear hc hc' HDT HDF
  generalize A.getD k ZaP=r at *
  generalize B.getD k ZaP=s at *
  by_cases hrs:r=s
  ·subst hrs
   have HP1:=ZZ (HPN.out rfl)
   have hneq:=fun W=>Zuc W r r
   rw[ZrH] at hneq
   clear HNE HPN
   go_upto_region 6 with fail
   go_quiet(fail)
   go_wp2
   go_roundw
   case rel=>exact⟨k+1,by go_num,by omega,HP1,⟨_,rfl⟩⟩
   case measure=>simp[intOf];omega
  ·have HD:=ZZ (HNE.out hrs)
   have hneq:=fun W=>Zuc W r s
   rw[Zue hrs] at hneq
   clear HNE HPN hrs
   go_upto_region 6 with fail
   go_quiet(fail)
   go_wp2
   go_ret
   rw[HD.out]
   exact⟨rfl,Zaz (Zaz (Below.refl _ _) _) _⟩
theorem ZuJ (va:Value) (a:ZaX) (vb:Value) (b:ZaX) (w:World) (ha:SnV w va a) (hb:SnV w vb b):
 Calls Tryz.prog 20 #[va,vb] w fun e w'=>e=.returned (.bool (decide (Zpr a b)))∧Below w.heap.size w w':=by
 obtain⟨vl,vt,rfl,hl,hk,he,ht,hi⟩:=ha
 obtain⟨vl',vt',rfl,hl',hk',he',ht',hi'⟩:=hb
 have HB0:Hid (∀ X Y,Below w.heap.size w ((w.alloc X).alloc Y)):=fun X Y=>((Below.refl _ _).alloc zL X).alloc (by simp) Y
 have HX0:Hid (∀ cs ds,Bn ((w.alloc (.cells cs 41)).alloc (.cells ds 41)) w.heap.size cs):=fun cs ds=>(Below.heap_alloc _ _ _ (by simp)).trans (heap_alloc_new w _)
 have HY0:Hid (∀ cs ds,Bn ((w.alloc (.cells cs 41)).alloc (.cells ds 41)) (w.heap.size+1) ds):=fun cs ds=>Zhs w _ _
 have HM:=ZZ (fun W (h:Below w.heap.size w W)=>ZuI (.agg #[.int .i64 a.st.kind,vl,.bool a.st.shut,.int .i64 a.st.eng]) a.st (.agg #[.int .i64 b.st.kind,vl',.bool b.st.shut,.int .i64 b.st.eng]) b.st W ⟨vl,rfl,hl.below h zL,hk,he⟩ ⟨vl',rfl,hl'.below h zL,hk',he'⟩)
 have HT:=ZZ (fun W (h:Below w.heap.size w W)=>Zsf vt a.tab vt' b.tab W (ht.below h zL) (ht'.below h zL))
 obtain⟨la,lc,hvl,-⟩:=hl
 obtain⟨la',lc',hvl',-⟩:=hl'
 obtain⟨ta,tc,hvt⟩:=ht.shape
 obtain⟨ta',tc',hvt'⟩:=ht'.shape
 subst hvl hvt hvl' hvt'
 obtain⟨D,hD⟩:∃ D,D=decide (Zpr a b):=⟨_,rfl⟩
 rw[<-hD]
 have HD:Hid (D=decide (Zpr a b)):=ZZ hD
 have HU:Hid (Zpr a b↔ZmQ a.st b.st∧a.idx=b.idx∧a.tab=b.tab):=ZZ Iff.rfl
 obtain⟨m,hm⟩:∃ m,m=decide (ZmQ a.st b.st):=⟨_,rfl⟩
 obtain⟨n,hn⟩:∃ n,n=decide (a.tab=b.tab):=⟨_,rfl⟩
 rw[<-hm] at HM
 rw[<-hn] at HT
 have HMM:=ZZ hm
 have HNN:=ZZ hn
 clear hD hm hn hk he hi hk' he' hi' ht ht'
 obtain⟨idx,⟨kind,L,shut,eng⟩,tab⟩:=a
 obtain⟨idx',⟨kind',L',shut',eng'⟩,tab'⟩:=b
 dsimp only at *
 by_cases h0:idx=idx'
 case neg=>
  have h0d:(idx == idx')=false:=beq_eq_false_iff_ne.2 h0
  have HF:Hid (D=false):=ZZ (by rw[HD.out];exact decide_eq_false (fun h=>h0 (HU.out.1 h).2.1))
  clear h0
  go_enter Tryz.func20,Tryz.ntmps20
  go_wp2
  go_ret
  rw[HF.out]
  exact⟨rfl,HB0.out _ _⟩
 have h0d:(idx == idx')=true:=beq_iff_eq.2 h0
 have HDD:Hid (D=(m && n)):=ZZ (by
  rw[HD.out,HMM.out,HNN.out,<-Bool.decide_and]
  exact decide_eq_decide.2 (HU.out.trans ⟨fun h=>⟨h.1,h.2.2⟩,fun h=>⟨h.1,h0,h.2⟩⟩))
 clear HD HU HMM HNN h0
 go_enter Tryz.func20,Tryz.ntmps20
 go_wp2_with fail
 refine(HM.out _ (HB0.out _ _)).mono ?_
 rintro x W1 ⟨rfl,hb1⟩
 have HB1:=ZZ ((HB0.out _ _).trans (hb1.mono (HB0.out _ _).size))
 have HX1:=ZZ ((HX0.out _ _).below hb1 zL)
 have HY1:=ZZ ((HY0.out _ _).below hb1 zL)
 obtain⟨q5,f5⟩:=HX1.out.cell 5
 obtain⟨r5,g5⟩:=HY1.out.cell 5
 clear hb1 HM
 cases m with
 | false=>
  go_wp2
  go_ret
  rw[HDD.out]
  exact⟨rfl,HB1.out⟩
 | true=>
  go_wp2_with fail
  refine(HT.out _ HB1.out).mono ?_
  rintro x W2 ⟨rfl,hb2⟩
  have HB2:=ZZ (HB1.out.trans (hb2.mono HB1.out.size))
  clear hb2 HT
  go_wp2
  go_ret
  rw[HDD.out]
  exact⟨rfl,HB2.out⟩
theorem ZqR (n:Int) (w:World) (h0:-9223372036854775808<=n) (h1:n<=9223372036854775807):
 Calls Tryz.prog 134 #[.int .i64 n] w fun e w'=>e=.returned (.int .i64 (Zih n:Nat))∧Below w.heap.size w w':=by
 by_cases h:0<=n∧n<=1048576
 ·obtain⟨h2,h3⟩:=h
  have HE:Hid (Zih n=(Lib.uvarint n.toNat).length+4+n.toNat):=if_pos ⟨h2,h3⟩
  have HP:Hid (∀ w,Calls Tryz.prog 132 #[.slice none 0 0,.int .i64 n] w fun e w'=>∃ ao cap,e=.returned (.slice ao (Lib.uvarint n.toNat).length cap)∧Below w.heap.size w w'):=by
   intro w
   refine(ZfU (.slice none 0 0) [] n w (Rd.nil _) (by simp)).mono ?_
   have e:ZrA [] n=Lib.uvarint n.toNat:=if_pos ⟨by omega,by omega⟩
   rintro e' w' ⟨v',rfl,ho,hb⟩
   rw[e] at ho
   obtain⟨ao,cap,rfl,_⟩:=ho.rd
   exact⟨ao,cap,rfl,hb⟩
  have hl3:(Lib.uvarint n.toNat).length<=3:=Zys (by omega)
  generalize (Lib.uvarint n.toNat).length=q at *
  go_enter Tryz.func134,Tryz.ntmps134
  go_wp2_with fail
  refine(HP.out _).mono ?_
  rintro e w1 ⟨ao,cap,rfl,hb1⟩
  have HB1:=ZZ hb1
  clear hb1 HP
  go_wp2
  go_ret
  refine⟨Zeo ?_,HB1.out⟩
  rw[HE.out]
  omega
 ·have HE:Hid (Zih n=0):=if_neg h
  by_cases h2:n<0
  ·clear h
   go_enter Tryz.func134,Tryz.ntmps134
   go_wp2
   go_ret
   exact⟨Zeo (by rw[HE.out];rfl),Below.refl _ _⟩
  ·have h3:1048576<n:=by omega
   clear h
   go_enter Tryz.func134,Tryz.ntmps134
   go_wp2
   go_ret
   exact⟨Zeo (by rw[HE.out];rfl),Below.refl _ _⟩
theorem ZxQ (v:Value) (l:List UInt8) (w:World) (hr:Rd w v l):
 Calls Tryz.prog 217 #[v] w fun e w'=>e=.returned (.bool (decide (Zcz l)))∧w'=w:=by
 obtain⟨ao,cap,rfl,hlc,hcm,hn0,hao⟩:=hr
 clear hn0
 have hml:(l.length:Int)<=9223372036854775807:=by unfold maxLen at hcm;omega
 by_cases h10:(l.length:Int)<10
 ·go_enter Tryz.func217,Tryz.ntmps217
  go_wp2
  go_loop [10] (fun i=>∃ k:Nat,i=.int .i64 k∧k<=l.length∧Hid (∀ j,j<k->128<=(l.getD j 0).toNat)) (fun i=>l.length-(intOf i).toNat)
  case atStart=>exact⟨0,rfl,by omega,fun j hj=>by omega⟩
  case round=>
   obtain⟨k,rfl,hkl,hall⟩:=hrel
   by_cases hlt:k<l.length
   ·rcases hao with hao | ⟨b,off,rfl,hc⟩
    ·subst hao;simp at hlt
    ·have hck:=hc k hlt
     clear hc
     obtain⟨y,hy⟩:∃ y,y=(l.getD k 0).toNat:=⟨_,rfl⟩
     rw[<-hy] at hck
     have HY:Hid (y=(l.getD k 0).toNat):=hy
     clear hy
     by_cases hyb:(y:Int)<128
     ·go_wp2
      go_ret
      refine⟨Zgh ?_,rfl⟩
      symm
      refine decide_eq_false fun ho=>?_
      have:=ho.2 k hlt
      rw[<-HY.out] at this
      omega
     ·go_wp2
      go_round
      case rel=>
       refine⟨k+1,by go_num,by omega,fun j hj=>?_⟩
       by_cases e:j=k
       ·rw[e,<-HY.out];omega
       ·exact hall.out j (by omega)
      case measure=>simp[intOf];omega
   ·go_wp2
    go_ret
    refine⟨Zgh ?_,rfl⟩
    symm
    exact decide_eq_true ⟨by omega,fun j hj=>hall.out j (by omega)⟩
 ·go_enter Tryz.func217,Tryz.ntmps217
  go_wp2
  go_ret
  refine⟨Zgh ?_,rfl⟩
  symm
  exact decide_eq_false fun ho=>by have:=ho.1;omega
theorem Own.made0 (w:World) (B:Nat) (hB:B<=w.heap.size):Own (w.alloc (.cells #[] 5)) B (.slice (some ⟨w.heap.size,0,none⟩) 0 0) []:=
 ⟨rfl,.inr ⟨w.heap.size,0,#[],rfl,hB,heap_alloc_new w _,Nat.le_refl _,Nat.zero_le _,rfl,rfl⟩⟩
theorem ZuK (v:Value) (l:List UInt8) (w:World) (hr:Rd w v l) (hlim:l.length<=70368744177664):
 Calls Tryz.prog 113 #[v] w fun e w'=>∃ v',e=.returned v'∧Own w' w.heap.size v' l∧Below w.heap.size w w':=by
 have HR:=ZZ hr
 obtain⟨ao,cap,rfl,hlc,hcm,hn0,hao⟩:=hr
 cases ao with
 | none=>
  have hc:=hn0 rfl
  have hl:l=[]:=List.eq_nil_of_length_eq_zero (by omega)
  subst hl
  subst hc
  clear hao hn0
  have hnil:∀ w,(binOp .eql 53 (.slice none 0 0) (.slice none 0 0)).run Tryz.prog w=.ok (.bool true) w:=fun w=>run_eql_slice_nil w _ _ none 0 0 Tryz.underlying53
  go_enter Tryz.func113,Tryz.ntmps113
  go_wp2
  go_ret
  exact⟨_,rfl,Own.nil _ _,Below.refl _ _⟩
 | some ad=>
  clear hao hn0 hlc hcm
  have hnil:∀ w,(binOp .eql 53 (.slice (some ad) l.length cap) (.slice none 0 0)).run Tryz.prog w=.ok (.bool false) w:=fun w=>run_eql_slice_nil w _ _ (some ad) _ _ Tryz.underlying53
  have HO:=ZZ (Own.made0 w w.heap.size zL)
  have HB:=ZZ ((Below.refl w.heap.size w).alloc zL (.cells #[] 5))
  have HR1:=ZZ (HR.out.below HB.out zL)
  have HS:Hid (w.heap.size<=(w.alloc (.cells #[] 5)).heap.size):=HB.out.size
  go_enter Tryz.func113,Tryz.ntmps113
  go_wp2_with(at_builtin;refine ZaK _ rfl _ _ rfl w.heap.size _ [] rfl HO.out _ l rfl HR1.out (by simp;omega) HS.out ?_)
  intro v4 w4 ho4 hb4
  have HO4:=ZZ ho4
  have HB4:=ZZ (HB.out.trans hb4)
  clear ho4 hb4
  go_wp2
  go_ret
  exact⟨v4,rfl,HO4.out,HB4.out⟩
theorem ZhA (v:Value) (l:List UInt8) (w:World) (hr:Rd w v l):
 Calls Tryz.prog 91 #[v] w fun e w'=>∃ v',e=.returned (.tuple #[v',.int .i64 ((Zym l).2:Nat)])∧Own w' w.heap.size v' (Zym l).1∧Below w.heap.size w w':=by
 have HR:=ZZ hr
 obtain⟨i0,hi,hz0,hz1,hz2⟩:=info_parts ZlG
 obtain⟨ao,cap,rfl,hlc,hcm,hn0,hao⟩:=hr
 clear hn0 hao
 have hml:(l.length:Int)<=9223372036854775807:=by unfold maxLen at hcm;omega
 by_cases h:(l.length:Int)<=1048576
 ·have HE:Hid (Zym l=(Zbr l++Lib.leBytes 4 (ZaH 0 (Zbr l)),0)):=if_pos (by omega)
  have HP:Hid (∀ w,Calls Tryz.prog 132 #[.slice none 0 0,.int .i64 (l.length:Int)] w fun e w'=>∃ v',e=.returned v'∧Own w' w.heap.size v' (Lib.uvarint l.length)∧Below w.heap.size w w'):=by
   intro w
   have:=ZfU (.slice none 0 0) [] (l.length:Int) w (Rd.nil _) (by simp)
   have e:ZrA [] (l.length:Int)=Lib.uvarint l.length:=if_pos ⟨by omega,by omega⟩
   rwa [e] at this
  have HZ:Hid (∀ w,Calls Tryz.prog 134 #[.int .i64 (l.length:Int)] w fun e w'=>e=.returned (.int .i64 (Zih (l.length:Int):Nat))∧Below w.heap.size w w'):=fun w=>ZqR _ w (by omega) (by omega)
  have HS:Hid (∀ v w,Rd w v (Zbr l)->Calls Tryz.prog 136 #[v] w fun e w'=>e=.returned (.int .u32 (ZaH 0 (Zbr l):Nat))∧Below w.heap.size w w'):=fun v w h=>ZpM v _ w h
  have HF:Hid (∀ w,Calls Tryz.prog 135 #[.int .u32 (ZaH 0 (Zbr l):Nat)] w fun e w'=>∃ v',e=.returned v'∧Own w' w.heap.size v' (Lib.leBytes 4 (ZaH 0 (Zbr l)))∧Below w.heap.size w w'):=fun w=>Zph _ w (Zty _)
  have HH:Hid (Zbr l=Lib.uvarint l.length++l):=rfl
  have HL4:Hid ((Lib.leBytes 4 (ZaH 0 (Zbr l))).length=4):=Lib.leBytes_length 4 _
  have HL3:Hid ((Lib.uvarint l.length).length<=3):=Zys (by omega)
  have hsz:Zih (l.length:Int)<=2000000:=by
   have e:Zih (l.length:Int)=(Lib.uvarint l.length).length+4+l.length:=if_pos ⟨by omega,h⟩
   have:=HL3.out
   rw[e]
   omega
  generalize Zih (l.length:Int)=z at *
  generalize ZaH 0 (Zbr l)=s at *
  obtain⟨S,hS⟩:∃ S:Int,S=(s:Int):=⟨_,rfl⟩
  rw[<-hS] at HF HS
  clear hS
  generalize Lib.leBytes 4 s=q at *
  generalize Lib.uvarint l.length=u at *
  generalize Zbr l=hd at *
  have hh:=HH.out
  subst hh
  clear HH
  go_enter Tryz.func91,Tryz.ntmps91
  go_wp2_with fail
  refine(HZ.out _).mono ?_
  rintro e w1 ⟨rfl,hb1⟩
  have HB1:=ZZ hb1
  have hs1:=hb1.size
  clear hb1 HZ
  go_wp2_with(at_make;refine wpList_make_own _ rfl _ _ 53 rfl w.heap.size 5 i0 (.int .u8 0) 1 Tryz.underlying53 hi hz0 hz1 _ _ _ z rfl rfl (by omega) (by rw[hz2];omega) (by unfold maxLen;omega) hs1 ?_)
  intro w2 hown hgrow
  have HO2:Hid (Own w2 w.heap.size (.slice (some ⟨w1.heap.size,0,none⟩) 0 z) []):=hown
  have HB2:=ZZ (HB1.out.grown hgrow hs1 (fun k hk=>by cases hk))
  have hs2:=HB2.out.size
  clear hown hgrow
  go_wp2_with fail
  refine(HP.out _).mono ?_
  rintro e w3 ⟨v3,rfl,ho3,hb3⟩
  have HB3:=ZZ (HB2.out.trans (hb3.mono hs2))
  have HR3:=ZZ ho3.rd
  have HO3:=ZZ (HO2.out.below hb3 zL)
  have hs3:=HB3.out.size
  clear ho3 hb3 HP
  go_wp2_with(at_builtin;refine ZaK _ rfl _ _ rfl w.heap.size _ [] rfl HO3.out _ u rfl HR3.out (by have:=HL3.out;simp;omega) hs3 ?_)
  intro v4 w4 ho4 hb4
  have HB4:=ZZ (HB3.out.trans hb4)
  have HO4:Hid (Own w4 w.heap.size v4 u):=ho4
  have hs4:=HB4.out.size
  clear ho4 hb4
  go_wp2_with(at_builtin;refine ZaK _ rfl _ _ rfl w.heap.size _ u rfl HO4.out _ l rfl (HR.out.below HB4.out zL) (by have:=HL3.out;omega) hs4 ?_)
  intro v5 w5 ho5 hb5
  have HB5:=ZZ (HB4.out.trans hb5)
  have HO5:Hid (Own w5 w.heap.size v5 (u++l)):=ho5
  have hs5:=HB5.out.size
  clear ho5 hb5
  go_wp2_with fail
  refine(HS.out _ _ HO5.out.rd).mono ?_
  rintro e w6 ⟨rfl,hb6⟩
  have HB6:=ZZ (HB5.out.trans (hb6.mono hs5))
  have HO6:=ZZ (HO5.out.below hb6 zL)
  have hs6:=HB6.out.size
  clear hb6 HS
  go_wp2_with fail
  refine(HF.out _).mono ?_
  rintro e w7 ⟨v7,rfl,ho7,hb7⟩
  have HB7:=ZZ (HB6.out.trans (hb7.mono hs6))
  have HR7:=ZZ ho7.rd
  have HO7:=ZZ (HO6.out.below hb7 zL)
  have hs7:=HB7.out.size
  clear ho7 hb7 HF
  go_wp2_with(at_builtin;refine ZaK _ rfl _ _ rfl w.heap.size _ (u++l) rfl HO7.out _ q rfl HR7.out (by have:=HL3.out;have:=HL4.out;simp;omega) hs7 ?_)
  intro v8 w8 ho8 hb8
  have HB8:=ZZ (HB7.out.trans hb8)
  have HO8:=ZZ ho8
  clear ho8 hb8
  go_wp2
  go_ret2
  exact⟨v8,by rw[HE.out];rfl,by rw[HE.out];show Own _ _ _ (u++l++q);rw[List.append_assoc];exact HO8.out,HB8.out⟩
 ·have HE:Hid (Zym l=([],5)):=if_neg (by omega)
  go_enter Tryz.func91,Tryz.ntmps91
  go_wp2
  go_ret2
  exact⟨_,by rw[HE.out];rfl,by rw[HE.out];exact Own.nil _ _,Below.refl _ _⟩
theorem ZpN {K:Nat->Prop} {pd p:Nat} {s:Sto} {d:Dk} {N T:Nat} (w:World) (h:SD K w pd p s d N T) (hK:∀ k,K k->k<w.heap.size) (hn:Ztd s):
 Calls Tryz.prog 26 #[ptr p] w fun e w'=>ZjF K w pd p (Zcc (s,d)) (N+4) T e w':=by
 have HC:=ZZ (ZnP w h hK hn)
 unfold Zcc
 obtain⟨r,hr⟩:∃ r,r=Zch (s,d):=⟨_,rfl⟩
 rw[<-hr] at HC ⊢
 have HK:=ZZ hK
 obtain⟨R,hR⟩:∃ R,R=if r.2=0 then(({ r.1.1 with cur:=0 },r.1.2),(0:Int)) else r:=⟨_,rfl⟩
 rw[<-hR]
 have HR:=ZZ hR
 clear h hK hr hR hn
 obtain⟨⟨s1,d1⟩,c⟩:=r
 dsimp only at HR
 unfold ZjF at HC
 dsimp only at HC
 go_enter Tryz.func26,Tryz.ntmps26
 go_wp2_with fail
 refine HC.out.mono ?_
 rintro e W1 ⟨rfl,hs1,ho1⟩
 have HS1:=ZZ hs1
 have HO1:=ZZ ho1
 have HKW:Hid (∀ k,K k->k<W1.heap.size):=ZZ (fun k hk=>Nat.lt_of_lt_of_le (HK.out k hk) ho1.size)
 obtain⟨⟨-,-,c12,-⟩,fz⟩:=hs1.cells
 have f12:=fz 12
 clear hs1 ho1 HC fz
 by_cases hc:c=0
 ·subst hc
  rw[if_pos rfl] at HR
  have HF:=ZZ (HS1.out.setHead (s':={ s1 with cur:=0 }) HKW.out 12 (.int .i64 0) rfl rfl rfl (fun _=>rfl))
  generalize s1.cur=cu at *
  go_wp2
  go_ret
  rw[HR.out]
  exact⟨rfl,HF.out.1,HO1.out.trans HF.out.2 (fun _ _ h=>h)⟩
 ·rw[if_neg hc] at HR
  have hcb:(c != 0)=true:=by rw[bne_iff_ne];exact hc
  clear hc
  go_wp2
  go_ret
  rw[HR.out]
  exact⟨rfl,HS1.out,HO1.out⟩
theorem ZhB {l:List Rec} {q:Nat} (h:q<l.length):l.take (q+1)=l.take q++[l.getD q Zai]:=by
 rw[List.take_add_one]
 simp[List.getD,h]
theorem ZnX:∀ (l:List Rec) (i:Int) (j:Nat),ZaO i l->j<l.length->(l.getD j Zai).idx=i+j
 | r::t,i,0,h,_=>by
  have:=h.1
  simp[List.getD,this]
 | r::t,i,j+1,h,hj=>by
  have:=ZnX t (i+1) j h.2 (by simpa using hj)
  simp only [List.getD,List.getElem?_cons_succ] at this ⊢
  rw[this]
  omega
theorem ZhC:∀ (l:List Rec) (i:Int) (r:Rec),ZaO i (l++[r])↔ZaO i l∧r.idx=i+l.length
 | [],i,r=>by simp[ZaO]
 | s::t,i,r=>by
  rw[List.cons_append,ZaO,ZaO,ZhC t (i+1) r,List.length_cons,and_assoc]
  constructor
  ·rintro⟨h1,h2,h3⟩
   exact⟨h1,h2,by omega⟩
  ·rintro⟨h1,h2,h3⟩
   exact⟨h1,h2,by omega⟩
theorem Zll:∀ (l:List Rec) (i:Int) (k:Nat),ZaO i l->ZaO i (l.take k)
 | _,_,0,_=>by simp[ZaO]
 | [],_,k+1,_=>by simp[ZaO]
 | r::t,i,k+1,h=>by
  rw[List.take_succ_cons]
  exact⟨h.1,Zll t (i+1) k h.2⟩
def ZkE (l:List Rec) (k:Nat):Prop:=(∀ r ∈ l.take k,ZaF r)∧ZaO (l.headD Zai).idx (l.take k)
theorem Zsg (l:List Rec):ZkE l 0:=⟨fun r h=>by simp at h,by simp[ZaO]⟩
theorem Zsh {l:List Rec} {k:Nat} (hk:k<l.length):ZkE l (k+1)↔ZkE l k∧ZaF (l.getD k Zai)∧(l.getD k Zai).idx=(l.headD Zai).idx+k:=by
 unfold ZkE
 rw[ZhB hk,ZhC]
 have hl:(l.take k).length=k:=by simp;omega
 rw[hl]
 constructor
 ·rintro⟨h1,h2,h3⟩
  exact⟨⟨fun r hr=>h1 r (by simp[hr]),h2⟩,h1 _ (by simp),h3⟩
 ·rintro⟨⟨h1,h2⟩,h3,h4⟩
  refine⟨fun r hr=>?_,h2,h4⟩
  rcases List.mem_append.1 hr with h | h
  ·exact h1 r h
  ·simp only [List.mem_singleton] at h
   rw[h]
   exact h3
theorem ZuL {l:List Rec} (h:ZkE l l.length) (h1:1<=l.length) (h2:l.length<=256):ZaY l:=by
 unfold ZkE at h
 rw[List.take_length] at h
 exact⟨h1,h2,h.1,h.2⟩
theorem ZaY.part {l:List Rec} (h:ZaY l) (k:Nat):ZkE l k:=⟨fun r hr=>h.2.2.1 r (List.mem_of_mem_take hr),Zll l _ k h.2.2.2⟩
theorem ZhX {o:Opn} (h:ZcS o):(ZaN o).length<=30:=by
 have h1:=Zxd (Zdc h).1
 have h2:=Zxd (Zdc h).2
 have hc0:0<=o.code:=h.1
 have hc1:o.code<=10:=h.2.1
 have h3:=ZfX (n:=o.code.toNat) (by omega)
 unfold ZaN
 rw[List.length_append,List.length_append]
 omega
theorem Zlm {pre:List Rec} (hp:∀ r ∈ pre,ZaF r) {r:Rec} (hr:ZaF r):(Zbt pre r).length<=60:=by
 have hd:=Zgt hp hr
 have hresp:=Zdq hr
 have h4:=ZhX hr.1
 obtain⟨_,_,_,_,_,hp0,hp1,_⟩:=hr
 have h1:=ZfX (n:=r.proc.toNat) (by omega)
 have h2:=Zxd hd
 have h3:=Zxd hresp
 unfold Zbt
 simp only [List.length_append]
 omega
theorem ZnY:∀ (l pre:List Rec),(∀ r ∈ pre,ZaF r)->(∀ r ∈ l,ZaF r)->(Zbf pre l).length<=60*l.length
 | [],_,_,_=>by simp[Zbf]
 | r::t,pre,hp,hl=>by
  have h1:=Zlm hp (hl r (by simp))
  have h2:=ZnY t (pre++[r]) (fun s hs=>by
   rcases List.mem_append.1 hs with h | h
   ·exact hp s h
   ·simp at h;rw[h];exact hl r (by simp)) (fun s hs=>hl s (by simp[hs]))
  rw[Zbf,List.length_append,List.length_cons]
  omega
def Zmq (w:World) (l:List Rec) (e:Ending) (w':World):Prop:=
 ∃ v',e=.returned (.tuple #[v',.int .i64 (if ZaY l then 0 else 1)])∧Own w' w.heap.size v' (if ZaY l then ZcU l else[])∧Below w.heap.size w w'
theorem Below.allocs {a w:World} (h:Below a.heap.size a w) (X:Obj):Below a.heap.size a (w.alloc X):=h.alloc h.size X
theorem Zwp {n:Nat} (h:n<128):Lib.uvarint n=[n.toUInt8]:=Lib.uvarint_small h
theorem Zln {v k f:Nat} (h1:1<=v) (h3:v<=3) (hk:k<6) (hf:f<4611686018427387904):Zcb (Zbk v k f)=.ok (v,k,f):=by
 have q1:=Lib.uvarint_pos v
 have q2:=Lib.uvarint_pos k
 have q3:=Lib.uvarint_pos f
 have d1:Zab ((Zbk v k f).drop 1)=(v,(Lib.uvarint v).length):=by
  unfold Zbk
  rw[List.drop_succ_cons,List.drop_zero]
  exact ZaL _ _ (by omega)
 have e2:(Zbk v k f).drop (1+(Lib.uvarint v).length)=Lib.uvarint k++Lib.uvarint f:=by
  unfold Zbk
  rw[Nat.add_comm,List.drop_succ_cons,List.drop_left]
 have d2:Zab ((Zbk v k f).drop (1+(Lib.uvarint v).length))=(k,(Lib.uvarint k).length):=by
  rw[e2]
  exact ZaL _ _ (by omega)
 have e3:(Zbk v k f).drop (1+(Lib.uvarint v).length+(Lib.uvarint k).length)=Lib.uvarint f:=by
  rw[<-List.drop_drop,e2,List.drop_left]
 have d3:Zab ((Zbk v k f).drop (1+(Lib.uvarint v).length+(Lib.uvarint k).length))=(f,(Lib.uvarint f).length):=by
  rw[e3]
  have:=ZaL f [] hf
  rw[List.append_nil] at this
  exact this
 have hl:(Zbk v k f).length=1+(Lib.uvarint v).length+(Lib.uvarint k).length+(Lib.uvarint f).length:=by
  unfold Zbk
  simp only [List.length_cons,List.length_append]
  omega
 unfold Zcb
 simp only [d1,d2,d3]
 rw[if_neg (by rintro(h | h);exact absurd h (by unfold Zbk;simp);exact h rfl),if_neg (by omega),if_neg (by omega),if_neg (by omega)]
theorem Zff {v k f:Nat} (h3:v<=3) (hk:k<6) (hf:f<4611686018427387904):(Zbk v k f).length<=40:=by
 have q1:(Lib.uvarint v).length<=10:=Lib.uvarint_length64 (by omega)
 have q2:(Lib.uvarint k).length<=10:=Lib.uvarint_length64 (by omega)
 have q3:(Lib.uvarint f).length<=10:=Lib.uvarint_length64 (by omega)
 unfold Zbk
 simp only [List.length_cons,List.length_append]
 omega
theorem ZpO {pre:List Rec} (hp:∀ r ∈ pre,ZaF r) {r:Rec} (hr:ZaF r):(Zbt pre r).length<=60:=by
 have hd:=Zgt hp hr
 have hresp:=Zdq hr
 obtain⟨g1,_,_,_,_,hp0,hp1,_⟩:=hr
 have q1:(Lib.uvarint r.proc.toNat).length<=10:=Lib.uvarint_length64 (by omega)
 have q2:(Lib.uvarint (Lib.zigzag (r.seq-Zar pre r.proc))).length<=10:=Lib.uvarint_length64 (ZeS hd)
 have q4:(Lib.uvarint r.op.code.toNat).length<=10:=Lib.uvarint_length64 (by have:=g1.1;have:=g1.2.1;omega)
 have q5:(Lib.uvarint (Lib.zigzag r.op.a)).length<=10:=Lib.uvarint_length64 (ZeS (Zdc g1).1)
 have q6:(Lib.uvarint (Lib.zigzag r.op.b)).length<=10:=Lib.uvarint_length64 (ZeS (Zdc g1).2)
 have q7:(Lib.uvarint (Lib.zigzag r.resp)).length<=10:=Lib.uvarint_length64 (ZeS hresp)
 unfold Zbt ZaN
 simp only [List.length_append]
 omega
theorem ZhD:∀ (l pre:List Rec),(∀ r ∈ pre,ZaF r)->(∀ r ∈ l,ZaF r)->(Zbf pre l).length<=60*l.length
 | [],_,_,_=>by simp[Zbf]
 | r::t,pre,hp,hl=>by
  have hr:=hl r (by simp)
  have h1:=ZpO hp hr
  have h2:=ZhD t (pre++[r]) (fun s hs=>by
   rcases List.mem_append.1 hs with h | h
   ·exact hp s h
   ·rw[List.mem_singleton.1 h];exact hr) (fun s hs=>hl s (by simp[hs]))
  rw[Zbf,List.length_append,List.length_cons]
  omega
theorem ZeA {d:List UInt8} {v k f:Nat} (h:Zcb d=.ok (v,k,f)):d=Zbk v k f∧1<=v∧v<=3∧k<6∧f<4611686018427387904:=by
 unfold Zcb at h
 simp only at h
 split at h
 ·cases h
 rename_i g1
 split at h
 ·cases h
 rename_i g2
 split at h
 ·cases h
 rename_i g3
 split at h
 ·cases h
 rename_i g4
 simp only [Except.ok.injEq,Prod.mk.injEq] at h
 obtain⟨hv,hk,hf⟩:=h
 have t1:=Zbn (l:=d.drop 1) (by omega)
 have t2:=Zbn (l:=d.drop (1+(Zab (d.drop 1)).2)) (by omega)
 have t3:=Zbn (l:=d.drop (1+(Zab (d.drop 1)).2+(Zab (d.drop (1+(Zab (d.drop 1)).2))).2)) (by omega)
 have hf62:f<4611686018427387904:=by
  rw[<-hf]
  rcases Zau (d.drop (1+(Zab (d.drop 1)).2+(Zab (d.drop (1+(Zab (d.drop 1)).2))).2)) with h | h
  ·rw[h];decide
  ·exact h.1
 rw[hv] at t1 g3
 rw[hk] at t2 g4
 rw[hf] at t3
 generalize (Zab (d.drop 1)).2=i at *
 generalize (Zab (d.drop (1+i))).2=j at *
 generalize (Zab (d.drop (1+i+j))).2=m at *
 refine⟨?_,by omega,by omega,by omega,hf62⟩
 cases d with
 | nil=>exact absurd (.inl rfl) g1
 | cons c t=>
  have hc:c=108:=by
   have:=fun h=>g1 (.inr h)
   simpa using Decidable.not_not.1 this
  have x1:(c::t).drop 1=t:=rfl
  have x2:(c::t).drop (1+i)=t.drop i:=by rw[Nat.add_comm,List.drop_succ_cons]
  have x3:(c::t).drop (1+i+j)=(t.drop i).drop j:=by rw[<-List.drop_drop,x2]
  rw[x1] at t1
  rw[x2] at t2
  rw[x3] at t3
  have hm:m=((t.drop i).drop j).length:=by
   have:1+i+j+m=(c::t).length:=Decidable.not_not.1 (fun h=>g2 (.inr (.inr (.inr h))))
   rw[List.length_cons] at this
   rw[List.length_drop,List.length_drop]
   omega
  rw[hm,List.take_length] at t3
  unfold Zbk
  rw[hc,t1,t2,t3,List.take_append_drop,List.take_append_drop]
def ZhY (k f:Int):Prop:=0<=k∧k<6∧0<=f∧f<4611686018427387904
instance (k f:Int):Decidable (ZhY k f):=by unfold ZhY;infer_instance
def ZbP (v k f:Int):Int:=if 1<=v∧v<=3 then(if ZhY k f then 0 else 1) else 6
def Zik (v k f:Int):List UInt8:=if 1<=v∧v<=3 then(if ZhY k f then Zad (Zbk v.toNat k.toNat f.toNat) else[]) else[]
def ZqS (w:World) (v k f:Int) (e:Ending) (w':World):Prop:=
 ∃ v',e=.returned (.tuple #[v',.int .i64 (ZbP v k f)])∧Own w' w.heap.size v' (Zik v k f)∧Below w.heap.size w w'
theorem Rd.byte (w:World) (c:UInt8):Rd (w.alloc (.cells #[.int .u8 c.toNat] 5)) (.slice (some ⟨w.heap.size,0,none⟩) 1 1) [c]:=by
 refine⟨some ⟨w.heap.size,0,none⟩,1,rfl,Nat.le_refl _,by unfold maxLen;omega,(fun h=>by cases h),.inr ⟨w.heap.size,0,rfl,fun j hj=>?_⟩⟩
 have e:j=0:=by simpa using hj
 subst e
 rw[cell_of_row _ w.heap.size 0 _ 5 (0,0) (heap_alloc_new w _)]
 rfl
theorem Zmr {l:List UInt8} (h:l.length<=1048576):Zym l=(Zad l,0):=by
 unfold Zym
 rw[if_pos h]
theorem Zsi {L:List (List UInt8)} {q:Nat} (h:q<L.length):L.take (q+1)=L.take q++[L.getD q []]:=by
 rw[List.take_add_one]
 simp[List.getD,h]
theorem RdL.at {w:World} {ao:Option Addr} {n cap:Nat} {L:List (List UInt8)} (h:RdL w (.slice ao n cap) L) (k:Nat) (hk:k<L.length):
 ∃ b off x,ao=some ⟨b,off,none⟩∧(∀ W,Below w.heap.size w W->W.cell? ⟨b,off+k,none⟩=some x)∧∀ W,Below w.heap.size w W->Rd W x (L.getD k []):=by
 obtain⟨ao',cap',e,_,_,_,hao⟩:=h
 simp only [Value.slice.injEq] at e
 obtain⟨rfl,_,rfl⟩:=e
 rcases hao with h0 | ⟨b,off,hab,hc⟩
 ·rw[h0] at hk;simp at hk
 ·obtain⟨x,hx,hxr⟩:=hc k hk
  have hlt:b<w.heap.size:=World.block_lt_of_cell? w ⟨b,off+k,none⟩ hx
  exact⟨b,off,x,hab,fun W hb=>(hb.cell (p:=⟨b,off+k,none⟩) hlt).trans hx,fun W hb=>hxr.below hb zL⟩
theorem ZeL:∀ (L:List (List UInt8)) (k:Nat),(L.take k).flatten.length<=L.flatten.length
 | [],k=>by simp
 | x::L,0=>by simp
 | x::L,k+1=>by
  have:=ZeL L k
  rw[List.take_succ_cons,List.flatten_cons,List.flatten_cons,List.length_append,List.length_append]
  omega
theorem ZqT {L:List (List UInt8)} {q:Nat} (h:q<L.length):L.getD q [] ∈ L:=by
 have e:L.getD q []=L[q]:=by simp[List.getD,h]
 rw[e]
 exact List.getElem_mem h
theorem ZfD (B:List (List UInt8)):(B.map Zad).flatten=Zag B:=by
 unfold Zag
 rw[List.flatMap_def]
theorem Zwq (l:List UInt8):(Zab l).1<4611686018427387904:=by
 rcases Zau l with h | h
 ·rw[h];decide
 ·exact h.1
theorem Zwr (W:World) (ao:Option Addr) (cap:Nat) (l:List UInt8) (hr:Rd W (.slice ao l.length cap) l) (n:Nat) (hn:n<=l.length):Rd W (.slice (if cap=n then ao else Option.map (fun x=>x.add n) ao) (l.length-n) (cap-n)) (l.drop n):=by
 have hlc:l.length<=cap:=by
  obtain⟨a,c,e,h,-⟩:=hr
  simp only [Value.slice.injEq] at e
  omega
 have h:=hr.mid n l.length cap (by omega) (by omega) (by omega) (by omega)
 rw[List.take_of_length_le (by rw[List.length_drop];omega)] at h
 simpa[sliced] using h
theorem ZpP (W:World) (ao:Option Addr) (l:List UInt8) (cap:Nat) (_hlc:l.length<=cap) (i:Int) (n:Nat) (hi:i=(n:Int)) (hn:n<=l.length):
 (Instr.sliceAt 53 (.slice ao l.length cap) (some (.int .i64 i)) none none).run Tryz.prog W=.ok (sliced ao n l.length cap 1) W:=by
 subst hi
 rw[run_sliceAt_slice W 53 _ _ _ _ ZaA,run_slice_l W 53 ao l.length cap ZaA .i64 (n:Int) (by omega) (by omega),ZbG,Zev]
 rfl
def Zdk (w:World) (b:List UInt8) (e:Ending) (w':World):Prop:=
 ∃ (vl:Value) (l:List Rec) (n:Int),e=.returned (.tuple #[vl,.int .i64 n])∧RdR w' vl l∧DecB b l n∧Below w.heap.size w w'
theorem Zdk.none {w w':World} {b:List UInt8} (h:∀ l',ZaY l'->ZcU l'≠b) (hb:Below w.heap.size w w'):Zdk w b (.returned (.tuple #[.slice none 0 0,.int .i64 3])) w':=
 ⟨_,[],3,rfl,RdR.nil _,.inr ⟨rfl,rfl,h⟩,hb⟩
theorem Zsj {l:List Rec} (h:ZaY l):ZaF (l.headD Zai):=by
 obtain⟨h1,_,hf,_⟩:=h
 match l,h1 with
 | r::u,_=>exact hf r (by simp)
theorem ZpQ {l:List Rec} (h:ZaY l) {b:List UInt8} (hb:ZcU l=b):
 ((Zab b).1:Int)=(l.headD Zai).idx∧(Zab b).2≠0∧(Zab (b.drop (Zab b).2)).1=l.length∧(Zab (b.drop (Zab b).2)).2≠0∧b.drop ((Zab b).2+(Zab (b.drop (Zab b).2)).2)=Zbf [] l:=by
 obtain⟨_,i0,i1,_⟩:=Zsj h
 have h2:=h.2.1
 subst hb
 have d1:Zab (ZcU l)=((l.headD Zai).idx.toNat,(Lib.uvarint (l.headD Zai).idx.toNat).length):=ZaL _ _ (by omega)
 have e1:(ZcU l).drop (Lib.uvarint (l.headD Zai).idx.toNat).length=Lib.uvarint l.length++Zbf [] l:=by
  unfold ZcU
  rw[List.drop_left]
 have d2:=ZaL l.length (Zbf [] l) (by omega)
 rw[d1]
 simp only
 rw[e1,d2]
 refine⟨by omega,Zhd _,rfl,Zhd _,?_⟩
 rw[<-List.drop_drop,e1,List.drop_left]
theorem Zxf (w:World) (ao:Option Addr) (l:List UInt8) (cap:Nat) (hr:Rd w (.slice ao l.length cap) l) (n:Nat) (hn:n<=l.length):
 ∃ a c,Rd w (.slice a (l.drop n).length c) (l.drop n)∧∀ i:Int,i=(n:Int)->∀ W,(Instr.sliceAt 53 (.slice ao l.length cap) (some (.int .i64 i)) none none).run Tryz.prog W=.ok (.slice a (l.drop n).length c) W:=by
 have h:=Zwr w ao cap l hr n hn
 have hlc:l.length<=cap:=by
  obtain⟨a,c,e,h,-⟩:=hr
  simp only [Value.slice.injEq] at e
  omega
 refine⟨_,_,by rw[List.length_drop];exact h,fun i hi W=>?_⟩
 rw[ZpP W ao l cap hlc i n hi hn,List.length_drop]
 simp[sliced]
theorem Zlo {d:List UInt8} (h:d=[]∨d.getD 0 0≠108):Zcb d=.error 3:=by
 unfold Zcb
 rw[if_pos h]
theorem Zsk {d:List UInt8} (h:¬ (d=[]∨d.getD 0 0≠108)) {v i k j f m:Nat} (h1:Zab (d.drop 1)=(v,i)) (h2:Zab (d.drop (1+i))=(k,j)) (h3:Zab (d.drop (1+i+j))=(f,m)):
 Zcb d=if i=0∨j=0∨m=0∨1+i+j+m≠d.length then .error 3 else if v<1∨3<v then .error 6 else if 6<=k then .error 1 else .ok (v,k,f):=by
 unfold Zcb
 rw[if_neg h,h1]
 simp only
 rw[h2]
 simp only
 rw[h3]
theorem ZeB {r:Rec} (h:ZaF r):Zfw r:=by
 have hresp:=Zdq h
 obtain⟨g1,g2,g3,g4,g5,g6,g7,_,_⟩:=h
 have hab:=Zdc g1
 exact⟨⟨by omega,by omega⟩,⟨by omega,by omega⟩,⟨by omega,by omega⟩,⟨⟨by have:=g1.1;omega,by have:=g1.2.1;omega⟩,hab.1,hab.2⟩,hresp⟩
def ZpR (L:List (List UInt8)) (v k f:Nat):Seg × Nat × Int:=(⟨k,f,(ZcL v f L.tail [] 16).1⟩,1+(ZcL v f L.tail [] 16).2.1,(ZcL v f L.tail [] 16).2.2)
theorem Zbp.set {w:World} {C:Nat} {v:Value} {l:List Rec} (h:Zbp w C v l) (R i:Nat) (hR:R<C) (x:Value):Zbp (w.setCell ⟨R,i,none⟩ x) C v l:=ownsRow_setCell_below h hR x
theorem Zbo {C:Nat} {w0 w:World} (h:Below C w0 w) (R:Nat) (hR:C<=R) (x0 x1 x2:Value):Below C w0 (((w.setCell ⟨R,0,none⟩ x0).setCell ⟨R,1,none⟩ x1).setCell ⟨R,2,none⟩ x2):=
 ((h.setCell hR _).setCell hR _).setCell hR _
theorem Zsl (v:Nat) (first:Int) (d:List UInt8) (ds:List (List UInt8)) (acc:List Rec) (last:Nat):
 ZcL v first (d::ds) acc last=match ZqH v d (first+acc.length) with
  | none=>(acc,0,3)
  | some r=>if last<16 then(acc,0,3) else if 4096<acc.length+r.length then(acc,0,5)
   else((ZcL v first ds (acc++r) r.length).1,(ZcL v first ds (acc++r) r.length).2.1+1,(ZcL v first ds (acc++r) r.length).2.2):=by
 rw[ZcL]
 cases ZqH v d (first+acc.length) <;> rfl
theorem drop_one {L:List (List UInt8)} {j:Nat} (hj:j<L.length):L.drop j=L.getD j []::L.drop (j+1):=by
 rw[List.drop_eq_getElem_cons hj]
 simp[List.getD,hj]
theorem ZeC:∀ (n:Nat) (b:List UInt8),b.length<=n->Zag (Zal b).1=b.take (Zal b).2.1∧∀ x ∈ (Zal b).1,x.length<=1048576
 | 0,b,hn=>by
  have e:b=[]:=List.eq_nil_of_length_eq_zero (by omega)
  subst e
  rw[Zeg]
  exact⟨rfl,by simp⟩
 | n+1,b,hn=>by
  by_cases e:b=[]
  ·subst e
   rw[Zeg]
   exact⟨rfl,by simp⟩
  by_cases hd:(ZbC b).2.2=0
  ·obtain⟨d1,d2,d3,d4⟩:=ZlM hd
   have h5:=Zef hd
   rw[Zet e hd]
   obtain⟨i1,i2⟩:=ZeC n (b.drop (ZbC b).2.1) (by rw[List.length_drop];omega)
   refine⟨?_,fun x hx=>?_⟩
   ·show Zag ((ZbC b).1::(Zal (b.drop (ZbC b).2.1)).1)=b.take ((ZbC b).2.1+(Zal (b.drop (ZbC b).2.1)).2.1)
    rw[Zcn,i1,<-d4,List.take_add]
   ·rcases List.mem_cons.1 hx with hx | hx
    ·rw[hx];exact d1
    ·exact i2 x hx
  ·rw[Zes e hd]
   exact⟨rfl,by simp⟩
theorem ZhZ:∀ (L:List (List UInt8)) (x:List UInt8),x ∈ L->x.length+5<=(Zag L).length
 | y::L,x,hx=>by
  rw[Zcn,List.length_append]
  rcases List.mem_cons.1 hx with h | h
  ·rw[h,Zap]
   have:=Lib.uvarint_pos y.length
   omega
  ·have:=ZhZ L x h
   omega
theorem ZgL:∀ (L:List (List UInt8)),5*L.length<=(Zag L).length
 | []=>by simp
 | y::L=>by
  have:=ZgL L
  have:=ZoO y
  rw[Zcn,List.length_append,List.length_cons]
  omega
theorem ZgM (b:List UInt8):(∀ x ∈ (Zal b).1,x.length<=1048576∧x.length<=b.length)∧5*(Zal b).1.length<=b.length:=by
 obtain⟨h1,h2⟩:=ZeC _ b zL
 have h3:(Zag (Zal b).1).length<=b.length:=by
  rw[h1,List.length_take]
  omega
 refine⟨fun x hx=>⟨h2 x hx,?_⟩,?_⟩
 ·have:=ZhZ _ x hx
  omega
 ·have:=ZgL (Zal b).1
  omega
theorem ZuM {L:List (List UInt8)} (h:2<=L.length):(L.take (L.length-1)).headD []=L.headD []∧(L.take (L.length-1)).tail=L.tail.dropLast∧L.getLastD []=L.getD (L.length-1) []∧L.headD []=(L.take (L.length-1)).getD 0 []:=by
 match L,h with
 | x::y::t,_=>
  refine⟨rfl,?_,?_,rfl⟩
  ·show((x::y::t).take (t.length+1)).tail=(y::t).dropLast
   rw[List.take_succ_cons,List.tail_cons,List.dropLast_eq_take,List.length_cons]
   rfl
  ·rw[List.getLastD_eq_getLast?,List.getLast?_eq_getElem?]
   simp[List.getD]
theorem Zyn {L:List (List UInt8)} (h2:2<=L.length):Zyw L=match Zcb ((L.take (L.length-1)).headD []) with
 | .error e=>(Zgu,e)
 | .ok (v,k,f)=>if(ZpR (L.take (L.length-1)) v k f).2.2≠0 then(Zgu,(ZpR (L.take (L.length-1)) v k f).2.2)
  else if Zyv ((L.take (L.length-1)).headD []) (L.take (L.length-1)).tail=L.getD (L.length-1) [] then((ZpR (L.take (L.length-1)) v k f).1,0) else(Zgu,16):=by
 obtain⟨e1,e2,e3,_⟩:=ZuM h2
 unfold Zyw ZpR
 rw[if_neg (by omega),e1,e2,e3]
 cases Zcb (L.headD []) <;> rfl
theorem ZuN (w:World) (ao:Option Addr) (L:List (List UInt8)) (m cap:Nat) (hm:m=L.length) (hr:RdL w (.slice ao m cap) L) (n:Nat) (hn:n<=L.length):
 ∃ a c,RdL w (.slice a (L.drop n).length c) (L.drop n)∧∀ i:Int,i=(n:Int)->∀ W,(Instr.sliceAt 144 (.slice ao m cap) (some (.int .i64 i)) none none).run Tryz.prog W=.ok (.slice a (L.drop n).length c) W:=by
 subst hm
 have hlc:L.length<=cap:=by
  obtain⟨a,c,e,h,-⟩:=hr
  simp only [Value.slice.injEq] at e
  omega
 have h:=hr.mid n L.length cap hn zL hlc zL
 rw[List.take_of_length_le (by rw[List.length_drop];omega)] at h
 unfold sliced at h
 refine⟨_,_,by rw[List.length_drop];exact h,fun i hi W=>?_⟩
 subst hi
 rw[run_sliceAt_slice W 144 _ _ _ _ Zfq,run_slice_l W 144 ao L.length cap Zfq .i64 (n:Int) (by omega) (by omega),Zjz,Zlh,List.length_drop]
 rfl
theorem Zsm (w:World) (ao:Option Addr) (L:List (List UInt8)) (m cap:Nat) (hm:m=L.length) (hr:RdL w (.slice ao m cap) L) (n:Nat) (hn:n<=L.length):
 RdL w (.slice ao n cap) (L.take n)∧∀ i:Int,i=(n:Int)->∀ W,(Instr.sliceAt 144 (.slice ao m cap) none (some (.int .i64 i)) none).run Tryz.prog W=.ok (.slice ao n cap) W:=by
 subst hm
 have hlc:L.length<=cap:=by
  obtain⟨a,c,e,h,-⟩:=hr
  simp only [Value.slice.injEq] at e
  omega
 refine⟨hr.front n hn,fun i hi W=>?_⟩
 subst hi
 rw[run_sliceAt_slice W 144 _ _ _ _ Zfq,run_slice_h W 144 ao L.length cap Zfq .i64 (n:Int) (by omega) (by omega),Zjz,Zlh]
 show Result.ok (sliced ao 0 n cap 1) W=_
 unfold sliced
 have e:(if cap=0 then ao else ao.map (·.add (0*1)))=ao:=by
  split
  ·rfl
  ·cases ao <;> simp[Addr.add]
 rw[e,Nat.sub_zero,Nat.sub_zero]
theorem Zws {d:List UInt8} {x:Int} (h:Zcb d=.error x):x≠0:=by
 intro hx
 rw[hx] at h
 unfold Zcb at h
 simp only at h
 repeat' split at h
 all_goals simp at h
def Zdt (w:World) (b:List UInt8) (e:Ending) (w':World):Prop:=
 ∃ vl,e=.returned (.tuple #[.agg #[.int .i64 (Zdh b).1.kind,.int .i64 (Zdh b).1.first,vl],.int .i64 ((Zdh b).2.1:Nat),.bool (Zdh b).2.2])∧RdR w' vl (Zdh b).1.recs∧Below w.heap.size w w'
theorem Zdt.fail {w w':World} {b:List UInt8} (h:Zdh b=(Zgu,0,false)) (hb:Below w.heap.size w w'):Zdt w b (.returned (.tuple #[.agg #[.int .i64 0,.int .i64 0,.slice none 0 0],.int .i64 0,.bool false])) w':=by
 refine⟨.slice none 0 0,?_,?_,hb⟩
 ·rw[h]
  rfl
 ·rw[h]
  exact RdR.nil _
theorem ZjQ (v:Nat) (first:Int):∀ (B:List (List UInt8)) (acc:List Rec) (last:Nat),(ZcL v first B acc last).2.1<=B.length
 | [],acc,last=>by rw[ZcL];simp
 | d::ds,acc,last=>by
  rw[Zsl,List.length_cons]
  cases ZqH v d (first+acc.length) with
  | none=>simp
  | some r=>
   simp only
   split
   ·simp
   split
   ·simp
   have ih:=ZjQ v first ds (acc++r) r.length
   simp only
   omega
theorem ZgN (L:List (List UInt8)) (c:Nat):(Zag (L.take c)).length<=(Zag L).length:=by
 have h:=ZeL (L.map Zad) c
 rw[ZfD,<-List.map_take,ZfD] at h
 exact h
theorem Zsn {b:List UInt8} (h:(Zal b).1≠[]):Zdh b=match Zcb ((Zal b).1.headD []) with
 | .error _=>(Zgu,0,false)
 | .ok (v,k,f)=>((ZpR (Zal b).1 v k f).1,(Zag ((Zal b).1.take (ZpR (Zal b).1 v k f).2.1)).length,true):=by
 unfold Zdh ZvK
 rw[if_neg h]
 cases Zcb ((Zal b).1.headD []) <;> rfl
theorem Rd.drewN {w:World} {v:Value} {l:List UInt8} (h:Rd w v l) (n:Nat):Rd (w.drewN n) v l:=h.below (Zaz (Below.refl _ w) n) zL
theorem Zzj (w:World) (v:Value) (l:List UInt8) (hr:Rd w v l) (K N:Int) (k n:Nat) (hk:K=k) (hn:N=n) (h:k+n+4<=l.length):
 ∃ v1 v2 v3,(∀ q,(Instr.sliceAt 53 v none (some (.int .i64 (K+N))) (some (.int .i64 (K+N)))).run Tryz.prog (w.drewN q)=.ok v1 (w.drewN q))∧
  (∀ q,(Instr.sliceAt 53 v (some (.int .i64 K)) (some (.int .i64 (K+N))) (some (.int .i64 (K+N)))).run Tryz.prog (w.drewN q)=.ok v2 (w.drewN q))∧
  (∀ q,(Instr.sliceAt 53 v (some (.int .i64 (K+N))) (some (.int .i64 (K+N+4))) (some (.int .i64 (K+N+4)))).run Tryz.prog (w.drewN q)=.ok v3 (w.drewN q))∧
  Rd w v1 (l.take (k+n))∧Rd w v2 ((l.drop k).take n)∧Rd w v3 ((l.drop (k+n)).take 4):=by
 have h0:=hr
 obtain⟨ao,cap,rfl,hlc,_⟩:=hr
 have e1:(K+N).toNat=k+n:=by omega
 have e2:K.toNat=k:=by omega
 have e3:(K+N+4).toNat=k+n+4:=by omega
 refine⟨sliced ao 0 (k+n) (k+n) 1,sliced ao k (k+n) (k+n) 1,sliced ao (k+n) (k+n+4) (k+n+4) 1,?_,?_,?_,?_,?_,?_⟩
 ·intro q
  rw[run_sliceAt_slice _ 53 _ _ _ _ ZaA,run_slice_hm _ 53 ao l.length cap ZaA .i64 .i64 (K+N) (K+N) (by omega) (by omega) (by omega),ZbG,Zev,e1]
  rfl
 ·intro q
  rw[run_sliceAt_slice _ 53 _ _ _ _ ZaA,run_slice_lhm _ 53 ao l.length cap ZaA .i64 .i64 .i64 K (K+N) (K+N) (by omega) (by omega) (by omega) (by omega),ZbG,Zev,e1,e2]
  rfl
 ·intro q
  rw[run_sliceAt_slice _ 53 _ _ _ _ ZaA,run_slice_lhm _ 53 ao l.length cap ZaA .i64 .i64 .i64 (K+N) (K+N+4) (K+N+4) (by omega) (by omega) (by omega) (by omega),ZbG,Zev,e1,e3]
  rfl
 ·have:=h0.mid 0 (k+n) (k+n) (by omega) (by omega) (by omega) (by omega)
  simpa using this
 ·have:=h0.mid k (k+n) (k+n) (by omega) (by omega) (by omega) (by omega)
  rwa [show k+n-k=n by omega] at this
 ·have:=h0.mid (k+n) (k+n+4) (k+n+4) (by omega) (by omega) (by omega) (by omega)
  rwa [show k+n+4-(k+n)=4 by omega] at this
theorem Zga {ops:Array Oper} {C:World->Prop} {Q:Act->Prop} {rest:List Oper} {o:Oper} {a:Act} {w:World} (hg:o.guard=none) (x:Operand) (lo hi mx:Option Operand)
 (ho:o.op=.slice 53 x lo hi mx) (hC:∀ w',C w'->∃ q,w'=w.drewN q) (v:Value)
 (hrun:∀ q,(Instr.sliceAt 53 (a.eval x) (lo.map a.eval) (hi.map a.eval) (mx.map a.eval)).run Tryz.prog (w.drewN q)=.ok v (w.drewN q))
 (h:wpQuiet Tryz.prog ops C Q rest (a.put o.dst v)):wpQuiet Tryz.prog ops C Q (o::rest) a:=
 wpQuiet_step fun _ hK=>by
  rw[if_pos (by simp[Region.wanted,hg])]
  refine⟨v,fun w' hw'=>?_,hK _ h⟩
  obtain⟨q,rfl⟩:=hC w' hw'
  unfold Oper.quietAt execOp
  simp only [ho,hrun,Sem.run_bind,Sem.run_pure,Result.andThen_ok,Oper.quietUpon,and_self]
theorem Zso (v:Value) (l:List UInt8) (w:World) (hr:Rd w v l):
 Calls Tryz.prog 199 #[v] w fun e w'=>ZfZ w l e w':=by
 have HR:=ZZ hr
 have HO:=ZZ (ZxQ v l w hr)
 have HG:=ZZ (ZeZ v l w hr)
 obtain⟨ao,cap,rfl,hlc,hcm,hn0,hao⟩:=hr
 clear hn0 hao
 have hml:(l.length:Int)<=9223372036854775807:=by unfold maxLen at hcm;omega
 have HLC:=ZZ hlc
 have HCM:=ZZ hcm
 clear hlc hcm
 by_cases c1:Zcz l
 ·have HE:=ZZ (ZyB c1)
  have HD:Hid (decide (Zcz l)=true):=decide_eq_true c1
  rw[HD.out] at HO
  clear c1 HG
  go_enter Tryz.func199,Tryz.ntmps199
  go_wp2_with fail
  refine HO.out.mono ?_
  rintro e w1 ⟨rfl,rfl⟩
  clear HO
  go_wp2
  go_ret3
  exact ZfZ.refused HE.out
 have HD:Hid (decide (Zcz l)=false):=decide_eq_false c1
 rw[HD.out] at HO
 have C1:=ZZ c1
 clear c1
 have hg1:=Zau l
 obtain⟨n,hn⟩:∃ n,n=(Zab l).1:=⟨_,rfl⟩
 obtain⟨k,hk⟩:∃ k,k=(Zab l).2:=⟨_,rfl⟩
 rw[<-hn,<-hk] at hg1 HG
 have HN:=ZZ hn
 have HK:=ZZ hk
 have hk9:=ZrW l
 have hbd:(n:Int)<4611686018427387904∧(k:Int)<=l.length∧(k:Int)<=9:=by
  rw[<-hk] at hk9
  rcases hg1 with h | h
  ·have h1:n=0:=by rw[hn,h]
   have h2:k=0:=by rw[hk,h]
   omega
  ·omega
 clear hk9
 obtain⟨N,hNn⟩:∃ N:Int,N=(n:Int):=⟨_,rfl⟩
 obtain⟨K,hKk⟩:∃ K:Int,K=(k:Int):=⟨_,rfl⟩
 rw[<-hNn,<-hKk] at hbd HG
 obtain⟨hn62,hkl,hk9⟩:=hbd
 have hN0:0<=N:=by omega
 have hK0:0<=K:=by omega
 have HNN:=ZZ hNn
 have HKK:=ZZ hKk
 clear hNn hKk
 clear hg1 hn hk
 by_cases c2:K=0
 ·have HE:=ZZ (ZyC C1.out (by rw[<-HK.out];have:=HKK.out;omega))
  subst c2
  go_enter Tryz.func199,Tryz.ntmps199
  go_wp2_with fail
  refine HO.out.mono ?_
  rintro e w1 ⟨rfl,rfl⟩
  clear HO
  go_wp2_with fail
  refine HG.out.mono ?_
  rintro e w1 ⟨rfl,rfl⟩
  clear HG
  go_wp2
  go_ret3
  exact ZfZ.refused HE.out
 have ez:(K == 0)=false:=beq_eq_false_iff_ne.2 c2
 have hk1:1<=K:=by omega
 have C2:=ZZ (show(Zab l).2≠0 by rw[<-HK.out];have:=HKK.out;omega)
 clear c2
 by_cases c3:1048576<N
 ·have HE:=ZZ (ZyD C1.out C2.out (by rw[<-HN.out];have:=HNN.out;omega))
  go_enter Tryz.func199,Tryz.ntmps199
  go_wp2_with fail
  refine HO.out.mono ?_
  rintro e w1 ⟨rfl,rfl⟩
  clear HO
  go_wp2_with fail
  refine HG.out.mono ?_
  rintro e w1 ⟨rfl,rfl⟩
  clear HG
  go_wp2
  go_ret3
  exact ZfZ.refused HE.out
 have C3:=ZZ (show ¬ 1048576<(Zab l).1 by rw[<-HN.out];have:=HNN.out;omega)
 by_cases c4:(l.length:Int)<K+N+4
 ·have HE:=ZZ (ZyE C1.out C2.out C3.out (by rw[<-HN.out,<-HK.out];have:=HNN.out;have:=HKK.out;omega))
  go_enter Tryz.func199,Tryz.ntmps199
  go_wp2_with fail
  refine HO.out.mono ?_
  rintro e w1 ⟨rfl,rfl⟩
  clear HO
  go_wp2_with fail
  refine HG.out.mono ?_
  rintro e w1 ⟨rfl,rfl⟩
  clear HG
  go_wp2
  go_ret3
  exact ZfZ.refused HE.out
 have C4:=ZZ (show ¬ l.length<(Zab l).2+4+(Zab l).1 by rw[<-HN.out,<-HK.out];have:=HNN.out;have:=HKK.out;omega)
 have HS:Hid (∀ v w,Rd w v (l.take (k+n))->Calls Tryz.prog 136 #[v] w fun e w'=>e=.returned (.int .u32 (ZaH 0 (l.take (k+n)):Nat))∧Below w.heap.size w w'):=fun v w h=>ZpM v _ w h
 have HF:Hid (∀ v w,Rd w v ((l.drop (k+n)).take 4)->Calls Tryz.prog 161 #[v] w fun e w'=>e=.returned (.int .u64 (Lib.leNat ((l.drop (k+n)).take 4):Nat))∧w'=w):=by
  intro v w h
  have:=Znn v _ w h
  rwa [List.take_of_length_le (by simp;omega)] at this
 have HE5:Hid (Lib.leNat ((l.drop (k+n)).take 4)≠ZaH 0 (l.take (k+n))->ZbC l=([],0,4)):=fun h=>by
  rw[HN.out,HK.out] at h
  exact ZyF C1.out C2.out C3.out C4.out h
 have HE6:Hid (Lib.leNat ((l.drop (k+n)).take 4)=ZaH 0 (l.take (k+n))->ZbC l=((l.drop k).take n,k+4+n,0)):=fun h=>by
  rw[HN.out,HK.out] at h ⊢
  exact ZyG C1.out C2.out C3.out C4.out h
 have hs:=Zty (l.take (k+n))
 have hq:Lib.leNat ((l.drop (k+n)).take 4)<4294967296:=by
  have h1:=ZiP ((l.drop (k+n)).take 4)
  have e4:((l.drop (k+n)).take 4).length=4:=by have:=HNN.out;have:=HKK.out;simp;omega
  rw[e4] at h1
  exact h1
 generalize ZaH 0 (l.take (k+n))=s at *
 generalize Lib.leNat ((l.drop (k+n)).take 4)=q at *
 obtain⟨S,hS⟩:∃ S:Int,S=(s:Int):=⟨_,rfl⟩
 obtain⟨T,hT⟩:∃ T:Int,T=(q:Int):=⟨_,rfl⟩
 rw[<-hS] at HS
 rw[<-hT] at HF
 have hS0:0<=S:=by omega
 have hS1:S<4294967296:=by omega
 have HSS:=ZZ hS
 have HTT:=ZZ hT
 obtain⟨v1,v2,v3,hc1,hc2,hc3,hr1,hr2,hr3⟩:=Zzj w _ l HR.out K N k n HKK.out HNN.out (by have:=HNN.out;have:=HKK.out;omega)
 have HV1:=ZZ hr1
 have HV2:=ZZ hr2
 have HV3:=ZZ hr3
 have HC1:=ZZ hc1
 have HC2:=ZZ hc2
 have HC3:=ZZ hc3
 clear hr1 hr2 hr3 hc1 hc2 hc3
 clear hS hT hs hq
 go_enter Tryz.func199,Tryz.ntmps199
 go_wp2_with fail
 refine HO.out.mono ?_
 rintro e w1 ⟨rfl,rfl⟩
 clear HO
 go_wp2_with fail
 refine HG.out.mono ?_
 rintro e w1 ⟨rfl,rfl⟩
 clear HG
 go_wp2
 refine wp_region_quiet_lit (by kernel_rfl) (by kernel_rfl) ?_
 repeat (go_big_quiet_step (fail))
 refine Zga rfl _ _ _ _ rfl (fun _ h=>h) v1 HC1.out ?_
 simp only [Act.put,List.setIfInBounds_toArray,List.set_cons_succ,List.set_cons_zero]
 repeat (go_big_quiet_step (fail))
 refine Zga rfl _ _ _ _ rfl (fun _ h=>h) v2 HC2.out ?_
 simp only [Act.put,List.setIfInBounds_toArray,List.set_cons_succ,List.set_cons_zero]
 repeat (go_big_quiet_step (fail))
 refine Zga rfl _ _ _ _ rfl (fun _ h=>h) v3 HC3.out ?_
 simp only [Act.put,List.setIfInBounds_toArray,List.set_cons_succ,List.set_cons_zero]
 repeat (go_big_quiet_step (fail))
 refine wpQuiet_nil ?_
 rintro _ ⟨nq,rfl⟩
 have HBQ:=ZZ (Zaz (Below.refl w1.heap.size w1) nq)
 have HQ1:=ZZ (HV1.out.drewN nq)
 have HQ2:=ZZ (HV2.out.drewN nq)
 have HQ3:=ZZ (HV3.out.drewN nq)
 clear HV1 HV2 HV3 HC1 HC2 HC3
 go_wp2_with fail
 refine(HF.out _ _ HQ3.out).mono ?_
 rintro e w2 ⟨rfl,rfl⟩
 clear HF HQ3
 go_wp2_with fail
 refine(HS.out _ _ HQ1.out).mono ?_
 rintro e w2 ⟨rfl,hb2⟩
 have HB2:=ZZ (HBQ.out.trans hb2)
 have HQ4:=ZZ (HQ2.out.below hb2 zL)
 clear HS HQ1 HQ2 hb2 HBQ
 by_cases c5:T=S
 ·have hne:(T != S)=false:=by rw[bne_eq_false_iff_eq];exact c5
  have HE:=ZZ (HE6.out (by have:=HSS.out;have:=HTT.out;omega))
  clear c5 HE5 HE6
  have HLL:=ZZ (show((l.drop k).take n).length<=1048576 by have:=HNN.out;simp;omega)
  have HC:=ZZ (ZuK _ _ w2 HQ4.out (by have:=HLL.out;omega))
  generalize (l.drop k).take n=x at *
  go_wp2_with fail
  refine HC.out.mono ?_
  rintro e w4 ⟨v4,rfl,ho4,hb4⟩
  have hs2:=HB2.out.size
  have HO4:=ZZ (ho4.mono hs2)
  have HB4:=ZZ (HB2.out.trans (hb4.mono hs2))
  clear ho4 hb4 HC
  go_wp2
  go_ret3
  refine⟨v4,?_,by rw[HE.out];exact HO4.out,HB4.out⟩
  rw[HE.out]
  exact Zwi (by show K+N+4=((k+4+n:Nat):Int);have:=HNN.out;have:=HKK.out;omega) rfl
 ·have hne:(T != S)=true:=by rw[bne_iff_ne];exact c5
  have HE:=ZZ (HE5.out (by have:=HSS.out;have:=HTT.out;omega))
  clear c5 HE5 HE6
  go_wp2
  go_ret3
  refine⟨.slice none 0 0,?_,?_,HB2.out⟩
  ·rw[HE.out];rfl
  ·rw[HE.out];exact Own.nil _ _
theorem ZnZ (v:Value) (l:List UInt8) (w:World) (hr:Rd w v l) (hlim:l.length<=1000000):
 Calls Tryz.prog 159 #[v] w fun e w'=>∃ v',e=.returned (.tuple #[v',.int .i64 ((Zal l).2.1:Nat),.int .i64 ((Zal l).2.2:Nat)])∧Zjx w' w.heap.size v' (Zal l).1∧Below w.heap.size w w':=by
 have HR:=ZZ hr
 obtain⟨ao,cap,rfl,hlc,hcm,hn0,hao⟩:=hr
 clear hn0 hao hlc hcm
 have HD:=ZZ (fun v k w h=>Zso v (l.drop k) w h)
 go_enter Tryz.func159,Tryz.ntmps159
 go_wp2
 go_loopw[5,6] (fun vl at' wr=>∃ (A:Nat) (L:List (List UInt8)),at'=.int .i64 (A:Int)∧Hid (Zut l A L)∧Hid (Zjx wr w.heap.size vl L)∧Hid (Below w.heap.size w wr)) (fun _ at' _=>l.length-(intOf at').toNat)
 case atStart=>exact⟨0,[],rfl,Zut.start l,Zjx.nil _ _,Below.refl _ _⟩
 case round=>
  obtain⟨A,L,rfl,hu,ho,hb⟩:=hrel
  have hAl:=hu.out.2.2
  by_cases hlt:A<l.length
  ·have HC:Hid (∃ v',(Instr.sliceAt 53 (.slice ao l.length cap) (some (.int .i64 (A:Int))) none none).run Tryz.prog wr=.ok v' wr∧Rd wr v' (l.drop A)):=by
    have:=Zjm wr _ l (HR.out.below hb.out zL) .i64 (A:Int) (by omega) (by omega)
    rwa [Int.toNat_natCast] at this
   have hsw:=hb.out.size
   go_wp2_with(refine Zhn _ rfl _ _ _ _ rfl _ HC.out ?_)
   intro v1 hr1
   have HV1:=ZZ hr1
   clear hr1 HC
   go_wp2_with fail
   refine(HD.out _ A _ HV1.out).mono ?_
   rintro e w2 ⟨v2,rfl,ho2,hb2⟩
   have HO2:=ZZ (ho2.mono hsw)
   have HL2:=ZZ (ho.out.below hb2 zL)
   have HB2:=ZZ (hb.out.trans (hb2.mono hsw))
   have hs2:=HB2.out.size
   clear ho2 hb2 HV1
   have H5:=ZZ (fun h=>Zef (l:=l.drop A) h)
   have hle:=Ztz (l.drop A)
   rw[List.length_drop] at hle
   by_cases he:(ZbC (l.drop A)).2.2=0
   ·have HU:=ZZ (hu.out.step hlt he)
    have h5:=H5.out he
    have hLl:=hu.out.2.1
    rw[he]
    generalize (ZbC (l.drop A)).2.1=m at *
    generalize (ZbC (l.drop A)).1=x at *
    clear he H5
    obtain⟨a2,c2,rfl,_⟩:=HO2.out.rd
    go_wp2_with(at_builtin;refine ZgE _ rfl _ _ rfl w.heap.size _ L rfl HL2.out _ x rfl HO2.out (by omega) hs2 ?_)
    intro v3 w3 ho3 hb3
    have HO3:=ZZ ho3
    have HB3:=ZZ (HB2.out.trans hb3)
    clear ho3 hb3
    go_wp2
    go_roundw
    case rel=>exact⟨A+m,L++[x],by go_num,HU,HO3,HB3⟩
    case measure=>simp[intOf];omega
   ·have HE:=ZZ (hu.out.stop hlt he)
    clear H5
    generalize (ZbC (l.drop A)).2.2=c at *
    have hne:((c:Int) != 0)=true:=by rw[bne_iff_ne];omega
    clear he
    go_wp2
    go_ret3
    refine⟨_,?_,by rw[HE.out];exact HL2.out,HB2.out⟩
    rw[HE.out]
    rfl
  ·have HE:=ZZ (hu.out.whole hlt)
   go_wp2
   go_ret3
   refine⟨_,?_,by rw[HE.out];exact ho.out,hb.out⟩
   rw[HE.out]
   rfl
theorem ZxR (v:Value) (l:List UInt8) (w:World) (hr:Rd w v l) (hlim:l.length<=1000000):
 Calls Tryz.prog 114 #[v] w fun e w'=>∃ v',e=.returned (.tuple #[v',.int .i64 ((Zxe l).2:Nat)])∧RdL w' v' (Zxe l).1∧Below w.heap.size w w':=by
 have HW:=ZZ (ZnZ v l w hr hlim)
 clear hr
 go_enter Tryz.func114,Tryz.ntmps114
 go_wp2_with fail
 refine HW.out.mono ?_
 rintro e w2 ⟨v2,rfl,ho2,hb2⟩
 have HO2:=ZZ ho2
 have HB2:=ZZ hb2
 clear ho2 hb2 HW
 by_cases he:(Zal l).2.2=0
 ·have HE:Hid (Zxe l=((Zal l).1,0)):=if_pos he
  rw[he]
  clear he
  generalize (Zal l).2.1=m at *
  go_wp2
  go_ret2
  refine⟨_,?_,by rw[HE.out];exact HO2.out.rd,HB2.out⟩
  rw[HE.out]
  rfl
 ·have HE:Hid (Zxe l=([],(Zal l).2.2)):=if_neg he
  generalize (Zal l).2.1=m at *
  generalize (Zal l).2.2=c at *
  have hne:((c:Int) != 0)=true:=by rw[bne_iff_ne];omega
  clear he
  go_wp2
  go_ret2
  refine⟨_,?_,by rw[HE.out];exact RdL.nil _,HB2.out⟩
  rw[HE.out]
  rfl
end Go.Proofs.YtnahjngbneicaaaGreatDoor
