import Derived.Test.YtnahjngbneicaaaGreatDoorPack1
import Derived.Shelf.SlMaps.Clone
import Derived.Shelf.SlMaps.Copy
import Derived.Shelf.Sort.Plain
import Derived.Shelf.Slices.In.SortNone
import Derived.Deep.RegionLaw
namespace Go.Proofs.YtnahjngbneicaaaGreatDoor
open _root_.Go.Proofs.Tryz
open List (foldl_append length_append map_cons map_nil map_toArray)
set_option maxHeartbeats 2000000
set_option maxRecDepth 100000
open Go.RowKit Go.Shelf
variable {B N N' T T' b base m n p s x:Nat} {v v':Value} {f:Int->Option Nat} {a w w':World} {F F' G:Nat->Prop} {c:Ch} {l:List UInt8} {t:TypeId} {cs:Array Value} {xs:List Value} {d:Dk} {u:Int} {fs:List Fl}
def ZwO:Go.Shelf.Ren:=⟨fun | 5=>145 | 7=>192 | n=>n,fun | 23=>65 | 25=>3 | 3=>115 | 4=>4 | 20=>20 | n=>n,fun | n=>n⟩
theorem layW:Go.Proofs.SlLaysW.n5 prog ZwO:={
 mixed:=by kernel_rfl
 f5:=⟨f145.name,by decide,func145.trans (congrArg some (by kernel_rfl))⟩
 f7:=func192.trans (congrArg some (by kernel_rfl))
 t4:=underlying4
 a4:=Tryz.isAgg4
 z4:=Tryz.sizeOf4
 v4:=Tryz.zeroValue4
 t20:=underlying20
 a20:=Tryz.isAgg20
 z20:=Tryz.sizeOf20
 v20:=Tryz.zeroValue20
 t23:=underlying65
 a23:=Tryz.isAgg65
 z23:=Tryz.sizeOf65
 v23:=Tryz.zeroValue65 }
def ZwP:Go.Shelf.Ren:=⟨fun | 5=>73 | n=>n,fun | 23=>65 | 24=>65 | 26=>3 | 27=>115 | 0=>0 | 4=>4 | n=>n,fun | n=>n⟩
theorem layX:Go.Proofs.SlLaysX.n5 prog ZwP:={
 mixed:=by kernel_rfl
 f5:=⟨f73.name,by decide,func73.trans (congrArg some (by kernel_rfl))⟩
 t0:=underlying0
 a0:=Tryz.isAgg0
 z0:=Tryz.sizeOf0
 v0:=Tryz.zeroValue0
 t4:=underlying4
 a4:=Tryz.isAgg4
 z4:=Tryz.sizeOf4
 v4:=Tryz.zeroValue4
 t23:=underlying65
 a23:=Tryz.isAgg65
 z23:=Tryz.sizeOf65
 v23:=Tryz.zeroValue65
 t24:=underlying65
 a24:=Tryz.isAgg65
 z24:=Tryz.sizeOf65
 v24:=Tryz.zeroValue65
 a26:=Tryz.isAgg3
 z26:=Tryz.sizeOf3
 a27:=Tryz.isAgg115
 z27:=Tryz.sizeOf115 }
def ZwQ:Go.Shelf.Ren:=⟨fun | 189=>67 | 125=>109 | 257=>108 | 128=>155 | 129=>156 | 294=>146 | 295=>147 | 296=>148 | 297=>149 | 298=>150 | 299=>151 | 216=>152 | 300=>153 | 301=>154 | 328=>193 | 329=>194 | 330=>195 | 331=>196 | 332=>197 | 215=>198 | 343=>216 | n=>n,fun | 28=>23 | 3=>3 | 46=>157 | 0=>0 | 51=>145 | 53=>202 | 4=>4 | 183=>194 | 182=>193 | 131=>170 | 5=>5 | 9=>9 | 218=>239 | 222=>208 | 228=>268 | 229=>247 | n=>n,fun | n=>n⟩
theorem ZAj:Go.Proofs.Lays.n189 prog ZwQ:={
 mixed:=by kernel_rfl
 f125:=func109.trans (congrArg some (by kernel_rfl))
 f128:=func155.trans (congrArg some (by kernel_rfl))
 f129:=func156.trans (congrArg some (by kernel_rfl))
 f189:=func67.trans (congrArg some (by kernel_rfl))
 f215:=func198.trans (congrArg some (by kernel_rfl))
 f216:=func152.trans (congrArg some (by kernel_rfl))
 f257:=func108.trans (congrArg some (by kernel_rfl))
 f294:=func146.trans (congrArg some (by kernel_rfl))
 f295:=func147.trans (congrArg some (by kernel_rfl))
 f296:=func148.trans (congrArg some (by kernel_rfl))
 f297:=func149.trans (congrArg some (by kernel_rfl))
 f298:=func150.trans (congrArg some (by kernel_rfl))
 f299:=func151.trans (congrArg some (by kernel_rfl))
 f300:=func153.trans (congrArg some (by kernel_rfl))
 f301:=func154.trans (congrArg some (by kernel_rfl))
 f328:=func193.trans (congrArg some (by kernel_rfl))
 f329:=func194.trans (congrArg some (by kernel_rfl))
 f330:=func195.trans (congrArg some (by kernel_rfl))
 f331:=func196.trans (congrArg some (by kernel_rfl))
 f332:=func197.trans (congrArg some (by kernel_rfl))
 f343:=func216.trans (congrArg some (by kernel_rfl))
 t0:=underlying0
 a0:=Tryz.isAgg0
 z0:=Tryz.sizeOf0
 v0:=Tryz.zeroValue0
 t3:=underlying3
 a3:=Tryz.isAgg3
 z3:=Tryz.sizeOf3
 v3:=Tryz.zeroValue3
 t4:=underlying4
 a4:=Tryz.isAgg4
 z4:=Tryz.sizeOf4
 v4:=Tryz.zeroValue4
 t5:=underlying5
 a5:=Tryz.isAgg5
 z5:=Tryz.sizeOf5
 v5:=Tryz.zeroValue5
 t9:=underlying9
 a9:=Tryz.isAgg9
 z9:=Tryz.sizeOf9
 v9:=Tryz.zeroValue9
 t28:=underlying23
 a28:=Tryz.isAgg23
 z28:=Tryz.sizeOf23
 v28:=Tryz.zeroValue23
 t46:=underlying157
 a46:=Tryz.isAgg157
 z46:=Tryz.sizeOf157
 v46:=Tryz.zeroValue157
 t51:=underlying145
 a51:=Tryz.isAgg145
 z51:=Tryz.sizeOf145
 v51:=Tryz.zeroValue145
 t53:=underlying202
 a53:=Tryz.isAgg202
 z53:=Tryz.sizeOf202
 v53:=Tryz.zeroValue202
 t131:=underlying170
 a131:=Tryz.isAgg170
 z131:=Tryz.sizeOf170
 v131:=Tryz.zeroValue170
 t182:=underlying193
 a182:=Tryz.isAgg193
 z182:=Tryz.sizeOf193
 v182:=Tryz.zeroValue193
 t183:=underlying194
 a183:=Tryz.isAgg194
 z183:=Tryz.sizeOf194
 v183:=Tryz.zeroValue194
 t218:=underlying239
 a218:=Tryz.isAgg239
 z218:=Tryz.sizeOf239
 v218:=Tryz.zeroValue239
 t222:=underlying208
 a222:=Tryz.isAgg208
 z222:=Tryz.sizeOf208
 v222:=Tryz.zeroValue208
 t228:=underlying268
 a228:=Tryz.isAgg268
 z228:=Tryz.sizeOf268
 v228:=Tryz.zeroValue268
 t229:=underlying247
 a229:=Tryz.isAgg247
 z229:=Tryz.sizeOf247
 v229:=Tryz.zeroValue247 }
open Go.RowKit Go.Maps Go.Shelf
open Go.ChangeMaps Go.MapKept
open Go.WideElems (Fit rd rg pl rd_val elemAt)
theorem ZbC:Keyed prog 3:=int_keyed underlying3
theorem Zun (w:World):(zeroValue 115).run prog w=.ok (.pointer none) w:=by kernel_rfl
theorem ZwR {n:Int} (h:I64 n):(Lit.int .i64 n).wf=true:=WalkArith.wf_i64 (by obtain⟨b,a⟩:=h;omega)
def ZaF (v:Value):Option (DataW Unit × List MemPlace):=
 match v with
 | .pointer (some ⟨b,0,none⟩)=>some (.lit (.int .i64 (b:Int)),[])
 | _=>none
theorem ZrQ (b:Nat):ZaF (.pointer (some ⟨b,0,none⟩))=some (.lit (.int .i64 (b:Int)),[]):=rfl
theorem ZdN {z:DataW Unit × List MemPlace} (h:ZaF v=some z):∃ b:Nat,v=.pointer (some ⟨b,0,none⟩)∧z=(.lit (.int .i64 (b:Int)),[]):=by
 unfold ZaF at h;split at h
 ·cases h
  exact⟨_,rfl,rfl⟩
 ·cases h
def ZAk (z:DataW Unit):Option Nat->DataW Unit
 | some x=>.lit (.int .i64 (x:Int))
 | none=>z
def Zuo (D:DataW Unit) (f:Int->Option Nat):Prop:=
 ∀ p,I64 p->∀ z,D.atKey (.int .i64 p) z=ZAk z (f p)
def Yj (w:World) (b n:Nat) (f:Int->Option Nat):Prop:=
 ∃ D:DataW Unit,w.ownsMap prog 3 ZaF b n D∧Zuo D f
def ZqL:Option Nat->Value
 | some x=>.pointer (some ⟨x,0,none⟩)
 | none=>.pointer none
theorem Zuo.has {D:DataW Unit} (h:Zuo D f) {p:Int} (a:I64 p):Maps.has D (.int .i64 p)=(f p).isSome:=by
 cases e:f p with
 | none=>
  refine has_false_of_atKey fun z=>?_
  rw[h p a z,e];rfl
 | some x=>
  refine has_true_of_atKey (y:=.lit (.int .i64 (x:Int))) fun z=>?_
  rw[h p a z,e];rfl
theorem Yj.made (w:World):Yj (w.alloc (.map #[] 0)) w.heap.size 0 (fun _=>none):=
 ⟨.map [],World.ownsMap_made _ _ _ _,fun _ _ _=>rfl⟩
theorem Yj.lt (h:Yj w b n f):b<w.heap.size:=by
 obtain⟨D,a,_⟩:=h;exact a.lt
theorem Yj.mono {n':Nat} (h:Yj w b n f) (d:n<=n'):Yj w b n' f:=by
 obtain⟨D,a,c⟩:=h;exact⟨D,a.mono d,c⟩
theorem Yj.keep (h:Yj w b n f) (d:w'.heap[b]?=w.heap[b]?):Yj w' b n f:=by
 obtain⟨D,⟨a,e,c,r⟩,g⟩:=h;exact⟨D,⟨a,e,d.trans c,r⟩,g⟩
theorem Yj.fun {w:World} {b n:Nat} {f g:Int->Option Nat} (h:Yj w b n f) (e:∀ p,I64 p->f p=g p):Yj w b n g:=by
 obtain⟨D,c,d⟩:=h;exact⟨D,c,fun p a z=>by rw[d p a z,e p a]⟩
theorem Yj.apart (h:Yj w b n f) {cs:Array Value} {t:TypeId} {z:Nat × Nat} {g:Nat} (a:w.heap[g]?=some (.cells cs t z)):g≠b:=by
 obtain⟨D,⟨d,i,c,_⟩,_⟩:=h;intro e;rw[e,c] at a
 cases a
theorem Zup (h:∀ z:DataW Unit,DataW.lit (.int .i64 (x:Int))=z):False:=by
 have:=h (.map [])
 cases this
theorem ZwS {y:Nat} (h:DataW.lit (H:=Unit) (.int .i64 (x:Int))=.lit (.int .i64 (y:Int))):x=y:=by
 simp only [DataW.lit.injEq,Lit.int.injEq,true_and] at h;omega
theorem Yj.lookC (h:Yj w b n f) {p:Int} (g:I64 p) (c:Bool):(Instr.lookup 65 (.map (some b)) (.int .i64 p) c).run prog w=.ok (if c then .tuple #[ZqL (f p),.bool (f p).isSome] else ZqL (f p)) w:=by
 obtain⟨D,⟨q,t,k,F,_,rfl⟩,i⟩:=h;rcases Maps.fit_look c ZbC underlying65 (Zun w) k F (keyOf_int_mk underlying3 (ZwR g)) with ⟨j,_,d⟩ | ⟨u,y,_,_,j,m,d,_⟩
 ·have e:f p=none:=by
   cases e:f p with
   | none=>rfl
   | some x=>
    refine(Zup (x:=x) fun z=>?_).elim
    rw[<-d z,i p g z,e];rfl
  rw[j,e];rfl
 ·obtain⟨x,l,rfl⟩:=ZdN m
  have e:f p=some x:=by
   cases e:f p with
   | none=>
    refine(Zup (x:=x) fun z=>?_).elim
    have a:=d z;rw[i p g z,e] at a;exact a.symm
   | some x'=>
    have a:=d (.map []);rw[i p g,e] at a;rw[ZwS a]
  rw[j,e,l];rfl
theorem Yj.look (h:Yj w b n f) {p:Int} (a:I64 p):(Instr.lookup 65 (.map (some b)) (.int .i64 p) true).run prog w=.ok (.tuple #[ZqL (f p),.bool (f p).isSome]) w:=h.lookC a true
theorem Yj.look1 (h:Yj w b n f) {p:Int} (a:I64 p):(Instr.lookup 65 (.map (some b)) (.int .i64 p) false).run prog w=.ok (ZqL (f p)) w:=h.lookC a false
theorem Yj.put (h:Yj w b n f) {p:Int} (x:Nat) (l:I64 p) (B:n<=10000000):
 ∃ w',(Instr.mapUpdate 65 (.map (some b)) (.int .i64 p) (.pointer (some ⟨x,0,none⟩))).run prog w=.ok () w'∧Yj w' b (n+1) (fun m=>if m=p then some x else f m)∧w.grownBy w' (some b):=by
 obtain⟨D,a,d⟩:=h;have j:IsMap D:=by obtain⟨u,y,v,F,A,c⟩:=a;exact⟨_,c⟩
 obtain⟨w',t,g,k⟩:=a.update ZbC underlying65 (by unfold maxLen;omega) (keyOf_int_mk underlying3 (ZwR l)) (ZrQ x)
 refine⟨w',t,⟨_,g,fun q i z=>?_⟩,k⟩
 show _=ZAk z (if q=p then some x else f q)
 by_cases e:q=p
 ·rw[if_pos e,e,atKey_put_same j (by first | exact trivial | simp[WideAt.IsKeyLit])]
  rfl
 ·rw[if_neg e,atKey_put_other (by intro h;injection h with _ h;exact e h),d q i z]
theorem Yj.del (h:Yj w b n f) {p:Int} (x:I64 p) (ty:TypeId):
 ∃ w',(Builtin.delete_ #[65,3] ty #[.map (some b),.int .i64 p]).run prog w=.ok (.tuple #[]) w'∧Yj w' b n (fun m=>if m=p then none else f m)∧w.grownBy w' (some b):=by
 obtain⟨D,⟨c,k,a,F,u,rfl⟩,d⟩:=h;obtain⟨v,y,F',t,l,_⟩:=Maps.fit_drop (ty:=ty) ZbC underlying65 a F (keyOf_int_mk underlying3 (ZwR x));refine⟨_,y,⟨_,⟨v,k,heap_setBlock_same a _,F',Nat.le_trans t u,rfl⟩,fun q j z=>?_⟩,⟨rfl,rfl,rfl,by simp[setBlock],fun i _ g=>heap_setBlock_other a _ (fun e=>g (by rw[e]))⟩⟩
 rw[l];show((DataW.map ((c.toList.map (rg prog 3 ZaF)).foldr DataW.insert [])).del (.int .i64 p)).atKey (.int .i64 q) z=_;show _=ZAk z (if q=p then none else f q)
 by_cases e:q=p
 ·rw[if_pos e,e,atKey_del_same]
  rfl
 ·rw[if_neg e,atKey_del_other (by intro h;injection h with _ h;exact e h),d q j z]
theorem Yj.clear (h:Yj w b n f) (ty:TypeId):
 ∃ w',(Builtin.clear_ #[65] ty #[.map (some b)]).run prog w=.ok (.tuple #[]) w'∧Yj w' b 0 (fun _=>none)∧w.grownBy w' (some b):=by
 obtain⟨D,⟨g,c,a,F,k,rfl⟩,j⟩:=h;refine⟨setBlock w b (.map #[] c),?_,⟨.map [],⟨#[],c,heap_setBlock_same a _,⟨by simp,stamped_empty c,by simp⟩,Nat.le_refl _,rfl⟩,fun _ _ _=>rfl⟩,⟨rfl,rfl,rfl,by simp[setBlock],fun i _ d=>heap_setBlock_other a _ (fun e=>d (by rw[e]))⟩⟩
 simp[Builtin.clear_,run_underlying underlying65,MapKept.run_getObj_map a,MapKept.run_setObj_map _ a,Result.andThen,setBlock]
theorem ZmP {D:DataW Unit} (c:Maps.CanonK (Maps.KeysOf prog 3) D):Lib.mergeD (.map []) D=D:=by
 refine(merged_eq ZbC.one (left:=fun _=>false) ⟨fun k=>?_,fun k z=>?_⟩ (fun _=>rfl) (c.canon ZbC.one) ⟨[],rfl,List.Pairwise.nil,fun p a=>by cases a⟩ c).symm
 ·show Maps.has D k=(false || (Maps.has D k && true))
  cases Maps.has D k <;> rfl
 ·cases e:Maps.has D k with
  | true=>rfl
  | false=>
   rw[atKey_of_not_has e];rfl
theorem ZrR (h:Yj w b n f):
 Calls prog 145 #[.map (some b)] w fun e w'=>e=.returned (.map (some w.heap.size))∧Yj w' w.heap.size n f∧w'.heap.size=w.heap.size+1∧Below w.heap.size w w':=by
 obtain⟨D,⟨a,c,d,r⟩,g⟩:=h;refine(AnyW.maps_Clone layW b a c w d).mono fun e w' ⟨he,hw⟩=>?_
 subst hw;exact⟨he,⟨D,⟨a,c,(MapKept.heap_alloc w _).1,r⟩,g⟩,by simp,(Below.refl _ w).alloc zL _⟩
theorem ZwT {a bs:Nat} (q:Yj w a 0 (fun _=>none)) (b:Yj w bs n f) (l:a≠bs) (x:n<=10000000):
 Calls prog 73 #[.map (some a),.map (some bs)] w fun e w'=>e=.returned (.tuple #[])∧Yj w' a n f∧w.grownBy w' (some a):=by
 obtain⟨t,i,u⟩:=q;obtain⟨d,c,j⟩:=b
 have v:Maps.size d<=n:=by
  obtain⟨g,p,m,F,b,rfl⟩:=c;rw[size_eq,length_sorted];simpa using b
 have k:t=.map []:=by
  obtain⟨g,p,m,F,b,rfl⟩:=i;have:g=#[]:=by simpa using b
  subst this;rfl
 subst k;refine(AnyX.maps_Copy layX ZbC ZaF a bs 0 n (.map []) d w i c l (by unfold maxLen;omega)).mono fun e w' ⟨he,ho,_,hg⟩=>?_
 rw[ZmP (c.canonK ZbC)] at ho;exact⟨he,⟨d,ho.mono (by omega),j⟩,hg⟩
open Go.RowKit
structure Ql (F:Nat->Prop) (w w':World):Prop where
 os:w'.os=w.os
 tape:w'.tape=w.tape
 output:w'.output=w.output
 size:w.heap.size<=w'.heap.size
 block:∀ k,k<w.heap.size->¬ F k->w'.heap[k]?=w.heap[k]?
theorem Ql.refl (F:Nat->Prop) (w:World):Ql F w w:=⟨rfl,rfl,rfl,Nat.le_refl _,fun _ _ _=>rfl⟩
theorem Ql.trans {b c:World} (h:Ql F a b) (k:Ql G b c) (f:∀ x,x<a.heap.size->G x->F x):Ql F a c:=
 ⟨k.os.trans h.os,k.tape.trans h.tape,k.output.trans h.output,Nat.le_trans h.size k.size,fun i d e=>(k.block i (Nat.lt_of_lt_of_le d h.size) (fun g=>e (f i d g))).trans (h.block i d e)⟩
theorem Ql.mono (h:Ql F w w') (a:∀ k,F k->G k):Ql G w w':=⟨h.os,h.tape,h.output,h.size,fun k b c=>h.block k b fun d=>c (a k d)⟩
theorem Ql.ofGrown {row:Option Nat} (h:w.grownBy w' row) (b:∀ k,row=some k->k<w.heap.size->F k):Ql F w w':=
 ⟨h.os,h.tape,h.output,h.size,fun k a c=>h.block k a fun e=>c (b k e.symm a)⟩
theorem Ql.ofBelow (h:Below w.heap.size w w'):Ql F w w':=⟨h.os,h.tape,h.output,h.size,fun k a _=>h.block k a⟩
theorem Ql.below (h:Ql F w w') (c:B<=w.heap.size) (b:∀ k,F k->B<=k):Below B w w':=
 ⟨h.os,h.tape,h.output,h.size,fun k a=>h.block k (Nat.lt_of_lt_of_le a c) fun d=>by have:=b k d;omega⟩
theorem Ql.setCell (h:Ql F a w) {b:Nat} (i:Nat) (f:b<a.heap.size->F b) (x:Value):Ql F a (w.setCell ⟨b,i,none⟩ x):=by
 have c:=(Below.refl 0 w).setCell (p:=⟨b,i,none⟩) (Nat.zero_le _) x;refine⟨c.os.trans h.os,c.tape.trans h.tape,c.output.trans h.output,Nat.le_trans h.size c.size,fun k d e=>?_⟩
 rw[Below.heap_setCell _ _ _ _ (show k≠b by rintro rfl;exact e (f d))]
 exact h.block k d e
theorem Ql.alloc (h:Ql F a w) (o:Obj):Ql F a (w.alloc o):=
 h.trans (G:=fun _=>False) (Ql.ofBelow ((Below.refl _ _).alloc zL o)) (fun _ _ b=>b.elim)
theorem Ql.drewN (h:Ql F a w) (n:Nat):Ql F a (w.drewN n):=⟨h.os,h.tape,h.output,h.size,h.block⟩
theorem RdI.only {l:List Int} (h:RdI w v l) {F:Nat->Prop} (p:Ql F w w') (n:∀ k,v.ownBlock=some k->¬ F k):RdI w' v l:=by
 obtain⟨ao,cap,rfl,g,i,u,m,c⟩:=h;refine⟨ao,cap,rfl,g,i,u,m,?_⟩;rcases c with c | ⟨b,d,rfl,q⟩
 ·exact .inl c
 ·refine .inr ⟨b,d,rfl,fun j f=>?_⟩
  have e:=q j f;have t:b<w.heap.size:=World.block_lt_of_cell? w ⟨b,d+j,none⟩ e;rw[World.cell?_of_block (a:=⟨b,d+j,none⟩) (p.block b t (n b rfl))];exact e
theorem RdI.onlyE {l:List Int} (h:RdI w v l) {F:Nat->Prop} (c:Ql F w w') (hv:l=[]∨∀ k,v.ownBlock=some k->¬ F k):RdI w' v l:=by
 rcases hv with rfl | hv
 ·obtain⟨ao,cap,rfl,a,b,d,e,f⟩:=h
  exact⟨ao,cap,rfl,a,b,d,e,.inl rfl⟩
 ·exact h.only c hv
def Bk (t:TypeId) (w:World) (b:Nat) (cs:Array Value):Prop:=w.heap[b]?=some (.cells cs t (0,0))
theorem Bk.lt (h:Bk t w b cs):b<w.heap.size:=(Array.getElem?_eq_some_iff.1 h).1
theorem Bk.keep (h:Bk t w b cs) (a:w'.heap[b]?=w.heap[b]?):Bk t w' b cs:=a.trans h
theorem Bk.cell (h:Bk t w b cs) (j:Nat) {x:Value} (a:cs[j]?=some x):w.cell? ⟨b,j,none⟩=some x∧w.frozen? ⟨b,j,none⟩=false:=
 ⟨(cell_of_row w b j _ _ _ h).trans a,frozen_of_row w b j _ _ h⟩
theorem Bk.set (h:Bk t w b cs) (j:Nat) (x:Value):Bk t (w.setCell ⟨b,j,none⟩ x) b (cs.setIfInBounds j x):=by
 have:=heap_setCell_same w b j _ _ x h;unfold Bk;simpa using this
theorem Bk.other (h:Bk t w b cs) (c j:Nat) (x:Value) (a:b≠c):Bk t (w.setCell ⟨c,j,none⟩ x) b cs:=
 (Below.heap_setCell _ _ _ _ a).trans h
theorem Bk.ne {c:TypeId} {b':Nat} {e:Array Value} (h:Bk t w b cs) (a:Bk c w b' e) (d:t≠c):b≠b':=by
 rintro rfl;unfold Bk at h a;rw[h] at a;simp only [Option.some.injEq,Obj.cells.injEq] at a;exact d a.2.1
theorem Dc (h:w.ownsRow base t 1 v n xs) {g:Nat} (a:v.ownBlock=some g):∃ cs,Bk t w g cs:=by
 rcases h.2 with ⟨b,_⟩ | ⟨g',cap,cur,b,_,c,_⟩
 ·rw[b] at a;cases a
 ·rw[b] at a
  obtain rfl:g'=g:=by simpa[Value.ownBlock] using a
  exact⟨cur,c⟩
theorem Qh (h:w.ownsRow base t s v n xs) (e:∀ g,v.ownBlock=some g->w'.heap[g]?=w.heap[g]?):w'.ownsRow base t s v n xs:=by
 obtain⟨f,a⟩:=h;refine⟨f,?_⟩;rcases a with a | ⟨g,cap,cur,b,c,d,r⟩
 ·exact .inl a
 ·exact .inr ⟨g,cap,cur,b,c,(e g (by rw[b];rfl)).trans d,r⟩
abbrev ptr (b:Nat):Value:=.pointer (some ⟨b,0,none⟩)
theorem Rd.only (h:Rd w v l) {F:Nat->Prop} (n:Ql F w w') (m:∀ k,v.ownBlock=some k->¬ F k):Rd w' v l:=by
 obtain⟨ao,cap,rfl,g,i,t,c⟩:=h;refine⟨ao,cap,rfl,g,i,t,?_⟩;rcases c with c | ⟨b,d,rfl,p⟩
 ·exact .inl c
 ·refine .inr ⟨b,d,rfl,fun j f=>?_⟩
  have e:=p j f;have q:b<w.heap.size:=World.block_lt_of_cell? w ⟨b,d+j,none⟩ e;rw[World.cell?_of_block (a:=⟨b,d+j,none⟩) (n.block b q (m b rfl))];exact e
theorem Bk.neMap (h:Bk t w b cs) (a:Yj w m n f):b≠m:=a.apart h
theorem Own.shape (h:Own w B v l):∃ ao cap,v=.slice ao l.length cap:=by
 obtain⟨ao,cap,a,_⟩:=h.rd;exact⟨ao,cap,a⟩
theorem Own.front {ao:Option Addr} {cap:Nat} (h:Own w B (.slice ao n cap) l) (k:Nat) (p:k<=l.length):Own w B (.slice ao k cap) (l.take k):=by
 obtain⟨u,d⟩:=h;have b:(l.take k).length=k:=by simp;omega
 refine⟨by rw[Y0,Nat.mul_one],?_⟩
 rcases d with ⟨a,x⟩ | ⟨g,v,cur,a,i,j,t,m,f,c⟩
 ·left
  simp only [Value.slice.injEq] at a;obtain⟨rfl,rfl,rfl⟩:=a;have:k=0:=by omega
  subst this;exact⟨rfl,by rw[b]⟩
 ·right
  simp only [Value.slice.injEq] at a;obtain⟨rfl,q,rfl⟩:=a;refine⟨g,cap,cur,by rw[b],i,j,by rw[b];omega,m,f,?_⟩
  rw[Nat.mul_one] at c ⊢;rw[b];have e:Lib.byteCells (l.take k)=(Lib.byteCells l).take k:=by simp[Lib.byteCells]
  rw[e,<-c,List.take_take,Nat.min_eq_left p]
structure ZmQ (w:World) (b:Nat) (v:Value) (x:Fl):Prop where
 box:Bk 117 w b #[v,.int .i64 (x.k:Int)]
 own:Own w 0 v x.b
theorem ZmQ.keep {x:Fl} (h:ZmQ w b v x) (a:w'.heap[b]?=w.heap[b]?) (c:∀ g,v.ownBlock=some g->w'.heap[g]?=w.heap[g]?):ZmQ w' b v x:=
 ⟨h.box.keep a,Qh h.own c⟩
def ChV (F:Nat->Prop) (w:World) (ps:Nat->Nat):Ch->Value->Prop
 | .give n f,v=>∃ b1 b2,v=.func (.func 139) #[] #[ptr b2,ptr b1]∧Bk 3 w b1 #[.int .i64 n]∧Bk 115 w b2 #[ptr (ps f)]∧F b1∧F b2
 | .move n tz f,v=>∃ b1 b2 b3,v=.func (.func 143) #[] #[ptr b3,ptr b2,ptr b1]∧Bk 3 w b1 #[.int .i64 n]∧Bk 3 w b2 #[.int .i64 tz]∧Bk 115 w b3 #[ptr (ps f)]∧F b1∧F b2∧F b3
 | .take n,v=>∃ b1,v=.func (.func 157) #[] #[ptr b1]∧Bk 3 w b1 #[.int .i64 n]∧F b1
def chOf:Ch->Option Nat
 | .give _ f=>some f
 | .move _ _ f=>some f
 | .take _=>none
theorem ChV.keep {ps t:Nat->Nat} (h:ChV F w ps c v) (d:∀ k,F k->F' k) (q:∀ f,chOf c=some f->t f=ps f)
 (e:∀ k cs,F k->(Bk 3 w k cs∨Bk 115 w k cs)->w'.heap[k]?=w.heap[k]?):ChV F' w' t c v:=by
 cases c with
 | give n f=>
  obtain⟨j,l,rfl,a,g,b,i⟩:=h;exact⟨j,l,rfl,a.keep (e _ _ b (.inl a)),by rw[q f rfl];exact g.keep (e _ _ i (.inr g)),d _ b,d _ i⟩
 | move n tz f=>
  obtain⟨j,l,u,rfl,a,g,m,b,i,p⟩:=h;exact⟨j,l,u,rfl,a.keep (e _ _ b (.inl a)),g.keep (e _ _ i (.inl g)),by rw[q f rfl];exact m.keep (e _ _ p (.inr m)),d _ b,d _ i,d _ p⟩
 | take n=>
  obtain⟨j,rfl,a,b⟩:=h;exact⟨j,rfl,a.keep (e _ _ b (.inl a)),d _ b⟩
structure Lay where
 now:Nat
 kept:Nat
 wv:Value
 cs:List Value
 ps:Nat->Nat
 vs:Nat->Value
structure ZoW (F:Nat->Prop) (w:World) (L:Lay) (d:Dk) (N:Nat):Prop where
 now:Yj w L.now N (fun n=>(look (Qm d) n).map L.ps)
 kept:Yj w L.kept N (fun n=>(look d.kept n).map L.ps)
 row:w.ownsRow 0 113 1 L.wv L.cs.length L.cs
 many:L.cs.length=d.waits.length
 wait:∀ (i:Nat) c v,d.waits[i]?=some c->L.cs[i]?=some v->ChV F w L.ps c v
 file:∀ i,i<d.files.length->ZmQ w (L.ps i) (L.vs i) (fl d.files i)
 psn:∀ i j,i<d.files.length->j<d.files.length->i≠j->L.ps i≠L.ps j
 vsn:∀ i j,i<d.files.length->j<d.files.length->i≠j->∀ g,(L.vs i).ownBlock=some g->(L.vs j).ownBlock≠some g
 nk:L.now≠L.kept
 fn:F L.now
 fk:F L.kept
 fw:∀ g,L.wv.ownBlock=some g->F g
 fp:∀ i,i<d.files.length->F (L.ps i)
 fv:∀ i,i<d.files.length->∀ g,(L.vs i).ownBlock=some g->F g
def ZfD (L:Lay) (d:Dk) (u:Int):Array Value:=#[.int .i64 d.room,.int .i64 u,.map (some L.now),.map (some L.kept),L.wv,.int .i64 d.power]
structure Xd (F:Nat->Prop) (w:World) (p:Nat) (L:Lay) (d:Dk) (u:Int) (N:Nat):Prop where
 head:Bk 69 w p (ZfD L d u)
 rest:ZoW F w L d N
 fh:F p
 lt:∀ k,F k->k<w.heap.size
theorem ZoW.keep {L:Lay} (h:ZoW F w L d N) (b:Bk 69 w p cs) (a:∀ k,F k->k≠p->w'.heap[k]?=w.heap[k]?):ZoW F w' L d N where
 now:=h.now.keep (a _ h.fn (b.neMap h.now).symm)
 kept:=h.kept.keep (a _ h.fk (b.neMap h.kept).symm)
 row:=Qh h.row fun g f=>a g (h.fw g f) (by obtain⟨l,hb⟩:=Dc h.row f;exact hb.ne b (by decide))
 many:=h.many
 wait:=fun i c v n m=>(h.wait i c v n m).keep (fun _ j=>j) (fun _ _=>rfl) (fun k l j hb=>a k j (by rcases hb with hb | hb <;> exact hb.ne b (by decide)))
 file:=fun i e=>(h.file i e).keep (a _ (h.fp i e) ((h.file i e).box.ne b (by decide))) fun g f=>a g (h.fv i e g f) (by obtain⟨l,hb⟩:=Dc (h.file i e).own f;exact hb.ne b (by decide))
 psn:=h.psn
 vsn:=h.vsn
 nk:=h.nk
 fn:=h.fn
 fk:=h.fk
 fw:=h.fw
 fp:=h.fp
 fv:=h.fv
theorem ZoW.mono {L:Lay} (h:ZoW F w L d N) (a:N<=N'):ZoW F w L d N':=
 ⟨h.now.mono a,h.kept.mono a,h.row,h.many,h.wait,h.file,h.psn,h.vsn,h.nk,h.fn,h.fk,h.fw,h.fp,h.fv⟩
theorem Xd.setHead {L:Lay} (h:Xd F w p L d u N) (j:Nat) (x:Value) {d':Dk} {u':Int} (f:d'.files=d.files∧d'.kept=d.kept∧d'.waits=d.waits)
 (c:(ZfD L d u).setIfInBounds j x=ZfD L d' u'):Xd F (w.setCell ⟨p,j,none⟩ x) p L d' u' N:=by
 refine⟨by rw[<-c];exact h.head.set j x,?_,h.fh,fun k e=>?_⟩
 ·have a:=h.rest.keep h.head (w':=w.setCell ⟨p,j,none⟩ x) (fun k _ b=>Below.heap_setCell _ _ _ _ b)
  obtain⟨v,fs,kp,i,l⟩:=d;obtain⟨n,m,t,g,q⟩:=d';obtain⟨rfl,rfl,rfl⟩:=f;exact⟨a.now,a.kept,a.row,a.many,a.wait,a.file,a.psn,a.vsn,a.nk,a.fn,a.fk,a.fw,a.fp,a.fv⟩
 ·have:=h.lt k e
  have y:=((Below.refl 0 w).setCell (p:=⟨p,j,none⟩) (Nat.zero_le _) x).size;omega
theorem Xd.keep {L:Lay} (h:Xd F w p L d u N) (b:∀ k,F k->w'.heap[k]?=w.heap[k]?) (c:w.heap.size<=w'.heap.size):Xd F w' p L d u N:=
 ⟨h.head.keep (b p h.fh),h.rest.keep h.head (fun k a _=>b k a),h.fh,fun k a=>by have:=h.lt k a;omega⟩
theorem Xd.only {L:Lay} (h:Xd F w p L d u N) (a:Ql G w w') (c:∀ k,F k->¬ G k):Xd F w' p L d u N:=
 h.keep (fun k b=>a.block k (h.lt k b) (c k b)) a.size
theorem Xd.cells {L:Lay} (h:Xd F w p L d u N):
 (w.cell? ⟨p,0,none⟩=some (.int .i64 d.room)∧w.cell? ⟨p,1,none⟩=some (.int .i64 u)∧w.cell? ⟨p,2,none⟩=some (.map (some L.now))∧w.cell? ⟨p,3,none⟩=some (.map (some L.kept))∧w.cell? ⟨p,4,none⟩=some L.wv∧w.cell? ⟨p,5,none⟩=some (.int .i64 d.power))∧
 w.frozen? ⟨p,1,none⟩=false∧w.frozen? ⟨p,3,none⟩=false∧w.frozen? ⟨p,4,none⟩=false∧w.frozen? ⟨p,5,none⟩=false:=
 ⟨⟨(h.head.cell 0 rfl).1,(h.head.cell 1 rfl).1,(h.head.cell 2 rfl).1,(h.head.cell 3 rfl).1,(h.head.cell 4 rfl).1,(h.head.cell 5 rfl).1⟩,(h.head.cell 1 rfl).2,(h.head.cell 3 rfl).2,(h.head.cell 4 rfl).2,(h.head.cell 5 rfl).2⟩
theorem Xd.setFile {L:Lay} {f:Nat} (h:Xd F w p L d u N) (m:f<d.files.length) {v':Value} {x':Fl}
 (H:∀ k,F k->k≠L.ps f->(L.vs f).ownBlock≠some k->w'.heap[k]?=w.heap[k]?)
 (S:ZmQ w' (L.ps f) v' x') (hr:v'.ownBlock=(L.vs f).ownBlock∨∀ g,v'.ownBlock=some g->w.heap.size<=g)
 (q:∀ k,F k->F' k) (T:∀ g,v'.ownBlock=some g->F' g) (U:∀ k,F' k->k<w'.heap.size):
 Xd F' w' p { L with vs:=fun i=>if i=f then v' else L.vs i } { d with files:=d.files.set f x' } u N:=by
 have a:=h.rest;have K:=(a.file f m).box
 have J:∀ {t:TypeId} {k:Nat} {cs:Array Value},Bk t w k cs->F k->t≠117->t≠5->w'.heap[k]?=w.heap[k]?:=fun {t k cs} hb E I G=>H k E (hb.ne K I) fun b=>by
  obtain⟨B,x⟩:=Dc (a.file f m).own b;exact(hb.ne x G) rfl
 have P:∀ {k n:Nat} {g:Int->Option Nat},Yj w k n g->F k->w'.heap[k]?=w.heap[k]?:=fun {k n g} hm E=>H k E (K.neMap hm).symm fun b=>by
  obtain⟨B,x⟩:=Dc (a.file f m).own b;exact(x.neMap hm) rfl
 have D:(d.files.set f x').length=d.files.length:=List.length_set ..;refine⟨h.head.keep (J h.head h.fh (by decide) (by decide)),?_,q _ h.fh,U⟩
 refine⟨a.now.keep (P a.now a.fn),a.kept.keep (P a.kept a.fk),Qh a.row fun g b=>?_,a.many,fun i c v I G=>?_,fun i l=>?_,fun i j l z=>?_,fun i j l z M=>?_,a.nk,q _ a.fn,q _ a.fk,fun g b=>q g (a.fw g b),fun i l=>q _ (a.fp i (by rw[<-D];exact l)),fun i l=>?_⟩
 ·obtain⟨B,hb⟩:=Dc a.row b
  exact J hb (a.fw g b) (by decide) (by decide)
 ·exact(a.wait i c v I G).keep q (fun _ _=>rfl) fun k B E hb=>by rcases hb with hb | hb <;> exact J hb E (by decide) (by decide)
 ·have y:i<d.files.length:=by rw[<-D];exact l
  show ZmQ w' (L.ps i) (if i=f then v' else L.vs i) (fl (d.files.set f x') i)
  by_cases e:i=f
  ·rw[if_pos e,e,Zao m]
   exact S
  ·rw[if_neg e,Jf (fun V=>e V.symm)]
   refine(a.file i y).keep (H _ (a.fp i y) (a.psn i f y m e) fun b=>?_) fun g b=>H g (a.fv i y g b) ?_ (fun A=>a.vsn i f y m e g b A)
   ·obtain⟨B,x⟩:=Dc (a.file f m).own b
    exact((a.file i y).box.ne x (by decide)) rfl
   ·obtain⟨B,x⟩:=Dc (a.file i y).own b
    exact x.ne K (by decide)
 ·rw[D] at l z
  exact a.psn i j l z
 ·rw[D] at l z
  have Q:∀ i,i<d.files.length->i≠f->∀ g,(L.vs i).ownBlock=some g->v'.ownBlock≠some g:=fun i l R g b A=>by
   rcases hr with hr | hr
   ·exact a.vsn i f l m R g b (by rw[<-hr];exact A)
   ·have I:=hr g A
    have G:=h.lt g (a.fv i l g b);omega
  show ∀ g,(if i=f then v' else L.vs i).ownBlock=some g->(if j=f then v' else L.vs j).ownBlock≠some g
  intro g;by_cases C:i=f
  ·rw[if_pos C,if_neg (by rw[<-C];exact Ne.symm M)]
   exact fun b A=>Q j z (by rw[<-C];exact Ne.symm M) g A b
  ·rw[if_neg C]
   by_cases O:j=f
   ·rw[if_pos O]
    exact Q i l C g
   ·rw[if_neg O]
    exact a.vsn i j l z M g
 ·rw[D] at l
  show ∀ g,(if i=f then v' else L.vs i).ownBlock=some g->F' g
  intro g;by_cases e:i=f
  ·rw[if_pos e]
   exact T g
  ·rw[if_neg e]
   exact fun b=>q g (a.fv i l g b)
structure Bnd (d:Dk) (N T:Nat):Prop where
 files:d.files.length<=N
 names:d.kept.length+d.waits.length<=N
 bytes:∀ x ∈ d.files,x.b.length<=T
def Dsk (F:Nat->Prop) (w:World) (p:Nat) (d:Dk) (N T:Nat):Prop:=
 ∃ L,Xd F w p L d (Jb d) N∧OkD d∧Bnd d N T∧I64 d.room∧I64 d.power
theorem Dsk.only (h:Dsk F w p d N T) (c:Ql G w w') (e:∀ k,F k->¬ G k):Dsk F w' p d N T:=by
 obtain⟨L,a,b⟩:=h;exact⟨L,a.only c e,b⟩
theorem Dsk.below (h:Dsk F w p d N T) (a:Below w.heap.size w w'):Dsk F w' p d N T:=
 h.only (G:=fun _=>False) (Ql.ofBelow a) (fun _ _ b=>b)
theorem ZmR {L:Lay} (w:World) (h:Xd F w p L d u N):
 Calls prog 33 #[ptr p] w fun e w'=>e=.returned (.bool (d.power != 0))∧w'=w:=by
 obtain⟨⟨-,-,-,-,-,a⟩,-⟩:=h.cells
 go_enter func33,ntmps33
 go_wp2;go_ret;exact⟨rfl,rfl⟩
theorem ZmS (n:Int) (w:World):
 Calls prog 94 #[.int .i64 n] w fun e w'=>e=.returned (.bool (ZdE n))∧w'=w:=by
 by_cases a:0<=n
 ·by_cases b:n<1048576
  ·have e:ZdE n=true:=by simp[ZdE,a,b]
   rw[e]
   go_enter func94,ntmps94
   go_wp2;go_ret;exact⟨Zeg (by simp),rfl⟩
  ·have e:ZdE n=false:=by simp[ZdE,a,b]
   rw[e]
   go_enter func94,ntmps94
   go_wp2;go_ret;exact⟨Zeg (by simp),rfl⟩
 ·have e:ZdE n=false:=by simp[ZdE,a]
  rw[e]
  go_enter func94,ntmps94
  go_wp2;go_ret;exact⟨rfl,rfl⟩
theorem ZmT (a:Int) (n:Nat) (d:n<=1000000000000000) (w:World):
 Calls prog 72 #[.int .i64 a,.int .i64 (n:Int)] w fun e w'=>e=.returned (.int .i64 (Z4 a n:Int))∧w'=w:=by
 obtain⟨M,b⟩:∃ M:Int,M=(n:Int):=⟨_,rfl⟩;by_cases h:a<0
 ·have e:Z4 a n=0:=by simp[Z4,h]
  rw[e,<-b];clear b
  go_enter func72,ntmps72
  go_wp2;go_ret;exact⟨rfl,rfl⟩
 ·have c:=Int.emod_nonneg a (show M+1≠0 by omega)
  have e:((Z4 a n:Nat):Int)=a % (M+1):=by
   rw[b] at c ⊢;rw[Z4,if_neg h];omega
  rw[e,<-b];have f:0<=M∧M<=1000000000000000:=by omega
  clear e c b d n
  go_enter func72,ntmps72
  go_wp2;go_ret;exact⟨rfl,rfl⟩
theorem ZmU (q n:Int) (w:World):
 Calls prog 71 #[.int .i64 q,.int .i64 n] w fun e w'=>e=.returned (.int .i64 (if q=0 then 0 else max n 0))∧w'=w:=by
 by_cases h:q=0
 ·rw[if_pos h]
  subst h
  go_enter func71,ntmps71
  go_wp2;go_ret;exact⟨rfl,rfl⟩
 ·rw[if_neg h]
  have e:(q == 0)=false:=by simpa using h
  clear h
  go_enter func71,ntmps71
  go_wp2;go_ret;exact⟨rfl,rfl⟩
theorem Zcc {L:Lay} (w:World) (h:Xd F w p L d u N) (k:I64 d.power):
 Calls prog 97 #[ptr p] w fun e w'=>e=.returned (.int .i64 0)∧Xd F w' p L { d with power:=Y5 d.power } u N∧Ql F w w':=by
 have H:=ZZ h;obtain⟨⟨-,-,-,-,-,g⟩,-,-,-,l⟩:=h.cells;obtain⟨i,j⟩:=k;obtain⟨q,a⟩:∃ q,q=d.power:=⟨_,rfl⟩;rw[<-a] at g i j ⊢;by_cases f:q>0
 ·have b:Hid (Y5 q=q-1):=if_pos f
  have c:=ZZ a;clear h a
  go_enter func97,ntmps97
  go_wp2;go_ret;refine⟨rfl,?_,(Ql.refl _ _).setCell 5 (fun _=>H.out.fh) _⟩
  refine H.out.setHead 5 _ ⟨rfl,rfl,rfl⟩ ?_;rw[b.o];rfl
 ·have b:Hid (Y5 q=q):=if_neg f
  have c:=ZZ a;clear h a
  go_enter func97,ntmps97
  go_wp2;go_ret;rw[b.o,c.o];exact⟨rfl,H.out,Ql.refl _ _⟩
theorem ZwU (n:Int) (l:I64 n) (w:World) (h:Dsk F w p d N T):
 Calls prog 30 #[ptr p,.int .i64 n] w fun e w'=>e=.returned (.tuple #[])∧Dsk F w' p (Zqz d n) N T∧Ql F w w':=by
 obtain⟨L,h,f,i,j,g⟩:=h;have H:=ZZ h;have a:=ZZ (And.intro f (And.intro i (And.intro j g)));have t:=ZZ l;obtain⟨⟨-,-,-,-,-,u⟩,-,-,-,y⟩:=h.cells;obtain⟨q,c⟩:∃ q,q=d.power:=⟨_,rfl⟩;have m:=ZZ c;rw[<-c] at u;clear h f i j g c l;have k:=ZZ (ZmU q n w);obtain⟨r,b⟩:∃ r,r=(if q=0 then(0:Int) else max n 0):=⟨_,rfl⟩
 rw[<-b] at k;have v:=ZZ b;clear b
 go_enter func30,ntmps30
 go_wp2_with fail
 refine k.o.mono ?_;rintro e w' ⟨rfl,rfl⟩;go_wp2;go_end0;refine⟨rfl,⟨L,?_,OkD.cut a.o.1 n,⟨a.o.2.1.files,a.o.2.1.names,a.o.2.1.bytes⟩,a.o.2.2.1,?_⟩,(Ql.refl _ _).setCell 5 (fun _=>H.out.fh) _⟩
 ·refine H.out.setHead 5 _ ⟨rfl,rfl,rfl⟩ ?_
  rw[v.o,m.o];rfl
 ·obtain⟨z,x⟩:=t.o
  unfold Zqz I64
  dsimp only
  split <;> omega
theorem ZyE (w:World) (room:Int) (C:I64 room):Dsk (fun k=>w.heap.size<=k∧k<(((w.alloc (.map #[] 0)).alloc (.map #[] 0)).alloc (.cells #[.int .i64 room,.int .i64 0,.map (some w.heap.size),.map (some (w.heap.size+1)),.slice none 0 0,.int .i64 (-1)] 69)).heap.size)
 (((w.alloc (.map #[] 0)).alloc (.map #[] 0)).alloc (.cells #[.int .i64 room,.int .i64 0,.map (some w.heap.size),.map (some (w.heap.size+1)),.slice none 0 0,.int .i64 (-1)] 69)) (w.heap.size+1+1) (ZgP room) 0 0:=by
 have z:=Yj.made w;obtain⟨d,B⟩:∃ d,d=w.alloc (.map #[] 0):=⟨_,rfl⟩;have y:d.heap.size=w.heap.size+1:=by rw[B];simp
 rw[<-B] at z ⊢;have f:=Yj.made d;have u:=z.keep (w':=d.alloc (.map #[] 0)) (Below.heap_alloc _ _ _ (by omega))
 obtain⟨a,m⟩:∃ a,a=d.alloc (.map #[] 0):=⟨_,rfl⟩;have p:a.heap.size=w.heap.size+1+1:=by rw[m];simp[y]
 rw[<-m] at f u ⊢;rw[y] at f;obtain⟨A,t⟩:∃ A:Array Value,A=#[.int .i64 room,.int .i64 0,.map (some w.heap.size),.map (some (w.heap.size+1)),.slice none 0 0,.int .i64 (-1)]:=⟨_,rfl⟩;rw[<-t];have n:=f.keep (w':=a.alloc (.cells A 69)) (Below.heap_alloc _ _ _ (by omega))
 have l:=u.keep (w':=a.alloc (.cells A 69)) (Below.heap_alloc _ _ _ (by omega))
 have e:Bk 69 (a.alloc (.cells A 69)) a.heap.size A:=heap_alloc_new a _;rw[p] at e;have E:(a.alloc (.cells A 69)).heap.size=w.heap.size+1+1+1:=by simp[p]
 obtain⟨q,D⟩:∃ q,q=a.alloc (.cells A 69):=⟨_,rfl⟩;rw[<-D] at n l e E ⊢;refine⟨⟨w.heap.size,w.heap.size+1,.slice none 0 0,[],fun _=>0,fun _=>.slice none 0 0⟩,⟨by rw[t] at e;exact e,?_,⟨by omega,by omega⟩,fun k G=>G.2⟩,ZtU room,⟨Nat.le_refl _,Nat.le_refl _,(fun x H=>by cases H)⟩,C,⟨by show(-9223372036854775808:Int)<=-1;omega,by show(-1:Int)<=9223372036854775807;omega⟩⟩
 refine⟨l,n,World.ownsRow_nil _ _ _ _,rfl,(fun i c v h=>by simp[ZgP] at h),(fun i b=>absurd b (Nat.not_lt_zero _)),(fun i j b=>absurd b (Nat.not_lt_zero _)),(fun i j b=>absurd b (Nat.not_lt_zero _)),(by show w.heap.size≠w.heap.size+1;omega),⟨by show w.heap.size<=w.heap.size;omega,by show w.heap.size<_;omega⟩,⟨by show w.heap.size<=w.heap.size+1;omega,by show w.heap.size+1<_;omega⟩,(fun g F=>by cases F),(fun i b=>absurd b (Nat.not_lt_zero _)),(fun i b=>absurd b (Nat.not_lt_zero _))⟩
theorem ZyF (room:Int) (a:I64 room) (w:World):
 Calls prog 9 #[.int .i64 room] w fun e w'=>∃ p,e=.returned (ptr p)∧Dsk (fun k=>w.heap.size<=k∧k<w'.heap.size) w' p (ZgP room) 0 0∧Below w.heap.size w w':=by
 have b:=ZZ a;clear a;have c:=@run_makeMap prog
 go_enter func9,ntmps9
 go_wp2;go_ret;exact⟨_,rfl,ZyE w room b.o,(((Below.refl _ w).alloc zL _).alloc (by simp) _).alloc (by simp;omega) _⟩
theorem ZgT {L:Lay} (n:Int) (t:I64 n) (w:World) (h:Xd F w p L d u N):
 Calls prog 103 #[ptr p,.int .i64 n] w fun e w'=>e=.returned (.tuple #[ZqL (if d.power=0 then none else(look (Qm d) n).map L.ps),.int .i64 (if d.power=0 then 11 else if(look (Qm d) n).isSome then 0 else 8)])∧w'=w:=by
 have c:=ZZ (ZmR w h);obtain⟨⟨-,-,v,-,-,-⟩,-⟩:=h.cells;have b:=h.rest.now.look t;obtain⟨q,i⟩:∃ q,q=d.power:=⟨_,rfl⟩;obtain⟨o,g⟩:∃ o,o=look (Qm d) n:=⟨_,rfl⟩;rw[<-g] at b;rw[<-i] at c;rw[<-i,<-g];clear h i g t;by_cases a:q=0
 ·subst a
  go_enter func103,ntmps103
  go_wp2_with fail
  refine c.o.mono ?_;rintro e w' ⟨rfl,rfl⟩;go_wp2;go_ret2;exact⟨rfl,rfl⟩
 ·rw[if_neg a,if_neg a]
  have m:(q != 0)=true:=by simpa using a
  rw[m] at c;clear a m
  cases o with
  | none=>
   have l:(Instr.lookup 65 (.map (some L.now)) (.int .i64 n) true).run prog w=.ok (.tuple #[.pointer none,.bool false]) w:=b;clear b
   go_enter func103,ntmps103
   go_wp2_with fail
   refine c.o.mono ?_;rintro e w' ⟨rfl,rfl⟩;go_wp2;go_ret2;exact⟨rfl,rfl⟩
  | some f=>
   have l:(Instr.lookup 65 (.map (some L.now)) (.int .i64 n) true).run prog w=.ok (.tuple #[.pointer (some ⟨L.ps f,0,none⟩),.bool true]) w:=b;clear b;obtain⟨x,j⟩:∃ x,x=L.ps f:=⟨_,rfl⟩;have k:ZqL (Option.map L.ps (some f))=.pointer (some ⟨x,0,none⟩):=by rw[j];rfl
   rw[<-j] at l;rw[k];clear j k
   go_enter func103,ntmps103
   go_wp2_with fail
   refine c.o.mono ?_;rintro e w' ⟨rfl,rfl⟩;go_wp2;go_ret2;exact⟨rfl,rfl⟩
def Gr (F:Nat->Prop) (w w':World) (k:Nat):Prop:=F k∨(w.heap.size<=k∧k<w'.heap.size)
theorem Gr.lt (b:w.heap.size<=w'.heap.size) (a:∀ k,F k->k<w.heap.size):∀ k,Gr F w w' k->k<w'.heap.size:=by
 rintro k (h | h)
 ·have:=a k h;omega
 ·exact h.2
theorem ZwV (n:Int) (x:Nat) (w:World):
 Calls prog 96 #[.int .i64 n,ptr x] w fun e w'=>e=.returned (.func (.func 139) #[] #[ptr (w.heap.size+1),ptr w.heap.size])∧w'=(w.alloc (.cells #[.int .i64 n] 3)).alloc (.cells #[ptr x] 115):=by
 have a:∀ (fn:Fn) (first cap:Array Value) (w:World),(Instr.makeFunc fn first cap).run prog w=.ok (.func fn first cap) w:=fun _ _ _ _=>rfl
 go_enter func96,ntmps96
 go_wp2;go_ret;exact⟨rfl,rfl⟩
theorem Zuq (n a:Int) (x:Nat) (w:World):
 Calls prog 105 #[.int .i64 n,.int .i64 a,ptr x] w fun e w'=>e=.returned (.func (.func 143) #[] #[ptr (w.heap.size+1+1),ptr (w.heap.size+1),ptr w.heap.size])∧w'=((w.alloc (.cells #[.int .i64 n] 3)).alloc (.cells #[.int .i64 a] 3)).alloc (.cells #[ptr x] 115):=by
 have b:∀ (fn:Fn) (first cap:Array Value) (w:World),(Instr.makeFunc fn first cap).run prog w=.ok (.func fn first cap) w:=fun _ _ _ _=>rfl
 go_enter func105,ntmps105
 go_wp2;go_ret;exact⟨rfl,rfl⟩
theorem ZwW (n:Int) (w:World):
 Calls prog 110 #[.int .i64 n] w fun e w'=>e=.returned (.func (.func 157) #[] #[ptr w.heap.size])∧w'=w.alloc (.cells #[.int .i64 n] 3):=by
 have a:∀ (fn:Fn) (first cap:Array Value) (w:World),(Instr.makeFunc fn first cap).run prog w=.ok (.func fn first cap) w:=fun _ _ _ _=>rfl
 go_enter func110,ntmps110
 go_wp2;go_ret;exact⟨rfl,rfl⟩
theorem Zcd {n:Int} (h:ZdE n=true):I64 n:=by
 simp only [ZdE,Bool.and_eq_true,decide_eq_true_eq] at h;exact⟨by omega,by omega⟩
def Zlo (w:World) (b N:Nat) (ps:Nat->Nat) (g:Int->Option Nat) (c:Ch) (e:Ending) (w':World):Prop:=
 e=.returned (.tuple #[])∧Yj w' b (N+1) (fun n=>(chF g c n).map ps)∧w.grownBy w' (some b)
theorem ZcH (w:World) {c:Array Oper} {rest:List Oper} {o:Oper} {a:Act} {Q:Exit->Act->World->Prop} (l:o.guard=none) (m x:Operand)
 (i:o.op=.call { callee:=.builtin .delete,args:=#[m,x],argTypes:=#[65,3] })
 (b N:Nat) (f:Int->Option Nat) (p:Int) (k:a.eval m=.map (some b)) (q:a.eval x=.int .i64 p) (j:Yj w b N f) (n:I64 p)
 (h:∀ w',Yj w' b N (fun m=>if m=p then none else f m)->w.grownBy w' (some b)->wpList prog c Q rest (a.put o.dst (.tuple #[])) w'):wpList prog c Q (o::rest) a w:=
 wpList_plain l fun _ d=>by
  obtain⟨w',t,e,g⟩:=j.del n o.type;unfold Oper.wp execOp;simp only [i,resolve,invoke,builtin,Sem.run_bind,Sem.run_pure,Result.andThen_ok,map_toArray,map_cons,map_nil,k,q,t];exact d _ _ (h w' e g)
theorem ZjF (w:World) {c:Array Oper} {rest:List Oper} {o:Oper} {a:Act} {Q:Exit->Act->World->Prop} (l:o.guard=none) (m:Operand)
 (i:o.op=.call { callee:=.builtin .clear,args:=#[m],argTypes:=#[65] })
 (b N:Nat) (f:Int->Option Nat) (k:a.eval m=.map (some b)) (j:Yj w b N f)
 (h:∀ w',Yj w' b 0 (fun _=>none)->w.grownBy w' (some b)->wpList prog c Q rest (a.put o.dst (.tuple #[])) w'):wpList prog c Q (o::rest) a w:=
 wpList_plain l fun _ d=>by
  obtain⟨w',n,e,g⟩:=j.clear o.type;unfold Oper.wp execOp;simp only [i,resolve,invoke,builtin,Sem.run_bind,Sem.run_pure,Result.andThen_ok,map_toArray,map_cons,map_nil,k,n];exact d _ _ (h w' e g)
theorem ZhO {b c:World} {r:Nat} (h:a.grownBy b (some r)) (k:b.grownBy c (some r)):a.grownBy c (some r):=h.andThen k (fun _ d=>.inr d)
theorem ZmV {n:Int} {f:Nat} (t:ZdE n=true) {l i b N:Nat} {ps:Nat->Nat} {g:Int->Option Nat} (w:World) (m:Bk 3 w l #[.int .i64 n]) (a:Bk 115 w i #[ptr (ps f)]) (d:Yj w b N (fun n=>(g n).map ps)) (c:N<=10000000):
 Calls prog 139 #[.map (some b),ptr i,ptr l] w fun e w'=>Zlo w b N ps g (.give n f) e w':=by
 obtain⟨v,B,j,k⟩:=d.put (p:=n) (ps f) (Zcd t) c
 have A:Hid (Yj v b (N+1) (fun n'=>(chF g (.give n f) n').map ps)):=ZZ (j.fun fun q _=>by
  show(if q=n then some (ps f) else(g q).map ps)=(if q=n then some f else g q).map ps
  split <;> rfl)
 have z:=ZZ k;obtain⟨C,-⟩:=m.cell 0 rfl;obtain⟨y,-⟩:=a.cell 0 rfl;obtain⟨x,u⟩:∃ x,x=ps f:=⟨_,rfl⟩;rw[<-u] at B y;clear j k d m a u t c
 go_enter func139,ntmps139
 go_wp2;go_end0;exact⟨rfl,A.o,z.o⟩
theorem ZmW {n a:Int} {f:Nat} (D:ZdE n=true) (A:ZdE a=true) {t B u b N:Nat} {ps:Nat->Nat} {g:Int->Option Nat} (w:World) (d:Bk 3 w t #[.int .i64 n]) (v:Bk 3 w B #[.int .i64 a]) (y:Bk 115 w u #[ptr (ps f)]) (k:Yj w b N (fun n=>(g n).map ps)) (z:N<=10000000):
 Calls prog 143 #[.map (some b),ptr u,ptr B,ptr t] w fun e w'=>Zlo w b N ps g (.move n a f) e w':=by
 obtain⟨F,K,C,l⟩:=k.put (p:=a) (ps f) (Zcd A) z;obtain⟨L,-⟩:=v.cell 0 rfl;obtain⟨I,-⟩:=y.cell 0 rfl;obtain⟨M,-⟩:=(d.keep (l.block t d.lt (by intro e;exact(d.neMap k) (Option.some.inj e)))).cell 0 rfl
 have J:=ZZ C;have H:=ZZ D
 have G:Hid (∀ c,Yj c b (N+1) (fun m=>if m=n then none else if m=a then some (ps f) else(g m).map ps)->F.grownBy c (some b)->Zlo w b N ps g (.move n a f) (.returned (.tuple #[])) c):=ZZ (fun c j i=>by
  refine⟨rfl,j.fun fun q _=>?_,ZhO l i⟩
  show(if q=n then none else if q=a then some (ps f) else(g q).map ps)=(if q=n then none else if q=a then some f else g q).map ps
  split
  ·rfl
  ·split <;> rfl)
 obtain⟨x,E⟩:∃ x,x=ps f:=⟨_,rfl⟩;rw[<-E] at K I;clear C l k d v y E D A z
 go_enter func143,ntmps143
 go_wp2_with(first | (at_delete;refine ZcH _ rfl _ _ rfl b _ _ n rfl rfl J.o (Zcd H.o) ?_;intro c j i))
 go_end0;exact G.o _ j i
theorem ZmX {n:Int} (f:ZdE n=true) {c b N:Nat} {ps:Nat->Nat} {g:Int->Option Nat} (w:World) (d:Bk 3 w c #[.int .i64 n]) (a:Yj w b N (fun n=>(g n).map ps)):
 Calls prog 157 #[.map (some b),ptr c] w fun e w'=>Zlo w b N ps g (.take n) e w':=by
 obtain⟨p,-⟩:=d.cell 0 rfl;have l:=ZZ a;have k:=ZZ f;clear a f d
 go_enter func157,ntmps157
 go_wp2_with(first | (at_delete;refine ZcH _ rfl _ _ rfl b _ _ n rfl rfl l.o (Zcd k.o) ?_;intro m j i))
 go_end0;refine⟨rfl,(j.mono (Nat.le_succ _)).fun fun q _=>?_,i⟩
 show(if q=n then none else(g q).map ps)=(if q=n then none else g q).map ps
 split <;> rfl
theorem ZyG:(prog.info? 113).map (fun i=>(i.zero,i.size,i.bytes))=some (some .nilFunc,1,8):=by kernel_rfl
theorem Zlp (w:World) (ty:TypeId) (v:Value) (cs:List Value) (h:w.ownsRow 0 113 1 v cs.length cs) (fn:Fn) (a b:Array Value) (p:cs.length<=10000000):
 ∃ v' w',(Builtin.append_ #[67,67] ty #[v,.slice (some ⟨w.heap.size,0,none⟩) 1 1]).run prog (w.alloc (.cells #[.func fn a b] 113))=.ok v' w'∧
  w'.ownsRow 0 113 1 v' (cs++[Value.func fn a b]).length (cs++[Value.func fn a b])∧(w.alloc (.cells #[.func fn a b] 113)).grownBy w' v.ownBlock∧(v'.ownBlock=v.ownBlock∨v'.ownBlock=some (w.heap.size+1)):=by
 obtain⟨m,f,n,e,k⟩:=info_parts ZyG
 obtain⟨v',w',i,g,l,_,hl⟩:=run_append_own_at (P:=prog) (w.alloc (.cells #[.func fn a b] 113)) 0 67 ty 113 m .nilFunc 1 8 underlying67 f n e k rfl (by decide) v cs.length cs (World.ownsRow.alloc h _)
  ⟨w.heap.size,0,none⟩ 1 1 [.func fn a b] rfl (fun j u c=>by
   match j,c with
   | 0,c=>simp at c;subst c;simp[Addr.add]) (fun u d=>by simp at d;subst d;rfl) (by unfold maxLen;omega) (by omega) (Nat.zero_le _)
 refine⟨v',w',i,?_,l,?_⟩
 ·rw[length_append]
  exact g
 ·rcases hl with hl | hl
  ·exact .inl hl
  ·exact .inr (by rw[hl];simp)
theorem ZaG (w:World) {d:Array Oper} {rest:List Oper} {o:Oper} {a:Act} {Q:Exit->Act->World->Prop} (m:o.guard=none) (s x:Operand)
 (l:o.op=.call { callee:=.builtin .append,args:=#[s,x],argTypes:=#[67,67] })
 (v:Value) (cs:List Value) (n:a.eval s=v) (h:w.ownsRow 0 113 1 v cs.length cs) (fn:Fn) (b c:Array Value) (p:a.eval x=.slice (some ⟨w.heap.size,0,none⟩) 1 1) (k:cs.length<=10000000)
 (g:∀ v' w',w'.ownsRow 0 113 1 v' (cs++[Value.func fn b c]).length (cs++[Value.func fn b c])->(w.alloc (.cells #[.func fn b c] 113)).grownBy w' v.ownBlock->(v'.ownBlock=v.ownBlock∨v'.ownBlock=some (w.heap.size+1))->
  wpList prog d Q rest (a.put o.dst v') w'):wpList prog d Q (o::rest) a (w.alloc (.cells #[.func fn b c] 113)):=
 wpList_plain m fun _ e=>by
  obtain⟨v',w',q,i,j,f⟩:=Zlp w o.type v cs h fn b c k;unfold Oper.wp execOp;simp only [l,resolve,invoke,builtin,Sem.run_bind,Sem.run_pure,Result.andThen_ok,map_toArray,map_cons,map_nil,n,p,q];exact e _ _ (g v' w' i j f)
theorem ZmY (h:ZtN m c):∀ n a f,c=.move n a f->n≠a:=by
 rintro n a f rfl;exact h.2.2.1
theorem Zur (d:Dk) (c:Ch):Qm { d with waits:=d.waits++[c] }=chD (Qm d) c:=by
 show(d.waits++[c]).foldl chD d.kept=_;rw[foldl_append];rfl
theorem Xd.addWait {q f:World} {L:Lay} {fn:Fn} {x y:Array Value} (h:Xd F w p L d u N) (Z:ChV F w L.ps c (.func fn x y)) (T:OkD d) (aa:ZtN d.files.length c)
 (I:w.grownBy q (some L.now)) (z:Yj q L.now (N+1) (fun n=>(chF (look (Qm d)) c n).map L.ps))
 (J:f.ownsRow 0 113 1 v' (L.cs++[Value.func fn x y]).length (L.cs++[Value.func fn x y])) (B:(q.alloc (.cells #[.func fn x y] 113)).grownBy f L.wv.ownBlock) (hv:v'.ownBlock=L.wv.ownBlock∨v'.ownBlock=some (q.heap.size+1)):
 Xd (Gr F w f) (f.setCell ⟨p,4,none⟩ v') p { L with wv:=v',cs:=L.cs++[Value.func fn x y] } { d with waits:=d.waits++[c] } u (N+1)∧Ql F w (f.setCell ⟨p,4,none⟩ v'):=by
 have a:=h.rest;have ab:=I.size;have ac:q.heap.size+1<=f.heap.size:=by have:=B.size;simpa using this
 have Y:(f.setCell ⟨p,4,none⟩ v').heap.size=f.heap.size:=by simp
 have R:∀ k,F k->k≠L.now->L.wv.ownBlock≠some k->f.heap[k]?=w.heap[k]?:=fun k l K G=>by
  have E:=h.lt k l;rw[B.block k (by simp;omega) (fun e=>G e.symm),Below.heap_alloc _ _ _ (by omega),I.block k E (fun e=>K (Option.some.inj e))]
 have D:∀ k,F k->k≠L.now->L.wv.ownBlock≠some k->k≠p->(f.setCell ⟨p,4,none⟩ v').heap[k]?=w.heap[k]?:=fun k l K G hp=>by
  rw[Below.heap_setCell _ _ _ _ hp,R k l K G]
 have M:∀ {t:TypeId} {k:Nat} {cs:Array Value},Bk t w k cs->t≠113->L.wv.ownBlock≠some k:=fun hb U j=>by
  obtain⟨C,A⟩:=Dc a.row j;exact(hb.ne A U) rfl
 have S:∀ {k n:Nat} {g:Int->Option Nat},Yj w k n g->L.wv.ownBlock≠some k:=fun z j=>by
  obtain⟨C,A⟩:=Dc a.row j;exact(A.neMap z) rfl
 have H:∀ {t:TypeId} {k:Nat} {cs:Array Value},Bk t w k cs->F k->t≠113->t≠69->(f.setCell ⟨p,4,none⟩ v').heap[k]?=w.heap[k]?:=fun hb l h1 V=>
  D _ l (hb.neMap a.now) (M hb h1) (hb.ne h.head V)
 have P:L.now≠p:=(h.head.neMap a.now).symm;have Q:Bk 69 f p (ZfD L d u):=h.head.keep (R p h.fh P.symm (M h.head (by decide)))
 have X:∀ g,v'.ownBlock=some g->Gr F w f g:=fun g j=>by
  rcases hv with hv | hv
  ·exact .inl (a.fw g (by rw[<-hv];exact j))
  ·rw[hv] at j
   obtain rfl:=Option.some.inj j;exact .inr ⟨by omega,by have:=(World.ownsRow.lt J _ hv).2;omega⟩
 refine⟨⟨Q.set 4 v',?_,.inl h.fh,fun k D=>?_⟩,?_⟩
 ·refine⟨?_,?_,?_,?_,?_,?_,a.psn,a.vsn,a.nk,.inl a.fn,.inl a.fk,X,fun i b=>.inl (a.fp i b),fun i b g j=>.inl (a.fv i b g j)⟩
  ·have e:∀ n,(look (Qm { d with waits:=d.waits++[c] }) n).map L.ps=(chF (look (Qm d)) c n).map L.ps:=fun n=>by rw[Zur,Zdb T.dir.rise c (ZmY aa)]
   refine(z.keep (w':=f.setCell ⟨p,4,none⟩ v') ?_).fun fun n _=>(e n).symm
   rw[Below.heap_setCell _ _ _ _ P,B.block L.now (by simp;have:=z.lt;omega) (fun e=>S a.now e.symm),Below.heap_alloc _ _ _ z.lt]
  ·exact(a.kept.mono (Nat.le_succ N)).keep (D _ a.fk (Ne.symm a.nk) (S a.kept) (h.head.neMap a.kept).symm)
  ·exact Qh J fun g j=>Below.heap_setCell _ _ _ _ (by
    obtain⟨C,A⟩:=Dc J j
    exact A.ne Q (by decide))
  ·rw[length_append,length_append,a.many]
   rfl
  ·intro i c' v b m
   have O:∀ c v,ChV F w L.ps c v->ChV (Gr F w f) (f.setCell ⟨p,4,none⟩ v') L.ps c v:=fun c v W=>W.keep (fun _ l=>.inl l) (fun _ _=>rfl) fun k C l hb=>by
    rcases hb with hb | hb <;> exact H hb l (by decide) (by decide)
   rw[List.getElem?_append] at b m;rw[a.many] at m;by_cases E:i<d.waits.length
   ·rw[if_pos E] at b m
    exact O _ _ (a.wait i c' v b m)
   ·rw[if_neg E] at b m
    have e0:i-d.waits.length=0:=by
     have:=(List.getElem?_eq_some_iff.1 b).1;simp at this;omega
    rw[e0] at b m;simp only [List.getElem?_cons_zero,Option.some.injEq] at b m;rw[<-b,<-m];exact O _ _ Z
  ·intro i b
   refine(a.file i b).keep (H (a.file i b).box (a.fp i b) (by decide) (by decide)) fun g j=>?_
   obtain⟨C,hb⟩:=Dc (a.file i b).own j;exact H hb (a.fv i b g j) (by decide) (by decide)
 ·rw[Y]
  exact Gr.lt (by omega) h.lt k D
 ·have o1:Ql F w q:=Ql.ofGrown I fun k e _=>by obtain rfl:=Option.some.inj e;exact a.fn
  have o2:Ql F (q.alloc (.cells #[.func fn x y] 113)) f:=Ql.ofGrown B fun k e _=>a.fw k e
  exact((o1.alloc _).trans o2 (fun _ _ l=>l)).setCell 4 (fun _=>h.fh) v'
theorem Zez (h:w.ownsRow base t s v n xs):∃ ao m b,v=.slice ao m b:=by
 rcases h.2 with ⟨a,_⟩ | ⟨g,cap,cur,a,_⟩
 ·exact⟨_,_,_,a⟩
 ·exact⟨_,_,_,a⟩
theorem Zus (F:Nat->Prop) (w b:World) (a:Addr) (v:Value):Gr F w (b.setCell a v)=Gr F w b:=by
 funext k
 simp[Gr]
def ZyH (F:Nat->Prop) (w:World) (p:Nat) (L:Lay) (d:Dk) (u:Int) (N:Nat) (c:Ch) (e:Ending) (w':World):Prop:=
 e=.returned (.tuple #[])∧∃ L',Xd (Gr F w w') w' p L' { d with waits:=d.waits++[c] } u (N+1)∧L'.ps=L.ps∧L'.vs=L.vs∧Ql F w w'
theorem ZhP {L:Lay} {cv:Value} (w:World) (h:Xd F w p L d u N) (hc:ChV F w L.ps c cv) (ac:OkD d) (ad:ZtN d.files.length c) (hN:N<=1000000) (hW:d.waits.length<=1000000):
 Calls prog 95 #[ptr p,cv] w fun e w'=>ZyH F w p L d u N c e w':=by
 have H:=ZZ h;have aa:=ZZ ac;have G:=ZZ ad;obtain⟨⟨-,-,c2,-,-,-⟩,-⟩:=h.cells;have q:Hid (L.now≠p):=ZZ (h.head.neMap h.rest.now).symm
 have Z:Hid (∀ g,L.wv.ownBlock=some g->g≠L.now):=ZZ (fun g l=>by
  obtain⟨ab,I⟩:=Dc h.rest.row l
  exact I.neMap h.rest.now)
 clear h ac ad
 cases c with
 | give n f=>
  obtain⟨A,P,rfl,C,K,U,f2⟩:=hc;have R:Hid (ChV F w L.ps (.give n f) (.func (.func 139) #[] #[ptr P,ptr A])):=ZZ ⟨A,P,rfl,C,K,U,f2⟩;have S:=ZZ (ZmV (f:=f) G.o.1 w C K H.out.rest.now (by omega))
  go_enter func95,ntmps95
  go_wp2_with fail
  refine S.o.mono ?_;rintro e j ⟨rfl,z,a⟩;have M:=ZZ z;have b:=ZZ a;have t:=H.out.head.keep (a.block p H.out.head.lt (fun e=>q.o (Option.some.inj e).symm))
  obtain⟨J,Q⟩:=t.cell 4 rfl;have v:Hid (j.ownsRow 0 113 1 L.wv L.cs.length L.cs):=ZZ (Qh H.out.rest.row fun g l=>a.block g (World.ownsRow.lt H.out.rest.row g l).2 (fun e=>Z.o g l (Option.some.inj e)))
  clear z a t;have y:Hid (p<j.heap.size):=ZZ (Nat.lt_of_lt_of_le H.out.head.lt b.o.size)
  go_wp2_with(at_builtin;refine(fun(h:True->_)=>h trivial) ?_)
  intro _;refine ZaG j rfl _ _ rfl L.wv L.cs rfl v.o _ _ _ rfl (by have:=H.out.rest.many;omega) ?_
  intro v' x k i E;have Y:=ZZ k;have T:=ZZ i;have O:=ZZ E
  have D:Bk 69 x p (ZfD L d u):=(H.out.head.keep (b.o.block p H.out.head.lt (fun e=>q.o (Option.some.inj e).symm))).keep ((i.block p (by simp;have:=y.o;omega) (fun e=>by
   obtain⟨ab,I⟩:=Dc v.o e.symm
   exact(I.ne (H.out.head.keep (b.o.block p H.out.head.lt (fun e=>q.o (Option.some.inj e).symm))) (by decide)) rfl)).trans (Below.heap_alloc _ _ _ y.o))
  obtain⟨d4,g4⟩:=D.cell 4 rfl;obtain⟨ao,X,V,rfl⟩:=Zez k;clear k i E D J Q;go_wp2;go_end0;obtain⟨B,W⟩:=H.out.addWait R.o aa.o G.o b.o M.o Y.o T.o O.o;rw[<-Zus F w x ⟨p,4,none⟩ (.slice ao X V)] at B;exact⟨rfl,_,B,rfl,rfl,W⟩
 | move n m f=>
  obtain⟨A,P,b3,rfl,C,K,h3,U,f2,f3⟩:=hc;have R:Hid (ChV F w L.ps (.move n m f) (.func (.func 143) #[] #[ptr b3,ptr P,ptr A])):=ZZ ⟨A,P,b3,rfl,C,K,h3,U,f2,f3⟩;have S:=ZZ (ZmW (f:=f) G.o.1 G.o.2.1 w C K h3 H.out.rest.now (by omega))
  go_enter func95,ntmps95
  go_wp2_with fail
  refine S.o.mono ?_;rintro e j ⟨rfl,z,a⟩;have M:=ZZ z;have b:=ZZ a;have t:=H.out.head.keep (a.block p H.out.head.lt (fun e=>q.o (Option.some.inj e).symm))
  obtain⟨J,Q⟩:=t.cell 4 rfl;have v:Hid (j.ownsRow 0 113 1 L.wv L.cs.length L.cs):=ZZ (Qh H.out.rest.row fun g l=>a.block g (World.ownsRow.lt H.out.rest.row g l).2 (fun e=>Z.o g l (Option.some.inj e)))
  clear z a t;have y:Hid (p<j.heap.size):=ZZ (Nat.lt_of_lt_of_le H.out.head.lt b.o.size)
  go_wp2_with(at_builtin;refine(fun(h:True->_)=>h trivial) ?_)
  intro _;refine ZaG j rfl _ _ rfl L.wv L.cs rfl v.o _ _ _ rfl (by have:=H.out.rest.many;omega) ?_
  intro v' x k i E;have Y:=ZZ k;have T:=ZZ i;have O:=ZZ E
  have D:Bk 69 x p (ZfD L d u):=(H.out.head.keep (b.o.block p H.out.head.lt (fun e=>q.o (Option.some.inj e).symm))).keep ((i.block p (by simp;have:=y.o;omega) (fun e=>by
   obtain⟨ab,I⟩:=Dc v.o e.symm
   exact(I.ne (H.out.head.keep (b.o.block p H.out.head.lt (fun e=>q.o (Option.some.inj e).symm))) (by decide)) rfl)).trans (Below.heap_alloc _ _ _ y.o))
  obtain⟨d4,g4⟩:=D.cell 4 rfl;obtain⟨ao,X,V,rfl⟩:=Zez k;clear k i E D J Q;go_wp2;go_end0;obtain⟨B,W⟩:=H.out.addWait R.o aa.o G.o b.o M.o Y.o T.o O.o;rw[<-Zus F w x ⟨p,4,none⟩ (.slice ao X V)] at B;exact⟨rfl,_,B,rfl,rfl,W⟩
 | take n=>
  obtain⟨A,rfl,C,U⟩:=hc;have R:Hid (ChV F w L.ps (.take n) (.func (.func 157) #[] #[ptr A])):=ZZ ⟨A,rfl,C,U⟩;have S:=ZZ (ZmX G.o w C H.out.rest.now)
  go_enter func95,ntmps95
  go_wp2_with fail
  refine S.o.mono ?_;rintro e j ⟨rfl,z,a⟩;have M:=ZZ z;have b:=ZZ a;have t:=H.out.head.keep (a.block p H.out.head.lt (fun e=>q.o (Option.some.inj e).symm))
  obtain⟨J,Q⟩:=t.cell 4 rfl;have v:Hid (j.ownsRow 0 113 1 L.wv L.cs.length L.cs):=ZZ (Qh H.out.rest.row fun g l=>a.block g (World.ownsRow.lt H.out.rest.row g l).2 (fun e=>Z.o g l (Option.some.inj e)))
  clear z a t;have y:Hid (p<j.heap.size):=ZZ (Nat.lt_of_lt_of_le H.out.head.lt b.o.size)
  go_wp2_with(at_builtin;refine(fun(h:True->_)=>h trivial) ?_)
  intro _;refine ZaG j rfl _ _ rfl L.wv L.cs rfl v.o _ _ _ rfl (by have:=H.out.rest.many;omega) ?_
  intro v' x k i E;have Y:=ZZ k;have T:=ZZ i;have O:=ZZ E
  have D:Bk 69 x p (ZfD L d u):=(H.out.head.keep (b.o.block p H.out.head.lt (fun e=>q.o (Option.some.inj e).symm))).keep ((i.block p (by simp;have:=y.o;omega) (fun e=>by
   obtain⟨ab,I⟩:=Dc v.o e.symm
   exact(I.ne (H.out.head.keep (b.o.block p H.out.head.lt (fun e=>q.o (Option.some.inj e).symm))) (by decide)) rfl)).trans (Below.heap_alloc _ _ _ y.o))
  obtain⟨d4,g4⟩:=D.cell 4 rfl;obtain⟨ao,X,V,rfl⟩:=Zez k;clear k i E D J Q;go_wp2;go_end0;obtain⟨B,W⟩:=H.out.addWait R.o aa.o G.o b.o M.o Y.o T.o O.o;rw[<-Zus F w x ⟨p,4,none⟩ (.slice ao X V)] at B;exact⟨rfl,_,B,rfl,rfl,W⟩
def ZrS (fs:List Fl):Option Nat->Nat
 | some f=>(fl fs f).b.length
 | none=>0
theorem Zaj (fs:List Fl) (p:Int × Nat) (l:Dir):Zt fs (p::l)=(fl fs p.2).b.length+Zt fs l:=by simp[Zt]
theorem ZgU (fs:List Fl):Zt fs []=0:=rfl
theorem ZdO (fs:List Fl) (a b:Dir):Zt fs (a++b)=Zt fs a+Zt fs b:=by simp[Zt]
theorem ZhQ (fs:List Fl) (n:Int) (f:Nat):∀ (l:Dir) (done:Bool),Zt fs (Zjz n f done l)=Zt fs (l.filter fun p=>decide (p.1≠n))+(if done then 0 else(fl fs f).b.length)
 | [],done=>by cases done <;> simp[Zjz,Zt]
 | q::l,done=>by
  have d:=ZhQ fs n f l (done || decide (q.1>n));rw[Zjz,ZdO,ZdO,d,List.filter_cons];by_cases c:q.1>n
  ·have a:q.1≠n:=by omega
   cases done <;> simp[c,a,Zaj,ZgU] <;> omega
  ·by_cases a:q.1=n
   ·cases done <;> simp[a,ZgU]
   ·cases done <;> simp[c,a,Zaj,ZgU] <;> omega
theorem ZhR (fs:List Fl) (n:Int):∀ l:Dir,Xa l->Zt fs (l.filter fun p=>decide (p.1≠n))+ZrS fs (look l n)=Zt fs l
 | [],_=>rfl
 | q::l,h=>by
  unfold Xa at h;rw[List.pairwise_cons] at h;rw[List.filter_cons,look];by_cases e:q.1=n
  ·have c:∀ p ∈ l,p.1≠n:=fun p a=>by have:=h.1 p a;omega
   rw[if_pos e,if_neg (by simp[e]),Zaj,List.filter_eq_self.2 (fun p a=>by simpa using c p a)]
   show _+(fl fs q.2).b.length=_;omega
  ·rw[if_neg e,if_pos (by simp[e]),Zaj,Zaj]
   have:=ZhR fs n l h.2;omega
theorem ZeA (fs:List Fl) {l:Dir} (h:Xa l) (n:Int) (o:Option Nat):Zt fs (Yt l n o)+ZrS fs (look l n)=Zt fs l+ZrS fs o:=by
 have a:=ZhR fs n l h
 cases o with
 | none=>rw[Yt,ZhQ];show _=_+0;simp only [if_true];omega
 | some f=>rw[Yt,ZhQ];simp only [Bool.false_eq_true,if_false];show _=_+(fl fs f).b.length;omega
theorem ZeB {f:Nat} (h:f<fs.length) (x:Fl):fl (fs++[x]) f=fl fs f:=by
 unfold fl;simp[List.getD,List.getElem?_append,h]
theorem ZhS (fs:List Fl) (x:Fl):fl (fs++[x]) fs.length=x:=by
 unfold fl;simp[List.getD]
theorem Zlq {a:List Fl} {l:Dir} (h:∀ p ∈ l,(fl a p.2).b.length=(fl fs p.2).b.length):Zt a l=Zt fs l:=by
 unfold Zt;rw[List.map_congr_left h]
theorem Zut {l:Dir} (h:∀ p ∈ l,p.2<fs.length) (x:Fl):Zt (fs++[x]) l=Zt fs l:=
 Zlq fun p a=>by rw[ZeB (h p a)]
theorem Zlr {fs:List Fl} {f:Nat} (a:f<fs.length) (x:Fl):∀ {l:Dir},G9 l->(∃ n,(n,f) ∈ l)->Zt (fs.set f x) l+(fl fs f).b.length=Zt fs l+x.b.length
 | [],_,⟨_,h⟩=>by cases h
 | q::l,ha,⟨n,h⟩=>by
  unfold G9 at ha;rw[List.pairwise_cons] at ha;rw[Zaj,Zaj];by_cases e:q.2=f
  ·have d:Zt (fs.set f x) l=Zt fs l:=Zlq fun p c=>by rw[Jf (by rw[<-e];exact ha.1 p c)]
   rw[e,d,Zao a];omega
  ·rw[Jf (fun g=>e g.symm)]
   rcases List.mem_cons.1 h with h | h
   ·exact absurd (by rw[<-h]) e
   ·have:=Zlr a x (l:=l) ha.2 ⟨n,h⟩
    omega
theorem ZrT (h:OkD d) {n:Int} {f:Nat} (e:look (Qm d) n=some f) (b:List UInt8):Jb (appendTo d f b)=Jb d+b.length:=by
 have a:=(Zb h.dir.rise n f).1 e;have:=Zlr (h.dir.may _ a).2 ⟨(fl d.files f).b++b,(fl d.files f).k⟩ h.dir.apart ⟨n,a⟩;simp only [length_append] at this;show Zt (Yr d.files f b) (Qm d)=Zt d.files (Qm d)+b.length;unfold Yr;omega
theorem ZrU (h:OkD d) {n:Int} {f:Nat} (e:look (Qm d) n=some f) (q:Int):Jb { d with files:=Gd d.files f,power:=q }=Jb d:=by
 have a:=(Zb h.dir.rise n f).1 e;have:=Zlr (h.dir.may _ a).2 ⟨(fl d.files f).b,(fl d.files f).b.length⟩ h.dir.apart ⟨n,a⟩;show Zt (Gd d.files f) (Qm d)=Zt d.files (Qm d);unfold Gd
 dsimp only at this
 omega
theorem ZoX (h:OkD d) {n:Int} (e:look (Qm d) n=none):Jb (Jd d n)=Jb d:=by
 have a:=ZeA (d.files++[⟨[],0⟩]) h.dir.rise n (some d.files.length);have f:Zt (d.files++[⟨[],0⟩]) (Qm d)=Zt d.files (Qm d):=Zut (fun p g=>(h.dir.may p g).2) _
 have c:ZrS (d.files++[⟨[],0⟩]) (some d.files.length)=0:=by show(fl _ _).b.length=0;rw[ZhS];rfl
 rw[e,f,c] at a;unfold Jb;rw[Zkd,chD];show Zt (d.files++[⟨[],0⟩]) (Yt (Qm d) n (some d.files.length))=_;simpa[ZrS] using a
theorem ZrV (h:OkD d) {n m:Int} {f:Nat} (g:n≠m) (e:look (Qm d) n=some f) (q:Int):Jb { d with waits:=d.waits++[.move n m f],power:=q }+ZrS d.files (look (Qm d) m)=Jb d:=by
 have a:=ZeA d.files h.dir.rise n none;have b:=ZeA d.files (Yo h.dir.rise n none) m (some f);rw[Zaw h.dir.rise,if_neg (fun e=>g e.symm)] at b
 rw[e] at a
 have c:Jb { d with waits:=d.waits++[.move n m f],power:=q }=Zt d.files (Yt (Yt (Qm d) n none) m (some f)):=by
  show Zt d.files ((d.waits++[Ch.move n m f]).foldl chD d.kept)=_;rw[foldl_append];rfl
 rw[c];show _=Zt d.files (Qm d);simp only [ZrS] at a b ⊢;omega
theorem ZrW (h:OkD d) {n:Int} {f:Nat} (e:look (Qm d) n=some f) (q:Int):Jb { d with waits:=d.waits++[.take n],power:=q }+(fl d.files f).b.length=Jb d:=by
 have a:=ZeA d.files h.dir.rise n none;rw[e] at a
 have c:Jb { d with waits:=d.waits++[.take n],power:=q }=Zt d.files (Yt (Qm d) n none):=by
  show Zt d.files ((d.waits++[Ch.take n]).foldl chD d.kept)=_;rw[foldl_append];rfl
 rw[c];show _=Zt d.files (Qm d);simp only [ZrS] at a;omega
theorem ZoY {fs:List Fl} {T:Nat} (h:∀ x ∈ fs,x.b.length<=T):∀ l:Dir,(∀ p ∈ l,p.2<fs.length)->Zt fs l<=l.length*T
 | [],_=>Nat.zero_le _
 | p::l,hl=>by
  have d:=ZoY h l fun q a=>hl q (List.mem_cons_of_mem _ a)
  have c:=h _ (ZbH (hl p (List.mem_cons_self ..)));rw[Zaj,List.length_cons,Nat.add_mul];omega
theorem Zgj (l:List Ch):∀ k:Dir,(l.foldl chD k).length<=k.length+l.length:=by
 induction l with
 | nil=>intro k;exact Nat.le_refl _
 | cons c l a=>
  intro k;have b:=a (chD k c);have d:=Zrt k c;rw[List.foldl_cons,List.length_cons];omega
theorem ZwX (h:OkD d) {N T:Nat} (f:d.kept.length+d.waits.length<=N) (a:∀ x ∈ d.files,x.b.length<=T):Jb d<=N*T:=by
 have i:=ZoY a (Qm d) fun p c=>(h.dir.may p c).2
 have e:=Zgj d.waits d.kept;have g:(Qm d).length*T<=N*T:=Nat.mul_le_mul_right T (by unfold Qm;omega)
 unfold Jb;omega
theorem Zbt (d:Dk) (k:Nat):(Ym d k).length<=d.kept.length+d.waits.length:=by
 have h:=Zgj (d.waits.take k) d.kept;have a:(d.waits.take k).length<=d.waits.length:=by rw[List.length_take];omega
 unfold Ym;omega
theorem Xd.widen {L:Lay} (h:Xd F w p L d u N) (a:∀ k,F k->F' k) (j:∀ k,F' k->k<w.heap.size):Xd F' w p L d u N:=
 ⟨h.head,⟨h.rest.now,h.rest.kept,h.rest.row,h.rest.many,fun i c v l f=>(h.rest.wait i c v l f).keep a (fun _ _=>rfl) (fun _ _ _ _=>rfl),h.rest.file,h.rest.psn,h.rest.vsn,h.rest.nk,a _ h.rest.fn,a _ h.rest.fk,fun g e=>a g (h.rest.fw g e),fun i b=>a _ (h.rest.fp i b),fun i b g e=>a g (h.rest.fv i b g e)⟩,a _ h.fh,j⟩
theorem Xd.more {L:Lay} (h:Xd F w p L d u N) (a:Below w.heap.size w w'):Xd (Gr F w w') w' p L d u N:=
 (h.keep (fun k b=>a.block k (h.lt k b)) a.size).widen (fun _ b=>.inl b) (Gr.lt a.size h.lt)
theorem ZyI (h:ZtN m c) {f:Nat} (e:chOf c=some f):f<m:=by
 cases c with
 | give n g=>obtain rfl:=Option.some.inj e;exact h.2
 | move n g x=>obtain rfl:=Option.some.inj e;exact h.2.2.2
 | take n=>cases e
theorem Xd.addFile {L:Lay} (h:Xd F w p L d u N) (t:OkD d):
 Xd (Gr F w (w.alloc (.cells #[.slice none 0 0,.int .i64 0] 117))) (w.alloc (.cells #[.slice none 0 0,.int .i64 0] 117)) p { L with ps:=fun i=>if i=d.files.length then w.heap.size else L.ps i,vs:=fun i=>if i=d.files.length then .slice none 0 0 else L.vs i } { d with files:=d.files++[⟨[],0⟩] } u N:=by
 have B:Below w.heap.size w (w.alloc (.cells #[.slice none 0 0,.int .i64 0] 117)):=(Below.refl _ w).alloc zL _;have C:Bk 117 (w.alloc (.cells #[.slice none 0 0,.int .i64 0] 117)) w.heap.size #[.slice none 0 0,.int .i64 0]:=heap_alloc_new w _;have J:(w.alloc (.cells #[.slice none 0 0,.int .i64 0] 117)).heap.size=w.heap.size+1:=by simp
 obtain⟨W,H⟩:∃ W,W=w.alloc (.cells #[.slice none 0 0,.int .i64 0] 117):=⟨_,rfl⟩;rw[<-H] at B C J ⊢;have q:=h.more B;have b:=q.rest;have K:(d.files++[(⟨[],0⟩:Fl)]).length=d.files.length+1:=by simp
 refine⟨q.head,⟨?_,?_,b.row,b.many,?_,?_,?_,?_,b.nk,b.fn,b.fk,b.fw,?_,?_⟩,q.fh,q.lt⟩
 ·refine b.now.fun fun n _=>?_
  show(look (Qm d) n).map L.ps=(look (Qm d) n).map _
  cases e:look (Qm d) n with
  | none=>rfl
  | some f=>
   have:=(t.dir.mayOf e).2;show some (L.ps f)=some (if f=d.files.length then w.heap.size else L.ps f)
   rw[if_neg (by omega)]
 ·refine b.kept.fun fun n _=>?_
  show(look d.kept n).map L.ps=(look d.kept n).map _
  cases e:look d.kept n with
  | none=>rfl
  | some f=>
   have:=(t.kept.mayOf e).2;show some (L.ps f)=some (if f=d.files.length then w.heap.size else L.ps f)
   rw[if_neg (by omega)]
 ·intro i c v a G
  refine(b.wait i c v a G).keep (fun _ y=>y) (fun f y=>?_) (fun _ _ _ _=>rfl)
  have:=ZyI (t.chs c (List.mem_of_getElem? a)) y;show(if f=d.files.length then w.heap.size else L.ps f)=L.ps f
  rw[if_neg (by omega)]
 ·intro i a
  show ZmQ W (if i=d.files.length then w.heap.size else L.ps i) (if i=d.files.length then .slice none 0 0 else L.vs i) (fl (d.files++[⟨[],0⟩]) i)
  by_cases e:i=d.files.length
  ·rw[if_pos e,if_pos e,e,ZhS]
   exact⟨C,World.ownsRow_nil _ _ _ _⟩
  ·have E:i<d.files.length:=by have:i<(d.files++[(⟨[],0⟩:Fl)]).length:=a;omega
   rw[if_neg e,if_neg e,ZeB E];exact b.file i E
 ·intro i j a x A
  have z:i<(d.files++[(⟨[],0⟩:Fl)]).length:=a;have I:j<(d.files++[(⟨[],0⟩:Fl)]).length:=x;show(if i=d.files.length then w.heap.size else L.ps i)≠(if j=d.files.length then w.heap.size else L.ps j)
  have D:∀ i,i<d.files.length->L.ps i<w.heap.size:=fun i a=>h.lt _ (h.rest.fp i a)
  by_cases m:i=d.files.length
  ·rw[if_pos m,if_neg (by omega)]
   have:=D j (by omega)
   omega
  ·rw[if_neg m]
   by_cases k:j=d.files.length
   ·rw[if_pos k]
    have:=D i (by omega)
    omega
   ·rw[if_neg k]
    exact b.psn i j (by show i<d.files.length;omega) (by show j<d.files.length;omega) A
 ·intro i j a x A g
  have z:i<(d.files++[(⟨[],0⟩:Fl)]).length:=a;have I:j<(d.files++[(⟨[],0⟩:Fl)]).length:=x;show(if i=d.files.length then Value.slice none 0 0 else L.vs i).ownBlock=some g->(if j=d.files.length then Value.slice none 0 0 else L.vs j).ownBlock≠some g
  by_cases m:i=d.files.length
  ·rw[if_pos m]
   intro l
   cases l
  ·rw[if_neg m]
   by_cases k:j=d.files.length
   ·rw[if_pos k]
    intro _ l
    cases l
   ·rw[if_neg k]
    exact b.vsn i j (by show i<d.files.length;omega) (by show j<d.files.length;omega) A g
 ·intro i a
  have z:i<(d.files++[(⟨[],0⟩:Fl)]).length:=a;show Gr F w W (if i=d.files.length then w.heap.size else L.ps i)
  by_cases e:i=d.files.length
  ·rw[if_pos e]
   exact .inr ⟨Nat.le_refl _,by omega⟩
  ·rw[if_neg e]
   exact b.fp i (by show i<d.files.length;omega)
 ·intro i a g
  have z:i<(d.files++[(⟨[],0⟩:Fl)]).length:=a;show(if i=d.files.length then Value.slice none 0 0 else L.vs i).ownBlock=some g->Gr F w W g
  by_cases e:i=d.files.length
  ·rw[if_pos e]
   intro l
   cases l
  ·rw[if_neg e]
   exact b.fv i (by show i<d.files.length;omega) g
theorem ZjG (w:World) (ty:TypeId) (v:Value) (b:List UInt8) (d:Own w 0 v b) (g:Value) (l:List UInt8) (j:Rd w g l)
 (y:b.length+l.length<=70368744177664):
 ∃ v' w',(Builtin.append_ #[53,53] ty #[v,g]).run prog w=.ok v' w'∧Own w' 0 v' (b++l)∧w.grownBy w' v.ownBlock∧(v'.ownBlock=v.ownBlock∨v'.ownBlock=some w.heap.size):=by
 obtain⟨i,f,u,m,x⟩:=info_parts Zlf;obtain⟨ao,cap,rfl,A,z,k,t⟩:=j
 cases ao with
 | none=>
  have p:=k rfl;subst p;have c:l=[]:=List.eq_nil_of_length_eq_zero (by omega)
  subst c;have e:=run_append_owned_none (P:=prog) w 0 53 ty 5 i 1 underlying53 f v b.length (Lib.byteCells b) d;exact⟨v,w,e,by rw[List.append_nil];exact d,⟨rfl,rfl,rfl,Nat.le_refl _,fun _ _ _=>rfl⟩,.inl rfl⟩
 | some a=>
  obtain⟨v',w',e,n,q,_,c⟩:=run_append_own_at (P:=prog) w 0 53 ty 5 i (.int .u8 0) 1 1 underlying53 f u m x rfl (by decide) v b.length (Lib.byteCells b) d a l.length cap (Lib.byteCells l)
   (by rw[Y0,Nat.mul_one]) (Rd.cells t a rfl) (ZaJ l) (by unfold maxLen;omega) (by omega) (Nat.zero_le _)
  exact⟨v',w',e,Own.mk' n (by simp) (by simp[Lib.byteCells]),q,c⟩
theorem ZbO (w:World) {d:Array Oper} {rest:List Oper} {o:Oper} {a:Act} {Q:Exit->Act->World->Prop} (p:o.guard=none) (s x:Operand)
 (m:o.op=.call { callee:=.builtin .append,args:=#[s,x],argTypes:=#[53,53] })
 (v:Value) (b:List UInt8) (q:a.eval s=v) (n:Own w 0 v b) (c:Value) (l:List UInt8) (t:a.eval x=c) (e:Rd w c l)
 (k:b.length+l.length<=70368744177664)
 (h:∀ v' w',Own w' 0 v' (b++l)->w.grownBy w' v.ownBlock->(v'.ownBlock=v.ownBlock∨v'.ownBlock=some w.heap.size)->wpList prog d Q rest (a.put o.dst v') w'):wpList prog d Q (o::rest) a w:=
 wpList_plain p fun _ g=>by
  obtain⟨v',w',u,i,j,f⟩:=ZjG w o.type v b n c l e k;unfold Oper.wp execOp;simp only [m,resolve,invoke,builtin,Sem.run_bind,Sem.run_pure,Result.andThen_ok,map_toArray,map_cons,map_nil,q,t,u];exact g _ _ (h v' w' i j f)
theorem Xd.grow {L:Lay} {f:Nat} {x:List UInt8} (h:Xd F w p L d u N) (j:f<d.files.length)
 (t:Own a 0 v' ((fl d.files f).b++x)) (n:w.grownBy a (L.vs f).ownBlock) (hl:v'.ownBlock=(L.vs f).ownBlock∨v'.ownBlock=some w.heap.size):
 Xd (Gr F w a) (a.setCell ⟨L.ps f,0,none⟩ v') p { L with vs:=fun i=>if i=f then v' else L.vs i } { d with files:=Yr d.files f x } u N∧Ql F w (a.setCell ⟨L.ps f,0,none⟩ v'):=by
 have l:=h.rest;have q:=(l.file f j).box
 have B:(L.vs f).ownBlock≠some (L.ps f):=fun e=>by
  obtain⟨C,v⟩:=Dc (l.file f j).own e;exact(q.ne v (by decide)) rfl
 have y:Bk 117 a (L.ps f) #[L.vs f,.int .i64 ((fl d.files f).k:Int)]:=q.keep (n.block _ q.lt (fun e=>B e.symm))
 have E:(a.setCell ⟨L.ps f,0,none⟩ v').heap.size=a.heap.size:=by simp
 refine⟨h.setFile (F':=Gr F w a) j (fun k m D A=>?_) ⟨y.set 0 v',?_⟩ ?_ (fun _ m=>.inl m) (fun g c=>?_) (fun k m=>by rw[E];exact Gr.lt n.size h.lt k m),?_⟩
 ·rw[Below.heap_setCell _ _ _ _ D,n.block k (h.lt k m) (fun e=>A e.symm)]
 ·refine Qh t fun g c=>Below.heap_setCell _ _ _ _ ?_
  obtain⟨C,v⟩:=Dc t c;exact v.ne y (by decide)
 ·rcases hl with hl | hl
  ·exact .inl hl
  ·exact .inr fun g c=>by rw[hl] at c;exact Nat.le_of_eq (Option.some.inj c)
 ·rcases hl with hl | hl
  ·exact .inl (l.fv f j g (by rw[<-hl];exact c))
  ·have z:=(World.ownsRow.lt t g c).2
   rw[hl] at c;obtain rfl:=Option.some.inj c;exact .inr ⟨Nat.le_refl _,z⟩
 ·exact(Ql.ofGrown n fun k e _=>l.fv f j k e).setCell 0 (fun _=>l.fp f j) v'
theorem Bnd.grow (h:Bnd d N T) (f:Nat) (b:List UInt8) (q:Int):Bnd { d with files:=Yr d.files f b,power:=q } (N+1) (T+b.length):=by
 refine⟨by show(Yr d.files f b).length<=_;have:=h.files;simp[Yr];omega,by have:=h.names;show d.kept.length+d.waits.length<=_;omega,fun x a=>?_⟩
 rcases List.mem_or_eq_of_mem_set a with a | rfl
 ·have:=h.bytes x a;omega
 ·simp only [length_append]
  by_cases c:f<d.files.length
  ·have:=h.bytes _ (ZbH c);omega
  ·unfold fl
   rw[List.getD,List.getElem?_eq_none (by omega)]
   simp only [Option.getD_none,List.length_nil];omega
theorem Bnd.fresh (h:Bnd d N T) (n:Int):Bnd (Jd d n) (N+1) T:=by
 refine⟨by show(d.files++[_]).length<=_;have:=h.files;simp;omega,by have:=h.names;show d.kept.length+(d.waits++[_]).length<=_;simp;omega,fun x hx=>?_⟩
 rcases List.mem_append.1 hx with hx | hx
 ·exact h.bytes x hx
 ·rw[List.mem_singleton.1 hx]
  exact Nat.zero_le _
theorem Bnd.mono (h:Bnd d N T) (a:N<=N') (b:T<=T'):Bnd d N' T':=
 ⟨Nat.le_trans h.files a,Nat.le_trans h.names a,fun x c=>Nat.le_trans (h.bytes x c) b⟩
theorem Xd.mono {L:Lay} (h:Xd F w p L d u N) (a:N<=N'):Xd F w p L d u N':=⟨h.head,h.rest.mono a,h.fh,h.lt⟩
theorem Dsk.mono (h:Dsk F w p d N T) (a:N<=N') (g:T<=T'):Dsk F w p d N' T':=by
 obtain⟨L,c,e,f,b⟩:=h;exact⟨L,c.mono a,e,f.mono a g,b⟩
def Zgk (F:Nat->Prop) (w:World) (p:Nat) (d:Dk) (code:Int) (N T:Nat) (e:Ending) (w':World):Prop:=
 e=.returned (.int .i64 code)∧∃ F',Dsk F' w' p d N T∧Ql F w w'∧∀ k,F' k->F k∨w.heap.size<=k
theorem Zgk.same {a:Int} (h:Dsk F w p d N T) (b:N<=N') (e:T<=T'):Zgk F w p d a N' T' (.returned (.int .i64 a)) w:=
 ⟨rfl,F,h.mono b e,Ql.refl _ _,fun _ c=>.inl c⟩
theorem Zgk.drew {a:Int} (h:Dsk F w p d N T) (b:N<=N') (e:T<=T') (q:Nat):Zgk F w p d a N' T' (.returned (.int .i64 a)) (w.drewN q):=
 ⟨rfl,F,(h.below (Xo (Below.refl _ _) q)).mono b e,(Ql.refl _ _).drewN q,fun _ c=>.inl c⟩
theorem Zdf {q:Int} (h:I64 q):I64 (Y5 q):=by
 obtain⟨a,b⟩:=h;unfold Y5 I64;split <;> omega
theorem ZoZ (h:OkD d) {N T:Nat} (a:Bnd d N T) (b:N<=1000000) (c:T<=1000000000):Jb d<=1000000000000000:=by
 have e:=ZwX h a.names a.bytes;have f:N*T<=1000000*1000000000:=Nat.mul_le_mul b c;omega
theorem Zgk.appended {d:Nat->Prop} {c:World} {a:Dk} {e f:Nat} {n:Int} {b:List UInt8} {j:Lay} (g:OkD a) (m:Bnd a e T) (i:I64 a.room∧I64 a.power) (q:look (Qm a) n=some f)
 (h:Xd d c p j (appendTo a f b) ((Jb a:Int)+b.length) e) (t:Ql F w c) (u:∀ k,d k->F k∨w.heap.size<=k) (l:e+1<=N'):Zgk F w p (appendTo a f b) 0 N' (T+b.length) (.returned (.int .i64 0)) c:=by
 refine⟨rfl,d,⟨j,?_,g.appendTo f b,(m.grow f b _).mono l zL,i.1,Zdf i.2⟩,t,u⟩;rw[ZrT g q b];exact h.mono (by omega)
theorem Rd.blockLt (h:Rd w v l):l=[]∨∀ k,v.ownBlock=some k->k<w.heap.size:=by
 obtain⟨ao,cap,rfl,g,i,j,a⟩:=h;rcases a with a | ⟨b,c,rfl,f⟩
 ·exact .inl a
 ·by_cases e:l=[]
  ·exact .inl e
  ·right
   intro k d;obtain rfl:b=k:=by simpa[Value.ownBlock] using d
   exact World.block_lt_of_cell? w ⟨b,c+0,none⟩ (f 0 (List.length_pos_iff.2 e))
theorem Rd.onlyN (h:Rd w v l) {F G:Nat->Prop} {B:Nat} (f:Ql G w w') (i:∀ k,G k->F k∨B<=k) (hv:l=[]∨∀ k,v.ownBlock=some k->¬ F k) (hlt:l=[]∨∀ k,v.ownBlock=some k->k<B):Rd w' v l:=by
 rcases hv with rfl | hv
 ·obtain⟨ao,cap,rfl,a,b,c,e⟩:=h
  exact⟨ao,cap,rfl,a,b,c,.inl rfl⟩
 rcases hlt with rfl | hlt
 ·obtain⟨ao,cap,rfl,a,b,c,e⟩:=h
  exact⟨ao,cap,rfl,a,b,c,.inl rfl⟩
 ·exact h.only f fun k d g=>by
   rcases i k g with hf | hf
   ·exact hv k d hf
   ·have:=hlt k d;omega
theorem Zkj (n:Int) (hn:I64 n) (vb:Value) (b:List UInt8) (w:World) (h:Dsk F w p d N T) (hr:Rd w vb b) (hv:b=[]∨∀ k,vb.ownBlock=some k->¬ F k) (hN:N<=1000000) (hT:T<=1000000000) (bl:b.length<=1000000000):
 Calls prog 52 #[ptr p,.int .i64 n,vb] w fun e w'=>Zgk F w p (Qy d n b).1 (Qy d n b).2 (N+2) (T+b.length) e w':=by
 have HD:=ZZ h;obtain⟨L,h,aN,aH,bc,a1⟩:=h;have H:=ZZ h;have t:=ZZ aN;have ay:=ZZ aH;have HI:=ZZ (And.intro bc a1);have av:=ZZ hr;have bi:=ZZ hr.blockLt;have HV:=ZZ hv;have l:=ZZ (ZmR w h);have E:=ZZ (ZmS n w);have j:=h.rest.now.look hn;obtain⟨⟨c0,c1,c2,-,-,-⟩,-⟩:=h.cells;have bg:=ZoZ aN aH hN hT;obtain⟨U,hU⟩:∃ U:Int,U=(Jb d:Int):=⟨_,rfl⟩;have bj:0<=U∧U<=1000000000000000:=by omega
 rw[<-hU] at c1;obtain⟨ao,cap,rfl,-⟩:=hr;obtain⟨R,hR⟩:∃ R,R=d.room:=⟨_,rfl⟩;rw[<-hR] at c0;unfold Qy;rw[<-hU,<-hR];have HU:=ZZ hU;clear hU bg hR;clear aN aH a1 hv h;by_cases h0:d.power=0
 ·rw[if_pos h0]
  rw[h0] at l;clear j h0
  go_enter func52,ntmps52
  go_wp2_with fail
  refine l.o.mono ?_;rintro e w' ⟨rfl,rfl⟩;go_wp2;go_ret;exact Zgk.same HD.o (by omega) (by omega)
 rw[if_neg h0];have e0:(d.power != 0)=true:=by simpa using h0
 rw[e0] at l;clear h0 e0
 cases hmn:ZdE n with
 | false=>
  rw[if_pos rfl];rw[hmn] at E;clear j hmn
  go_enter func52,ntmps52
  go_wp2_with fail
  refine l.o.mono ?_;rintro e w' ⟨rfl,rfl⟩
  go_wp2_with fail
  refine E.o.mono ?_;rintro e w' ⟨rfl,rfl⟩;go_wp2;go_ret;exact Zgk.same HD.o (by omega) (by omega)
 | true=>
 rw[if_neg (by simp)]
 have aU:=ZZ hmn;rw[hmn] at E;clear hmn;by_cases ar:U+(b.length:Int)>R
 ·rw[if_pos ar]
  clear j
  go_enter func52,ntmps52
  go_wp2_with fail
  refine l.o.mono ?_;rintro e w' ⟨rfl,rfl⟩
  go_wp2_with fail
  refine E.o.mono ?_;rintro e w' ⟨rfl,rfl⟩
  go_upto_region 5 with fail
  go_quiet(fail)
  go_wp2;go_ret;exact Zgk.drew HD.o (by omega) (by omega) _
 rw[if_neg ar];have bb:decide (U+(b.length:Int)>R)=false:=decide_eq_false ar;have bk:U+(b.length:Int)<=R:=by omega
 cases ho:look (Qm d) n with
 | some f=>
  clear j
  dsimp only
  have aa:=ZZ ho;clear ho
  go_enter func52,ntmps52
  go_wp2_with fail
  refine l.o.mono ?_;rintro e w' ⟨rfl,rfl⟩
  go_wp2_with fail
  refine E.o.mono ?_;rintro e w' ⟨rfl,rfl⟩
  go_upto_region 5 with fail
  go_cut[17] (fun v wc=>v=.bool false∧Hid (∃ q,wc=w'.drewN q))
  case first=>
   go_quiet(fail)
   go_wp2
   go_meet
   exact⟨rfl,ZZ ⟨_,rfl⟩⟩
  case rest=>
   obtain⟨W,rfl⟩:∃ W,W=wc:=⟨_,rfl⟩;obtain⟨rfl,hw⟩:=hcut;obtain⟨w,rfl⟩:∃ w0,w0=w':=⟨_,rfl⟩;obtain⟨q,C⟩:=hw.out;have u:Hid (Xd F W p L d U N):=ZZ (by rw[C,HU.o];exact H.out.keep (fun _ _=>rfl) zL)
   have ab:Hid (Ql F w W):=ZZ (by rw[C];exact(Ql.refl _ _).drewN q)
   have aq:Hid (Rd W (.slice ao b.length cap) b):=ZZ (by rw[C];exact av.o.below (Xo (Below.refl _ _) q) zL)
   clear hw C c0 c1 c2 ar bb H av l E HD;obtain⟨⟨-,-,c2,-,-,-⟩,-⟩:=u.o.cells;have j:=u.o.rest.now.look hn;rw[aa.o] at j;have aW:(Instr.lookup 65 (.map (some L.now)) (.int .i64 n) true).run prog W=.ok (.tuple #[.pointer (some ⟨L.ps f,0,none⟩),.bool true]) W:=j;have hf:f<d.files.length:=(t.o.dir.mayOf aa.o).2;have aR:=aa;have g:=u;have aD:=HU;have aS:=t;have aj:=ay;have an:=HI;have y:Hid (∀ k,F k->F k∨w.heap.size<=k):=ZZ (fun k hk=>.inl hk)
   have X:=ab;have aI:=aq;clear j u ab aq
   go_upto_region 11 with fail
   clear aW c2;obtain⟨g0,y0⟩:=(g.o.rest.file f hf).box.cell 0 rfl;have ac:=ZZ (g.o.rest.file f hf).own;have J:=ZZ (g.o.rest.file f hf).box;obtain⟨va,vc,Q⟩:=(g.o.rest.file f hf).own.shape;rw[Q] at g0;have au:=ZZ Q;have aG:Hid ((fl d.files f).b.length+b.length<=70368744177664):=ZZ (by have:=aj.o.bytes _ (ZbH hf);omega)
   clear Q
   go_wp2_with(at_builtin;refine(fun(h:True->_)=>h trivial) ?_)
   intro _;rw[<-au.o];refine ZbO W rfl _ _ rfl (L.vs f) _ rfl ac.o _ b rfl aI.o aG.o ?_;intro v' w2 K I ai;obtain⟨ag,ak⟩:=g.o.grow hf K I ai;have z:=ZZ ag;have V:=ZZ ak
   have ad:(L.vs f).ownBlock≠some (L.ps f):=fun e=>by
    obtain⟨bd,aX⟩:=Dc ac.o e;exact(J.out.ne aX (by decide)) rfl
   obtain⟨g2,y2⟩:=(J.out.keep (I.block _ J.out.lt (fun e=>ad e.symm))).cell 0 rfl
   rw[au.o] at g2;obtain⟨aB,aK,al⟩:=K.shape;rw[al] at z V ⊢;obtain⟨P,O⟩:∃ P,P=w2.setCell ⟨L.ps f,0,none⟩ (.slice aB ((fl d.files f).b++b).length aK):=⟨_,rfl⟩;have S:=ZZ O;obtain⟨M,Y⟩:∃ M,M=((fl d.files f).b++b).length:=⟨_,rfl⟩;rw[<-O] at z V;rw[<-Y];rw[<-Y] at S;clear K I ai ag ak ad al O Y g0 y0
   go_upto_region 12 with fail
   rw[<-S.o];clear S g2 y2;obtain⟨⟨-,k1,-,-,-,-⟩,j1,-⟩:=z.o.cells;obtain⟨A,D⟩:∃ A,A=P.setCell ⟨p,1,none⟩ (.int .i64 (U+(b.length:Int))):=⟨_,rfl⟩;have ap:=ZZ (z.o.setHead 1 (.int .i64 (U+(b.length:Int))) (d':={ d with files:=Yr d.files f b }) (u':=U+(b.length:Int)) ⟨rfl,rfl,rfl⟩ rfl)
   have aO:Hid (Ql F w A):=ZZ (by
    rw[D]
    exact(X.o.trans V.o (fun k hk hf=>(y.o k hf).resolve_right (by omega))).setCell 1 (fun bf=>((y.o p g.o.fh).resolve_right (by omega))) _)
   rw[<-D] at ap;have af:=ZZ D;clear D
   go_upto_region 13 with fail
   rw[<-af.o];clear af k1 j1
   go_wp2_with fail
   refine(Zcc A ap.o an.o.2).mono ?_;rintro e W5 ⟨rfl,aP,aE⟩;go_wp2;go_ret;refine Zgk.appended aS.o aj.o an.o aR.o (by rw[<-aD.o];exact aP) ((aO.o.trans aE (fun k hk hf=>?_))) (fun k hk=>?_) (by omega)
   ·rcases hf with hf | hf
    ·exact(y.o k hf).resolve_right (by omega)
    ·have:=X.o.size;omega
   ·rcases hk with hk | hk
    ·exact y.o k hk
    ·have:=X.o.size;exact .inr (by omega)
 | none=>
  clear j
  dsimp only
  have aa:=ZZ ho;clear ho
  go_enter func52,ntmps52
  go_wp2_with fail
  refine l.o.mono ?_;rintro e w' ⟨rfl,rfl⟩
  go_wp2_with fail
  refine E.o.mono ?_;rintro e w' ⟨rfl,rfl⟩
  go_upto_region 5 with fail
  go_cut[17] (fun v wc=>v=.bool false∧Hid (∃ q,wc=w'.drewN q))
  case first=>
   go_quiet(fail)
   go_wp2
   go_meet
   exact⟨rfl,ZZ ⟨_,rfl⟩⟩
  case rest=>
   obtain⟨W,rfl⟩:∃ W,W=wc:=⟨_,rfl⟩;obtain⟨rfl,hw⟩:=hcut;obtain⟨w,rfl⟩:∃ w0,w0=w':=⟨_,rfl⟩;obtain⟨q,C⟩:=hw.out;have u:Hid (Xd F W p L d U N):=ZZ (by rw[C,HU.o];exact H.out.keep (fun _ _=>rfl) zL)
   have ab:Hid (Ql F w W):=ZZ (by rw[C];exact(Ql.refl _ _).drewN q)
   have aq:Hid (Rd W (.slice ao b.length cap) b):=ZZ (by rw[C];exact av.o.below (Xo (Below.refl _ _) q) zL)
   clear hw C c0 c1 c2 ar bb H av l E HD;obtain⟨⟨-,-,c2,-,-,-⟩,-⟩:=u.o.cells;have j:=u.o.rest.now.look hn;rw[aa.o] at j;have aW:(Instr.lookup 65 (.map (some L.now)) (.int .i64 n) true).run prog W=.ok (.tuple #[.pointer none,.bool false]) W:=j;have aJ:=ZZ (u.o.addFile t.o);have aC:=ZZ (ab.o.alloc (.cells #[.slice none 0 0,.int .i64 0] 117));have aL:Hid (Rd (W.alloc (.cells #[.slice none 0 0,.int .i64 0] 117)) (.slice ao b.length cap) b):=ZZ (aq.o.below ((Below.refl _ _).alloc zL _) zL);have aZ:Hid (w.heap.size<=W.heap.size):=ZZ ab.o.size;have aQ:Hid (W.heap.size<(W.alloc (.cells #[.slice none 0 0,.int .i64 0] 117)).heap.size):=ZZ (by simp)
   obtain⟨a,aV⟩:∃ a,a=W.alloc (.cells #[.slice none 0 0,.int .i64 0] 117):=⟨_,rfl⟩;rw[<-aV] at aJ aC aL aQ;have a5:=ZZ aV;have l:=aa;clear aV j
   go_upto_region 10 with fail
   rw[<-a5.o];clear a5 aW c2
   go_wp2_with fail
   refine(ZwV n W.heap.size a).mono ?_;rintro e m ⟨rfl,am⟩;have aw:Below a.heap.size a m:=by rw[am];exact((Below.refl _ _).alloc zL _).alloc (by simp) _
   have be:m.heap.size=a.heap.size+1+1:=by rw[am];simp
   have a7:Bk 3 m a.heap.size #[.int .i64 n]:=by rw[am];exact(Below.heap_alloc _ _ _ (by simp)).trans (heap_alloc_new a _)
   have aY:Bk 115 m (a.heap.size+1) #[ptr W.heap.size]:=by
    have e1:a.heap.size+1=(a.alloc (.cells #[.int .i64 n] 3)).heap.size:=by simp
    rw[am,e1];exact heap_alloc_new _ _
   have ax:=ZZ (aJ.o.more aw);obtain⟨FB,ae⟩:∃ FB,FB=Gr (Gr F W a) a m:=⟨_,rfl⟩;rw[<-ae] at ax;obtain⟨LB,aA⟩:∃ LB:Lay,LB={ L with ps:=fun i=>if i=d.files.length then W.heap.size else L.ps i,vs:=fun i=>if i=d.files.length then .slice none 0 0 else L.vs i }:=⟨_,rfl⟩
   have aF:LB.ps d.files.length=W.heap.size:=by rw[aA];exact if_pos rfl
   rw[<-aA] at ax;have a0:Hid (ChV FB m LB.ps (.give n d.files.length) (.func (.func 139) #[] #[ptr (a.heap.size+1),ptr a.heap.size])):=ZZ ⟨_,_,rfl,a7,by rw[aF];exact aY,by rw[ae];exact .inr ⟨Nat.le_refl _,by omega⟩,by rw[ae];exact .inr ⟨by omega,by omega⟩⟩
   have az:Hid (∀ k,FB k->F k∨w.heap.size<=k):=ZZ (fun k hk=>by
    rw[ae] at hk;have h1:=aZ.o;have h2:=aQ.o;rcases hk with (hk | hk) | hk
    ·exact .inl hk
    ·exact .inr (by omega)
    ·exact .inr (by omega))
   have aM:Hid (Ql F w m):=ZZ (aC.o.trans (G:=fun _=>False) (Ql.ofBelow aw) (fun _ _ hf=>hf.elim))
   have a8:Hid (Rd m (.slice ao b.length cap) b):=ZZ (aL.o.below aw zL);have a3:=ZZ aF
   have ba:Hid (OkD { d with files:=d.files++[⟨[],0⟩] }):=ZZ ⟨fun k=>(t.o.dirs k).more (by simp),fun c hc=>(t.o.chs c hc).more (by simp),fun x hx=>by
    rcases List.mem_append.1 hx with hx | hx
    ·exact t.o.keep x hx
    ·rw[List.mem_singleton.1 hx];exact Nat.le_refl _⟩
   have a9:=ZZ (ZhP m ax.o a0.o ba.o ⟨aU.o,by simp⟩ hN (by have:=ay.o.names;show d.waits.length<=1000000;omega))
   clear aw be a7 aY ae aA aF am
   go_wp2_with fail
   refine a9.o.mono ?_;rintro e Z ⟨rfl,LC,a2,a6,-,aT⟩;have aR:Hid (look (Qm (Jd d n)) n=some d.files.length):=ZZ (Zru t.o n);have g:Hid (Xd (Gr FB m Z) Z p LC (Jd d n) U (N+1)):=ZZ a2;have aD:Hid (U=(Jb (Jd d n):Int)):=ZZ (by rw[ZoX t.o l.o];exact HU.o)
   have aS:Hid (OkD (Jd d n)):=ZZ (t.o.fresh aU.o);have aj:Hid (Bnd (Jd d n) (N+1) T):=ZZ (ay.o.fresh n);have an:Hid (I64 (Jd d n).room∧I64 (Jd d n).power):=ZZ HI.o
   have y:Hid (∀ k,Gr FB m Z k->F k∨w.heap.size<=k):=ZZ (fun k hk=>by
    rcases hk with hk | hk
    ·exact az.o k hk
    ·have:=aM.o.size;exact .inr (by omega))
   have X:Hid (Ql F w Z):=ZZ (aM.o.trans aT (fun k hk hf=>(az.o k hf).resolve_right (by omega)))
   have aI:Hid (Rd Z (.slice ao b.length cap) b):=ZZ (a8.o.onlyN (B:=w.heap.size) aT az.o HV.o bi.o);have hf:d.files.length<(Jd d n).files.length:=by simp[Jd]
   have a4:LC.ps d.files.length=W.heap.size:=by rw[a6];exact a3.o
   rw[<-a4];clear a2 a6 aT a4 a9 a0 ax az aM a8 a3 ba aJ aC aL aZ aQ l u ab aq t ay HI HU hn aU
   go_upto_region 11 with fail
   obtain⟨g0,y0⟩:=(g.o.rest.file d.files.length hf).box.cell 0 rfl;have ac:=ZZ (g.o.rest.file d.files.length hf).own;have J:=ZZ (g.o.rest.file d.files.length hf).box;obtain⟨va,vc,Q⟩:=(g.o.rest.file d.files.length hf).own.shape;rw[Q] at g0;have au:=ZZ Q;have aG:Hid ((fl (Jd d n).files d.files.length).b.length+b.length<=70368744177664):=ZZ (by have:=aj.o.bytes _ (ZbH hf);omega)
   clear Q
   go_wp2_with(at_builtin;refine(fun(h:True->_)=>h trivial) ?_)
   intro _;rw[<-au.o];refine ZbO Z rfl _ _ rfl (LC.vs d.files.length) _ rfl ac.o _ b rfl aI.o aG.o ?_;intro v' w2 K I ai;obtain⟨ag,ak⟩:=g.o.grow hf K I ai;have z:=ZZ ag;have V:=ZZ ak
   have ad:(LC.vs d.files.length).ownBlock≠some (LC.ps d.files.length):=fun e=>by
    obtain⟨bd,aX⟩:=Dc ac.o e;exact(J.out.ne aX (by decide)) rfl
   obtain⟨g2,y2⟩:=(J.out.keep (I.block _ J.out.lt (fun e=>ad e.symm))).cell 0 rfl
   rw[au.o] at g2;obtain⟨aB,aK,al⟩:=K.shape;rw[al] at z V ⊢;obtain⟨P,O⟩:∃ P,P=w2.setCell ⟨LC.ps d.files.length,0,none⟩ (.slice aB ((fl (Jd d n).files d.files.length).b++b).length aK):=⟨_,rfl⟩;have S:=ZZ O;obtain⟨M,Y⟩:∃ M,M=((fl (Jd d n).files d.files.length).b++b).length:=⟨_,rfl⟩;rw[<-O] at z V;rw[<-Y];rw[<-Y] at S;clear K I ai ag ak ad al O Y g0 y0
   go_upto_region 12 with fail
   rw[<-S.o];clear S g2 y2;obtain⟨⟨-,k1,-,-,-,-⟩,j1,-⟩:=z.o.cells;obtain⟨A,D⟩:∃ A,A=P.setCell ⟨p,1,none⟩ (.int .i64 (U+(b.length:Int))):=⟨_,rfl⟩;have ap:=ZZ (z.o.setHead 1 (.int .i64 (U+(b.length:Int))) (d':={ (Jd d n) with files:=Yr (Jd d n).files d.files.length b }) (u':=U+(b.length:Int)) ⟨rfl,rfl,rfl⟩ rfl)
   have aO:Hid (Ql F w A):=ZZ (by
    rw[D]
    exact(X.o.trans V.o (fun k hk hf=>(y.o k hf).resolve_right (by omega))).setCell 1 (fun bf=>((y.o p g.o.fh).resolve_right (by omega))) _)
   rw[<-D] at ap;have af:=ZZ D;clear D
   go_upto_region 13 with fail
   rw[<-af.o];clear af k1 j1
   go_wp2_with fail
   refine(Zcc A ap.o an.o.2).mono ?_;rintro e W5 ⟨rfl,aP,aE⟩;go_wp2;go_ret;refine Zgk.appended aS.o aj.o an.o aR.o (by rw[<-aD.o];exact aP) ((aO.o.trans aE (fun k hk hf=>?_))) (fun k hk=>?_) (by omega)
   ·rcases hf with hf | hf
    ·exact(y.o k hf).resolve_right (by omega)
    ·have:=X.o.size;omega
   ·rcases hk with hk | hk
    ·exact y.o k hk
    ·have:=X.o.size;exact .inr (by omega)
theorem Own.nil (w:World) (B:Nat):Own w B (.slice none 0 0) []:=World.ownsRow_nil w B 5 1
theorem Zls (w:World) (ty:TypeId) (B:Nat) (v:Value) (b:List UInt8) (c:Own w B v b) (g:Value) (l:List UInt8) (j:Rd w g l)
 (C:b.length+l.length<=70368744177664) (f:B<=w.heap.size):
 ∃ v' w',(Builtin.append_ #[53,53] ty #[v,g]).run prog w=.ok v' w'∧Own w' B v' (b++l)∧Below B w w':=by
 obtain⟨i,e,z,n,A⟩:=info_parts Zlf;obtain⟨ao,cap,rfl,E,D,m,y⟩:=j
 cases ao with
 | none=>
  have t:=m rfl;subst t;have p:l=[]:=List.eq_nil_of_length_eq_zero (by omega)
  subst p;have d:=run_append_owned_none (P:=prog) w B 53 ty 5 i 1 underlying53 e v b.length (Lib.byteCells b) c;exact⟨v,w,d,by rw[List.append_nil];exact c,Below.refl _ _⟩
 | some a=>
  obtain⟨v',w',d,q,u,_⟩:=run_append_own (P:=prog) w B 53 ty 5 i (.int .u8 0) 1 1 underlying53 e z n A rfl (by decide) v b.length (Lib.byteCells b) c a l.length cap (Lib.byteCells l)
   (by rw[Y0,Nat.mul_one]) (Rd.cells y a rfl) (ZaJ l) (by unfold maxLen;omega) (by omega) f
  refine⟨v',w',d,Own.mk' q (by simp) (by simp[Lib.byteCells]),?_⟩
  exact(Below.refl _ _).grown u f (fun k x=>(World.ownsRow.lt c k x).1)
theorem ZmZ {o:Oper} {a:Act} {K:Act->World->Prop} {Q:Exit->Act->World->Prop} (w:World) (s x:Operand)
 (j:o.op=.call { callee:=.builtin .append,args:=#[s,x],argTypes:=#[53,53] })
 (B:Nat) (v:Value) (b:List UInt8) (m:a.eval s=v) (k:Own w B v b) (c:Value) (l:List UInt8) (n:a.eval x=c) (d:Rd w c l)
 (i:b.length+l.length<=70368744177664) (g:B<=w.heap.size)
 (h:∀ v' w',Own w' B v' (b++l)->Below B w w'->K (a.put o.dst v') w'):o.wp prog a w K Q:=by
 obtain⟨v',w',p,e,f⟩:=Zls w o.type B v b k c l d i g;unfold Oper.wp execOp;simp only [j,resolve,invoke,builtin,Sem.run_bind,Sem.run_pure,Result.andThen_ok,map_toArray,map_cons,map_nil,m,n,p];exact h v' w' e f
theorem Xw (w:World) {d:Array Oper} {rest:List Oper} {o:Oper} {a:Act} {Q:Exit->Act->World->Prop} (p:o.guard=none) (s x:Operand)
 (m:o.op=.call { callee:=.builtin .append,args:=#[s,x],argTypes:=#[53,53] })
 (B:Nat) (v:Value) (b:List UInt8) (q:a.eval s=v) (n:Own w B v b) (c:Value) (l:List UInt8) (t:a.eval x=c) (e:Rd w c l)
 (k:b.length+l.length<=70368744177664) (j:B<=w.heap.size)
 (h:∀ v' w',Own w' B v' (b++l)->Below B w w'->wpList prog d Q rest (a.put o.dst v') w'):wpList prog d Q (o::rest) a w:=
 wpList_plain p fun _ f=>ZmZ w s x m B v b q n c l t e k j fun v' w' g i=>f _ _ (h v' w' g i)
end Go.Proofs.YtnahjngbneicaaaGreatDoor
