import Derived.Test.YtnahjngbneicaaaGreatDoorPack1
import Derived.Shelf.SlMaps.Clone
import Derived.Shelf.SlMaps.Copy
import Derived.Shelf.Sort.Plain
import Derived.Shelf.Slices.In.SortNone
import Derived.Deep.RegionLaw
namespace Go.Proofs.YtnahjngbneicaaaGreatDoor
open _root_.Go.Proofs.Tryz
open List (foldl_append length_append map_cons map_nil map_toArray)
set_option maxHeartbeats 2000000
set_option maxRecDepth 100000
open Go.RowKit Go.Shelf
variable {B N N' T T' b base m n p s x:Nat} {v v':Value} {f:Int->Option Nat} {a w w':World} {F F' G:Nat->Prop} {c:Ch} {l:List UInt8} {t:TypeId} {cs:Array Value} {d:Dk} {xs:List Value} {u:Int} {fs:List Fl}
def ZwO:Go.Shelf.Ren:=⟨fun | 5=>145 | 7=>192 | n=>n,fun | 23=>65 | 25=>3 | 3=>115 | 4=>4 | 20=>20 | n=>n,fun | n=>n⟩
theorem layW:Go.Proofs.SlLaysW.n5 prog ZwO:={
 mixed:=by kernel_rfl
 f5:=⟨f145.name,by decide,func145.trans (congrArg some (by kernel_rfl))⟩
 f7:=func192.trans (congrArg some (by kernel_rfl))
 t4:=underlying4
 a4:=Tryz.isAgg4
 z4:=Tryz.sizeOf4
 v4:=Tryz.zeroValue4
 t20:=underlying20
 a20:=Tryz.isAgg20
 z20:=Tryz.sizeOf20
 v20:=Tryz.zeroValue20
 t23:=underlying65
 a23:=Tryz.isAgg65
 z23:=Tryz.sizeOf65
 v23:=Tryz.zeroValue65 }
def ZwP:Go.Shelf.Ren:=⟨fun | 5=>73 | n=>n,fun | 23=>65 | 24=>65 | 26=>3 | 27=>115 | 0=>0 | 4=>4 | n=>n,fun | n=>n⟩
theorem layX:Go.Proofs.SlLaysX.n5 prog ZwP:={
 mixed:=by kernel_rfl
 f5:=⟨f73.name,by decide,func73.trans (congrArg some (by kernel_rfl))⟩
 t0:=underlying0
 a0:=Tryz.isAgg0
 z0:=Tryz.sizeOf0
 v0:=Tryz.zeroValue0
 t4:=underlying4
 a4:=Tryz.isAgg4
 z4:=Tryz.sizeOf4
 v4:=Tryz.zeroValue4
 t23:=underlying65
 a23:=Tryz.isAgg65
 z23:=Tryz.sizeOf65
 v23:=Tryz.zeroValue65
 t24:=underlying65
 a24:=Tryz.isAgg65
 z24:=Tryz.sizeOf65
 v24:=Tryz.zeroValue65
 a26:=Tryz.isAgg3
 z26:=Tryz.sizeOf3
 a27:=Tryz.isAgg115
 z27:=Tryz.sizeOf115 }
def ZwQ:Go.Shelf.Ren:=⟨fun | 189=>67 | 125=>109 | 257=>108 | 128=>155 | 129=>156 | 294=>146 | 295=>147 | 296=>148 | 297=>149 | 298=>150 | 299=>151 | 216=>152 | 300=>153 | 301=>154 | 328=>193 | 329=>194 | 330=>195 | 331=>196 | 332=>197 | 215=>198 | 343=>216 | n=>n,fun | 28=>23 | 3=>3 | 46=>157 | 0=>0 | 51=>145 | 53=>202 | 4=>4 | 183=>194 | 182=>193 | 131=>170 | 5=>5 | 9=>9 | 218=>239 | 222=>208 | 228=>268 | 229=>247 | n=>n,fun | n=>n⟩
theorem ZAj:Go.Proofs.Lays.n189 prog ZwQ:={
 mixed:=by kernel_rfl
 f125:=func109.trans (congrArg some (by kernel_rfl))
 f128:=func155.trans (congrArg some (by kernel_rfl))
 f129:=func156.trans (congrArg some (by kernel_rfl))
 f189:=func67.trans (congrArg some (by kernel_rfl))
 f215:=func198.trans (congrArg some (by kernel_rfl))
 f216:=func152.trans (congrArg some (by kernel_rfl))
 f257:=func108.trans (congrArg some (by kernel_rfl))
 f294:=func146.trans (congrArg some (by kernel_rfl))
 f295:=func147.trans (congrArg some (by kernel_rfl))
 f296:=func148.trans (congrArg some (by kernel_rfl))
 f297:=func149.trans (congrArg some (by kernel_rfl))
 f298:=func150.trans (congrArg some (by kernel_rfl))
 f299:=func151.trans (congrArg some (by kernel_rfl))
 f300:=func153.trans (congrArg some (by kernel_rfl))
 f301:=func154.trans (congrArg some (by kernel_rfl))
 f328:=func193.trans (congrArg some (by kernel_rfl))
 f329:=func194.trans (congrArg some (by kernel_rfl))
 f330:=func195.trans (congrArg some (by kernel_rfl))
 f331:=func196.trans (congrArg some (by kernel_rfl))
 f332:=func197.trans (congrArg some (by kernel_rfl))
 f343:=func216.trans (congrArg some (by kernel_rfl))
 t0:=underlying0
 a0:=Tryz.isAgg0
 z0:=Tryz.sizeOf0
 v0:=Tryz.zeroValue0
 t3:=underlying3
 a3:=Tryz.isAgg3
 z3:=Tryz.sizeOf3
 v3:=Tryz.zeroValue3
 t4:=underlying4
 a4:=Tryz.isAgg4
 z4:=Tryz.sizeOf4
 v4:=Tryz.zeroValue4
 t5:=underlying5
 a5:=Tryz.isAgg5
 z5:=Tryz.sizeOf5
 v5:=Tryz.zeroValue5
 t9:=underlying9
 a9:=Tryz.isAgg9
 z9:=Tryz.sizeOf9
 v9:=Tryz.zeroValue9
 t28:=underlying23
 a28:=Tryz.isAgg23
 z28:=Tryz.sizeOf23
 v28:=Tryz.zeroValue23
 t46:=underlying157
 a46:=Tryz.isAgg157
 z46:=Tryz.sizeOf157
 v46:=Tryz.zeroValue157
 t51:=underlying145
 a51:=Tryz.isAgg145
 z51:=Tryz.sizeOf145
 v51:=Tryz.zeroValue145
 t53:=underlying202
 a53:=Tryz.isAgg202
 z53:=Tryz.sizeOf202
 v53:=Tryz.zeroValue202
 t131:=underlying170
 a131:=Tryz.isAgg170
 z131:=Tryz.sizeOf170
 v131:=Tryz.zeroValue170
 t182:=underlying193
 a182:=Tryz.isAgg193
 z182:=Tryz.sizeOf193
 v182:=Tryz.zeroValue193
 t183:=underlying194
 a183:=Tryz.isAgg194
 z183:=Tryz.sizeOf194
 v183:=Tryz.zeroValue194
 t218:=underlying239
 a218:=Tryz.isAgg239
 z218:=Tryz.sizeOf239
 v218:=Tryz.zeroValue239
 t222:=underlying208
 a222:=Tryz.isAgg208
 z222:=Tryz.sizeOf208
 v222:=Tryz.zeroValue208
 t228:=underlying268
 a228:=Tryz.isAgg268
 z228:=Tryz.sizeOf268
 v228:=Tryz.zeroValue268
 t229:=underlying247
 a229:=Tryz.isAgg247
 z229:=Tryz.sizeOf247
 v229:=Tryz.zeroValue247 }
open Go.RowKit Go.Maps Go.Shelf
open Go.ChangeMaps Go.MapKept
open Go.WideElems (Fit rd rg pl rd_val elemAt)
theorem ZbC:Keyed prog 3:=int_keyed underlying3
theorem Zun (w:World):(zeroValue 115).run prog w=.ok (.pointer none) w:=by kernel_rfl
theorem ZwR {n:Int} (h:I64 n):(Lit.int .i64 n).wf=true:=WalkArith.wf_i64 (by obtain⟨a,b⟩:=h;omega)
def ZaF (v:Value):Option (DataW Unit × List MemPlace):=
 match v with
 | .pointer (some ⟨b,0,none⟩)=>some (.lit (.int .i64 (b:Int)),[])
 | _=>none
theorem ZrQ (b:Nat):ZaF (.pointer (some ⟨b,0,none⟩))=some (.lit (.int .i64 (b:Int)),[]):=rfl
theorem ZdN {z:DataW Unit × List MemPlace} (h:ZaF v=some z):∃ b:Nat,v=.pointer (some ⟨b,0,none⟩)∧z=(.lit (.int .i64 (b:Int)),[]):=by
 unfold ZaF at h;split at h
 ·cases h
  exact⟨_,rfl,rfl⟩
 ·cases h
def ZAk (z:DataW Unit):Option Nat->DataW Unit
 | some x=>.lit (.int .i64 (x:Int))
 | none=>z
def Zuo (D:DataW Unit) (f:Int->Option Nat):Prop:=
 ∀ p,I64 p->∀ z,D.atKey (.int .i64 p) z=ZAk z (f p)
def Yj (w:World) (b n:Nat) (f:Int->Option Nat):Prop:=
 ∃ D:DataW Unit,w.ownsMap prog 3 ZaF b n D∧Zuo D f
def ZqL:Option Nat->Value
 | some x=>.pointer (some ⟨x,0,none⟩)
 | none=>.pointer none
theorem Zuo.has {D:DataW Unit} (h:Zuo D f) {p:Int} (a:I64 p):Maps.has D (.int .i64 p)=(f p).isSome:=by
 cases e:f p with
 | none=>
  refine has_false_of_atKey fun z=>?_
  rw[h p a z,e];rfl
 | some x=>
  refine has_true_of_atKey (y:=.lit (.int .i64 (x:Int))) fun z=>?_
  rw[h p a z,e];rfl
theorem Yj.made (w:World):Yj (w.alloc (.map #[] 0)) w.heap.size 0 (fun _=>none):=
 ⟨.map [],World.ownsMap_made _ _ _ _,fun _ _ _=>rfl⟩
theorem Yj.lt (h:Yj w b n f):b<w.heap.size:=by
 obtain⟨D,a,_⟩:=h;exact a.lt
theorem Yj.mono {n':Nat} (h:Yj w b n f) (a:n<=n'):Yj w b n' f:=by
 obtain⟨D,d,c⟩:=h;exact⟨D,d.mono a,c⟩
theorem Yj.keep (h:Yj w b n f) (a:w'.heap[b]?=w.heap[b]?):Yj w' b n f:=by
 obtain⟨D,⟨g,c,e,r⟩,d⟩:=h;exact⟨D,⟨g,c,a.trans e,r⟩,d⟩
theorem Yj.fun {g:Int->Option Nat} (h:Yj w b n f) (e:∀ p,I64 p->f p=g p):Yj w b n g:=by
 obtain⟨D,d,c⟩:=h;exact⟨D,d,fun p a z=>by rw[c p a z,e p a]⟩
theorem Yj.apart (h:Yj w b n f) {cs:Array Value} {t:TypeId} {z:Nat × Nat} {g:Nat} (a:w.heap[g]?=some (.cells cs t z)):g≠b:=by
 obtain⟨D,⟨i,d,c,_⟩,_⟩:=h;intro e;rw[e,c] at a
 cases a
theorem Zup (h:∀ z:DataW Unit,DataW.lit (.int .i64 (x:Int))=z):False:=by
 have:=h (.map [])
 cases this
theorem ZwS {y:Nat} (h:DataW.lit (H:=Unit) (.int .i64 (x:Int))=.lit (.int .i64 (y:Int))):x=y:=by
 simp only [DataW.lit.injEq,Lit.int.injEq,true_and] at h;omega
theorem Yj.lookC (h:Yj w b n f) {p:Int} (g:I64 p) (c:Bool):(Instr.lookup 65 (.map (some b)) (.int .i64 p) c).run prog w=.ok (if c then .tuple #[ZqL (f p),.bool (f p).isSome] else ZqL (f p)) w:=by
 obtain⟨D,⟨u,q,l,F,_,rfl⟩,i⟩:=h;rcases Maps.fit_look c ZbC underlying65 (Zun w) l F (keyOf_int_mk underlying3 (ZwR g)) with ⟨j,_,d⟩ | ⟨t,y,_,_,j,m,d,_⟩
 ·have e:f p=none:=by
   cases e:f p with
   | none=>rfl
   | some x=>
    refine(Zup (x:=x) fun z=>?_).elim
    rw[<-d z,i p g z,e];rfl
  rw[j,e];rfl
 ·obtain⟨x,k,rfl⟩:=ZdN m
  have e:f p=some x:=by
   cases e:f p with
   | none=>
    refine(Zup (x:=x) fun z=>?_).elim
    have a:=d z;rw[i p g z,e] at a;exact a.symm
   | some x'=>
    have a:=d (.map []);rw[i p g,e] at a;rw[ZwS a]
  rw[j,e,k];rfl
theorem Yj.look (h:Yj w b n f) {p:Int} (a:I64 p):(Instr.lookup 65 (.map (some b)) (.int .i64 p) true).run prog w=.ok (.tuple #[ZqL (f p),.bool (f p).isSome]) w:=h.lookC a true
theorem Yj.look1 (h:Yj w b n f) {p:Int} (a:I64 p):(Instr.lookup 65 (.map (some b)) (.int .i64 p) false).run prog w=.ok (ZqL (f p)) w:=h.lookC a false
theorem Yj.put (h:Yj w b n f) {p:Int} (x:Nat) (l:I64 p) (B:n<=10000000):
 ∃ w',(Instr.mapUpdate 65 (.map (some b)) (.int .i64 p) (.pointer (some ⟨x,0,none⟩))).run prog w=.ok () w'∧Yj w' b (n+1) (fun m=>if m=p then some x else f m)∧w.grownBy w' (some b):=by
 obtain⟨D,a,d⟩:=h;have c:IsMap D:=by obtain⟨y,v,A,F,u,k⟩:=a;exact⟨_,k⟩
 obtain⟨w',g,t,i⟩:=a.update ZbC underlying65 (by unfold maxLen;omega) (keyOf_int_mk underlying3 (ZwR l)) (ZrQ x)
 refine⟨w',g,⟨_,t,fun q j z=>?_⟩,i⟩
 show _=ZAk z (if q=p then some x else f q)
 by_cases e:q=p
 ·rw[if_pos e,e,atKey_put_same c (by first | exact trivial | simp[WideAt.IsKeyLit])]
  rfl
 ·rw[if_neg e,atKey_put_other (by intro h;injection h with _ h;exact e h),d q j z]
theorem Yj.del (h:Yj w b n f) {p:Int} (y:I64 p) (ty:TypeId):
 ∃ w',(Builtin.delete_ #[65,3] ty #[.map (some b),.int .i64 p]).run prog w=.ok (.tuple #[]) w'∧Yj w' b n (fun m=>if m=p then none else f m)∧w.grownBy w' (some b):=by
 obtain⟨D,⟨k,g,a,F,d,rfl⟩,j⟩:=h;obtain⟨x,l,F',t,v,_⟩:=Maps.fit_drop (ty:=ty) ZbC underlying65 a F (keyOf_int_mk underlying3 (ZwR y));refine⟨_,l,⟨_,⟨x,g,heap_setBlock_same a _,F',Nat.le_trans t d,rfl⟩,fun q u z=>?_⟩,⟨rfl,rfl,rfl,by simp[setBlock],fun i _ c=>heap_setBlock_other a _ (fun e=>c (by rw[e]))⟩⟩
 rw[v];show((DataW.map ((k.toList.map (rg prog 3 ZaF)).foldr DataW.insert [])).del (.int .i64 p)).atKey (.int .i64 q) z=_;show _=ZAk z (if q=p then none else f q)
 by_cases e:q=p
 ·rw[if_pos e,e,atKey_del_same]
  rfl
 ·rw[if_neg e,atKey_del_other (by intro h;injection h with _ h;exact e h),j q u z]
theorem Yj.clear (h:Yj w b n f) (ty:TypeId):
 ∃ w',(Builtin.clear_ #[65] ty #[.map (some b)]).run prog w=.ok (.tuple #[]) w'∧Yj w' b 0 (fun _=>none)∧w.grownBy w' (some b):=by
 obtain⟨D,⟨k,c,a,F,g,rfl⟩,j⟩:=h;refine⟨setBlock w b (.map #[] c),?_,⟨.map [],⟨#[],c,heap_setBlock_same a _,⟨by simp,stamped_empty c,by simp⟩,Nat.le_refl _,rfl⟩,fun _ _ _=>rfl⟩,⟨rfl,rfl,rfl,by simp[setBlock],fun i _ d=>heap_setBlock_other a _ (fun e=>d (by rw[e]))⟩⟩
 simp[Builtin.clear_,run_underlying underlying65,MapKept.run_getObj_map a,MapKept.run_setObj_map _ a,Result.andThen,setBlock]
theorem ZmP {D:DataW Unit} (c:Maps.CanonK (Maps.KeysOf prog 3) D):Lib.mergeD (.map []) D=D:=by
 refine(merged_eq ZbC.one (left:=fun _=>false) ⟨fun k=>?_,fun k z=>?_⟩ (fun _=>rfl) (c.canon ZbC.one) ⟨[],rfl,List.Pairwise.nil,fun p a=>by cases a⟩ c).symm
 ·show Maps.has D k=(false || (Maps.has D k && true))
  cases Maps.has D k <;> rfl
 ·cases e:Maps.has D k with
  | true=>rfl
  | false=>
   rw[atKey_of_not_has e];rfl
theorem ZrR (h:Yj w b n f):
 Calls prog 145 #[.map (some b)] w fun e w'=>e=.returned (.map (some w.heap.size))∧Yj w' w.heap.size n f∧w'.heap.size=w.heap.size+1∧Below w.heap.size w w':=by
 obtain⟨D,⟨c,a,g,r⟩,d⟩:=h;refine(AnyW.maps_Clone layW b c a w g).mono fun e w' ⟨he,hw⟩=>?_
 subst hw;exact⟨he,⟨D,⟨c,a,(MapKept.heap_alloc w _).1,r⟩,d⟩,by simp,(Below.refl _ w).alloc zL _⟩
theorem ZwT {a bs:Nat} (l:Yj w a 0 (fun _=>none)) (b:Yj w bs n f) (k:a≠bs) (v:n<=10000000):
 Calls prog 73 #[.map (some a),.map (some bs)] w fun e w'=>e=.returned (.tuple #[])∧Yj w' a n f∧w.grownBy w' (some a):=by
 obtain⟨q,h,u⟩:=l;obtain⟨c,d,j⟩:=b
 have t:Maps.size c<=n:=by
  obtain⟨g,i,m,F,b,rfl⟩:=d;rw[size_eq,length_sorted];simpa using b
 have p:q=.map []:=by
  obtain⟨g,i,m,F,b,rfl⟩:=h;have:g=#[]:=by simpa using b
  subst this;rfl
 subst p;refine(AnyX.maps_Copy layX ZbC ZaF a bs 0 n (.map []) c w h d k (by unfold maxLen;omega)).mono fun e w' ⟨he,ho,_,hg⟩=>?_
 rw[ZmP (d.canonK ZbC)] at ho;exact⟨he,⟨c,ho.mono (by omega),j⟩,hg⟩
open Go.RowKit
structure Ql (F:Nat->Prop) (w w':World):Prop where
 os:w'.os=w.os
 tape:w'.tape=w.tape
 output:w'.output=w.output
 size:w.heap.size<=w'.heap.size
 block:∀ k,k<w.heap.size->¬ F k->w'.heap[k]?=w.heap[k]?
theorem Ql.refl (F:Nat->Prop) (w:World):Ql F w w:=⟨rfl,rfl,rfl,Nat.le_refl _,fun _ _ _=>rfl⟩
theorem Ql.trans {b c:World} (h:Ql F a b) (k:Ql G b c) (g:∀ x,x<a.heap.size->G x->F x):Ql F a c:=
 ⟨k.os.trans h.os,k.tape.trans h.tape,k.output.trans h.output,Nat.le_trans h.size k.size,fun i d e=>(k.block i (Nat.lt_of_lt_of_le d h.size) (fun f=>e (g i d f))).trans (h.block i d e)⟩
theorem Ql.mono (h:Ql F w w') (d:∀ k,F k->G k):Ql G w w':=⟨h.os,h.tape,h.output,h.size,fun k b a=>h.block k b fun c=>a (d k c)⟩
theorem Ql.ofGrown {row:Option Nat} (h:w.grownBy w' row) (c:∀ k,row=some k->k<w.heap.size->F k):Ql F w w':=
 ⟨h.os,h.tape,h.output,h.size,fun k a b=>h.block k a fun e=>b (c k e.symm a)⟩
theorem Ql.ofBelow (h:Below w.heap.size w w'):Ql F w w':=⟨h.os,h.tape,h.output,h.size,fun k a _=>h.block k a⟩
theorem Ql.below (h:Ql F w w') (d:B<=w.heap.size) (c:∀ k,F k->B<=k):Below B w w':=
 ⟨h.os,h.tape,h.output,h.size,fun k b=>h.block k (Nat.lt_of_lt_of_le b d) fun a=>by have:=c k a;omega⟩
theorem Ql.setCell (h:Ql F a w) {b:Nat} (i:Nat) (f:b<a.heap.size->F b) (x:Value):Ql F a (w.setCell ⟨b,i,none⟩ x):=by
 have c:=(Below.refl 0 w).setCell (p:=⟨b,i,none⟩) (Nat.zero_le _) x;refine⟨c.os.trans h.os,c.tape.trans h.tape,c.output.trans h.output,Nat.le_trans h.size c.size,fun k e d=>?_⟩
 rw[Below.heap_setCell _ _ _ _ (show k≠b by rintro rfl;exact d (f e))]
 exact h.block k e d
theorem Ql.alloc (h:Ql F a w) (o:Obj):Ql F a (w.alloc o):=
 h.trans (G:=fun _=>False) (Ql.ofBelow ((Below.refl _ _).alloc zL o)) (fun _ _ b=>b.elim)
theorem Ql.drewN (h:Ql F a w) (n:Nat):Ql F a (w.drewN n):=⟨h.os,h.tape,h.output,h.size,h.block⟩
theorem RdI.only {l:List Int} (h:RdI w v l) {F:Nat->Prop} (u:Ql F w w') (n:∀ k,v.ownBlock=some k->¬ F k):RdI w' v l:=by
 obtain⟨ao,cap,rfl,g,i,q,f,c⟩:=h;refine⟨ao,cap,rfl,g,i,q,f,?_⟩;rcases c with c | ⟨b,d,rfl,m⟩
 ·exact .inl c
 ·refine .inr ⟨b,d,rfl,fun j t=>?_⟩
  have e:=m j t;have p:b<w.heap.size:=World.block_lt_of_cell? w ⟨b,d+j,none⟩ e;rw[World.cell?_of_block (a:=⟨b,d+j,none⟩) (u.block b p (n b rfl))];exact e
theorem RdI.onlyE {l:List Int} (h:RdI w v l) {F:Nat->Prop} (e:Ql F w w') (hv:l=[]∨∀ k,v.ownBlock=some k->¬ F k):RdI w' v l:=by
 rcases hv with rfl | hv
 ·obtain⟨ao,cap,rfl,a,b,c,d,f⟩:=h
  exact⟨ao,cap,rfl,a,b,c,d,.inl rfl⟩
 ·exact h.only e hv
def Bk (t:TypeId) (w:World) (b:Nat) (cs:Array Value):Prop:=w.heap[b]?=some (.cells cs t (0,0))
theorem Bk.lt (h:Bk t w b cs):b<w.heap.size:=(Array.getElem?_eq_some_iff.1 h).1
theorem Bk.keep (h:Bk t w b cs) (a:w'.heap[b]?=w.heap[b]?):Bk t w' b cs:=a.trans h
theorem Bk.cell (h:Bk t w b cs) (j:Nat) {x:Value} (a:cs[j]?=some x):w.cell? ⟨b,j,none⟩=some x∧w.frozen? ⟨b,j,none⟩=false:=
 ⟨(cell_of_row w b j _ _ _ h).trans a,frozen_of_row w b j _ _ h⟩
theorem Bk.set (h:Bk t w b cs) (j:Nat) (x:Value):Bk t (w.setCell ⟨b,j,none⟩ x) b (cs.setIfInBounds j x):=by
 have:=heap_setCell_same w b j _ _ x h;unfold Bk;simpa using this
theorem Bk.other (h:Bk t w b cs) (c j:Nat) (x:Value) (a:b≠c):Bk t (w.setCell ⟨c,j,none⟩ x) b cs:=
 (Below.heap_setCell _ _ _ _ a).trans h
theorem Bk.ne {c:TypeId} {b':Nat} {d:Array Value} (h:Bk t w b cs) (a:Bk c w b' d) (e:t≠c):b≠b':=by
 rintro rfl;unfold Bk at h a;rw[h] at a;simp only [Option.some.injEq,Obj.cells.injEq] at a;exact e a.2.1
theorem Dc (h:w.ownsRow base t 1 v n xs) {g:Nat} (a:v.ownBlock=some g):∃ cs,Bk t w g cs:=by
 rcases h.2 with ⟨b,_⟩ | ⟨g',cap,cur,b,_,c,_⟩
 ·rw[b] at a;cases a
 ·rw[b] at a
  obtain rfl:g'=g:=by simpa[Value.ownBlock] using a
  exact⟨cur,c⟩
theorem Qh (h:w.ownsRow base t s v n xs) (c:∀ g,v.ownBlock=some g->w'.heap[g]?=w.heap[g]?):w'.ownsRow base t s v n xs:=by
 obtain⟨f,a⟩:=h;refine⟨f,?_⟩;rcases a with a | ⟨g,cap,cur,b,d,e,r⟩
 ·exact .inl a
 ·exact .inr ⟨g,cap,cur,b,d,(c g (by rw[b];rfl)).trans e,r⟩
abbrev ptr (b:Nat):Value:=.pointer (some ⟨b,0,none⟩)
theorem Rd.only (h:Rd w v l) {F:Nat->Prop} (t:Ql F w w') (m:∀ k,v.ownBlock=some k->¬ F k):Rd w' v l:=by
 obtain⟨ao,cap,rfl,f,g,p,c⟩:=h;refine⟨ao,cap,rfl,f,g,p,?_⟩;rcases c with c | ⟨b,d,rfl,i⟩
 ·exact .inl c
 ·refine .inr ⟨b,d,rfl,fun j q=>?_⟩
  have e:=i j q;have n:b<w.heap.size:=World.block_lt_of_cell? w ⟨b,d+j,none⟩ e;rw[World.cell?_of_block (a:=⟨b,d+j,none⟩) (t.block b n (m b rfl))];exact e
theorem Bk.neMap (h:Bk t w b cs) (a:Yj w m n f):b≠m:=a.apart h
theorem Own.shape (h:Own w B v l):∃ ao cap,v=.slice ao l.length cap:=by
 obtain⟨ao,cap,a,_⟩:=h.rd;exact⟨ao,cap,a⟩
theorem Own.front {ao:Option Addr} {cap:Nat} (h:Own w B (.slice ao n cap) l) (k:Nat) (d:k<=l.length):Own w B (.slice ao k cap) (l.take k):=by
 obtain⟨v,i⟩:=h;have b:(l.take k).length=k:=by simp;omega
 refine⟨by rw[Y0,Nat.mul_one],?_⟩
 rcases i with ⟨a,u⟩ | ⟨g,x,cur,a,j,m,t,f,p,c⟩
 ·left
  simp only [Value.slice.injEq] at a;obtain⟨rfl,rfl,rfl⟩:=a;have:k=0:=by omega
  subst this;exact⟨rfl,by rw[b]⟩
 ·right
  simp only [Value.slice.injEq] at a;obtain⟨rfl,q,rfl⟩:=a;refine⟨g,cap,cur,by rw[b],j,m,by rw[b];omega,f,p,?_⟩
  rw[Nat.mul_one] at c ⊢;rw[b];have e:Lib.byteCells (l.take k)=(Lib.byteCells l).take k:=by simp[Lib.byteCells]
  rw[e,<-c,List.take_take,Nat.min_eq_left d]
structure ZmQ (w:World) (b:Nat) (v:Value) (x:Fl):Prop where
 box:Bk 117 w b #[v,.int .i64 (x.k:Int)]
 own:Own w 0 v x.b
theorem ZmQ.keep {x:Fl} (h:ZmQ w b v x) (c:w'.heap[b]?=w.heap[b]?) (a:∀ g,v.ownBlock=some g->w'.heap[g]?=w.heap[g]?):ZmQ w' b v x:=
 ⟨h.box.keep c,Qh h.own a⟩
def ChV (F:Nat->Prop) (w:World) (ps:Nat->Nat):Ch->Value->Prop
 | .give n f,v=>∃ b1 b2,v=.func (.func 139) #[] #[ptr b2,ptr b1]∧Bk 3 w b1 #[.int .i64 n]∧Bk 115 w b2 #[ptr (ps f)]∧F b1∧F b2
 | .move n tz f,v=>∃ b1 b2 b3,v=.func (.func 143) #[] #[ptr b3,ptr b2,ptr b1]∧Bk 3 w b1 #[.int .i64 n]∧Bk 3 w b2 #[.int .i64 tz]∧Bk 115 w b3 #[ptr (ps f)]∧F b1∧F b2∧F b3
 | .take n,v=>∃ b1,v=.func (.func 157) #[] #[ptr b1]∧Bk 3 w b1 #[.int .i64 n]∧F b1
def chOf:Ch->Option Nat
 | .give _ f=>some f
 | .move _ _ f=>some f
 | .take _=>none
theorem ChV.keep {ps q:Nat->Nat} (h:ChV F w ps c v) (e:∀ k,F k->F' k) (t:∀ f,chOf c=some f->q f=ps f)
 (d:∀ k cs,F k->(Bk 3 w k cs∨Bk 115 w k cs)->w'.heap[k]?=w.heap[k]?):ChV F' w' q c v:=by
 cases c with
 | give n f=>
  obtain⟨j,l,rfl,b,i,a,g⟩:=h;exact⟨j,l,rfl,b.keep (d _ _ a (.inl b)),by rw[t f rfl];exact i.keep (d _ _ g (.inr i)),e _ a,e _ g⟩
 | move n tz f=>
  obtain⟨j,l,u,rfl,b,i,m,a,g,p⟩:=h;exact⟨j,l,u,rfl,b.keep (d _ _ a (.inl b)),i.keep (d _ _ g (.inl i)),by rw[t f rfl];exact m.keep (d _ _ p (.inr m)),e _ a,e _ g,e _ p⟩
 | take n=>
  obtain⟨j,rfl,b,a⟩:=h;exact⟨j,rfl,b.keep (d _ _ a (.inl b)),e _ a⟩
structure Lay where
 now:Nat
 kept:Nat
 wv:Value
 cs:List Value
 ps:Nat->Nat
 vs:Nat->Value
structure ZoW (F:Nat->Prop) (w:World) (L:Lay) (d:Dk) (N:Nat):Prop where
 now:Yj w L.now N (fun n=>(look (Qm d) n).map L.ps)
 kept:Yj w L.kept N (fun n=>(look d.kept n).map L.ps)
 row:w.ownsRow 0 113 1 L.wv L.cs.length L.cs
 many:L.cs.length=d.waits.length
 wait:∀ (i:Nat) c v,d.waits[i]?=some c->L.cs[i]?=some v->ChV F w L.ps c v
 file:∀ i,i<d.files.length->ZmQ w (L.ps i) (L.vs i) (fl d.files i)
 psn:∀ i j,i<d.files.length->j<d.files.length->i≠j->L.ps i≠L.ps j
 vsn:∀ i j,i<d.files.length->j<d.files.length->i≠j->∀ g,(L.vs i).ownBlock=some g->(L.vs j).ownBlock≠some g
 nk:L.now≠L.kept
 fn:F L.now
 fk:F L.kept
 fw:∀ g,L.wv.ownBlock=some g->F g
 fp:∀ i,i<d.files.length->F (L.ps i)
 fv:∀ i,i<d.files.length->∀ g,(L.vs i).ownBlock=some g->F g
def ZfD (L:Lay) (d:Dk) (u:Int):Array Value:=#[.int .i64 d.room,.int .i64 u,.map (some L.now),.map (some L.kept),L.wv,.int .i64 d.power]
structure Xd (F:Nat->Prop) (w:World) (p:Nat) (L:Lay) (d:Dk) (u:Int) (N:Nat):Prop where
 head:Bk 69 w p (ZfD L d u)
 rest:ZoW F w L d N
 fh:F p
 lt:∀ k,F k->k<w.heap.size
theorem ZoW.keep {L:Lay} (h:ZoW F w L d N) (b:Bk 69 w p cs) (a:∀ k,F k->k≠p->w'.heap[k]?=w.heap[k]?):ZoW F w' L d N where
 now:=h.now.keep (a _ h.fn (b.neMap h.now).symm)
 kept:=h.kept.keep (a _ h.fk (b.neMap h.kept).symm)
 row:=Qh h.row fun g f=>a g (h.fw g f) (by obtain⟨l,hb⟩:=Dc h.row f;exact hb.ne b (by decide))
 many:=h.many
 wait:=fun i c v n m=>(h.wait i c v n m).keep (fun _ j=>j) (fun _ _=>rfl) (fun k l j hb=>a k j (by rcases hb with hb | hb <;> exact hb.ne b (by decide)))
 file:=fun i e=>(h.file i e).keep (a _ (h.fp i e) ((h.file i e).box.ne b (by decide))) fun g f=>a g (h.fv i e g f) (by obtain⟨l,hb⟩:=Dc (h.file i e).own f;exact hb.ne b (by decide))
 psn:=h.psn
 vsn:=h.vsn
 nk:=h.nk
 fn:=h.fn
 fk:=h.fk
 fw:=h.fw
 fp:=h.fp
 fv:=h.fv
theorem ZoW.mono {L:Lay} (h:ZoW F w L d N) (a:N<=N'):ZoW F w L d N':=
 ⟨h.now.mono a,h.kept.mono a,h.row,h.many,h.wait,h.file,h.psn,h.vsn,h.nk,h.fn,h.fk,h.fw,h.fp,h.fv⟩
theorem Xd.setHead {L:Lay} (h:Xd F w p L d u N) (j:Nat) (x:Value) {d':Dk} {u':Int} (e:d'.files=d.files∧d'.kept=d.kept∧d'.waits=d.waits)
 (f:(ZfD L d u).setIfInBounds j x=ZfD L d' u'):Xd F (w.setCell ⟨p,j,none⟩ x) p L d' u' N:=by
 refine⟨by rw[<-f];exact h.head.set j x,?_,h.fh,fun k b=>?_⟩
 ·have a:=h.rest.keep h.head (w':=w.setCell ⟨p,j,none⟩ x) (fun k _ c=>Below.heap_setCell _ _ _ _ c)
  obtain⟨l,fs,kp,i,q⟩:=d;obtain⟨t,y,n,v,g⟩:=d';obtain⟨rfl,rfl,rfl⟩:=e;exact⟨a.now,a.kept,a.row,a.many,a.wait,a.file,a.psn,a.vsn,a.nk,a.fn,a.fk,a.fw,a.fp,a.fv⟩
 ·have:=h.lt k b
  have m:=((Below.refl 0 w).setCell (p:=⟨p,j,none⟩) (Nat.zero_le _) x).size;omega
theorem Xd.keep {L:Lay} (h:Xd F w p L d u N) (b:∀ k,F k->w'.heap[k]?=w.heap[k]?) (c:w.heap.size<=w'.heap.size):Xd F w' p L d u N:=
 ⟨h.head.keep (b p h.fh),h.rest.keep h.head (fun k a _=>b k a),h.fh,fun k a=>by have:=h.lt k a;omega⟩
theorem Xd.only {L:Lay} (h:Xd F w p L d u N) (b:Ql G w w') (c:∀ k,F k->¬ G k):Xd F w' p L d u N:=
 h.keep (fun k a=>b.block k (h.lt k a) (c k a)) b.size
theorem Xd.cells {L:Lay} (h:Xd F w p L d u N):
 (w.cell? ⟨p,0,none⟩=some (.int .i64 d.room)∧w.cell? ⟨p,1,none⟩=some (.int .i64 u)∧w.cell? ⟨p,2,none⟩=some (.map (some L.now))∧w.cell? ⟨p,3,none⟩=some (.map (some L.kept))∧w.cell? ⟨p,4,none⟩=some L.wv∧w.cell? ⟨p,5,none⟩=some (.int .i64 d.power))∧
 w.frozen? ⟨p,1,none⟩=false∧w.frozen? ⟨p,3,none⟩=false∧w.frozen? ⟨p,4,none⟩=false∧w.frozen? ⟨p,5,none⟩=false:=
 ⟨⟨(h.head.cell 0 rfl).1,(h.head.cell 1 rfl).1,(h.head.cell 2 rfl).1,(h.head.cell 3 rfl).1,(h.head.cell 4 rfl).1,(h.head.cell 5 rfl).1⟩,(h.head.cell 1 rfl).2,(h.head.cell 3 rfl).2,(h.head.cell 4 rfl).2,(h.head.cell 5 rfl).2⟩
theorem Xd.setFile {L:Lay} {f:Nat} (h:Xd F w p L d u N) (m:f<d.files.length) {v':Value} {x':Fl}
 (G:∀ k,F k->k≠L.ps f->(L.vs f).ownBlock≠some k->w'.heap[k]?=w.heap[k]?)
 (U:ZmQ w' (L.ps f) v' x') (hr:v'.ownBlock=(L.vs f).ownBlock∨∀ g,v'.ownBlock=some g->w.heap.size<=g)
 (y:∀ k,F k->F' k) (S:∀ g,v'.ownBlock=some g->F' g) (V:∀ k,F' k->k<w'.heap.size):
 Xd F' w' p { L with vs:=fun i=>if i=f then v' else L.vs i } { d with files:=d.files.set f x' } u N:=by
 have a:=h.rest;have M:=(a.file f m).box
 have K:∀ {t:TypeId} {k:Nat} {cs:Array Value},Bk t w k cs->F k->t≠117->t≠5->w'.heap[k]?=w.heap[k]?:=fun {t k cs} hb D I H=>G k D (hb.ne M I) fun b=>by
  obtain⟨B,q⟩:=Dc (a.file f m).own b;exact(hb.ne q H) rfl
 have O:∀ {k n:Nat} {g:Int->Option Nat},Yj w k n g->F k->w'.heap[k]?=w.heap[k]?:=fun {k n g} hm D=>G k D (M.neMap hm).symm fun b=>by
  obtain⟨B,q⟩:=Dc (a.file f m).own b;exact(q.neMap hm) rfl
 have C:(d.files.set f x').length=d.files.length:=List.length_set ..;refine⟨h.head.keep (K h.head h.fh (by decide) (by decide)),?_,y _ h.fh,V⟩
 refine⟨a.now.keep (O a.now a.fn),a.kept.keep (O a.kept a.fk),Qh a.row fun g b=>?_,a.many,fun i c v I H=>?_,fun i l=>?_,fun i j l A=>?_,fun i j l A J=>?_,a.nk,y _ a.fn,y _ a.fk,fun g b=>y g (a.fw g b),fun i l=>y _ (a.fp i (by rw[<-C];exact l)),fun i l=>?_⟩
 ·obtain⟨B,hb⟩:=Dc a.row b
  exact K hb (a.fw g b) (by decide) (by decide)
 ·exact(a.wait i c v I H).keep y (fun _ _=>rfl) fun k B D hb=>by rcases hb with hb | hb <;> exact K hb D (by decide) (by decide)
 ·have x:i<d.files.length:=by rw[<-C];exact l
  show ZmQ w' (L.ps i) (if i=f then v' else L.vs i) (fl (d.files.set f x') i)
  by_cases e:i=f
  ·rw[if_pos e,e,Zao m]
   exact U
  ·rw[if_neg e,Jf (fun R=>e R.symm)]
   refine(a.file i x).keep (G _ (a.fp i x) (a.psn i f x m e) fun b=>?_) fun g b=>G g (a.fv i x g b) ?_ (fun z=>a.vsn i f x m e g b z)
   ·obtain⟨B,q⟩:=Dc (a.file f m).own b
    exact((a.file i x).box.ne q (by decide)) rfl
   ·obtain⟨B,q⟩:=Dc (a.file i x).own b
    exact q.ne M (by decide)
 ·rw[C] at l A
  exact a.psn i j l A
 ·rw[C] at l A
  have P:∀ i,i<d.files.length->i≠f->∀ g,(L.vs i).ownBlock=some g->v'.ownBlock≠some g:=fun i l T g b z=>by
   rcases hr with hr | hr
   ·exact a.vsn i f l m T g b (by rw[<-hr];exact z)
   ·have I:=hr g z
    have H:=h.lt g (a.fv i l g b);omega
  show ∀ g,(if i=f then v' else L.vs i).ownBlock=some g->(if j=f then v' else L.vs j).ownBlock≠some g
  intro g;by_cases E:i=f
  ·rw[if_pos E,if_neg (by rw[<-E];exact Ne.symm J)]
   exact fun b z=>P j A (by rw[<-E];exact Ne.symm J) g z b
  ·rw[if_neg E]
   by_cases Q:j=f
   ·rw[if_pos Q]
    exact P i l E g
   ·rw[if_neg Q]
    exact a.vsn i j l A J g
 ·rw[C] at l
  show ∀ g,(if i=f then v' else L.vs i).ownBlock=some g->F' g
  intro g;by_cases e:i=f
  ·rw[if_pos e]
   exact S g
  ·rw[if_neg e]
   exact fun b=>y g (a.fv i l g b)
structure Bnd (d:Dk) (N T:Nat):Prop where
 files:d.files.length<=N
 names:d.kept.length+d.waits.length<=N
 bytes:∀ x ∈ d.files,x.b.length<=T
def Dsk (F:Nat->Prop) (w:World) (p:Nat) (d:Dk) (N T:Nat):Prop:=
 ∃ L,Xd F w p L d (Jb d) N∧OkD d∧Bnd d N T∧I64 d.room∧I64 d.power
theorem Dsk.only (h:Dsk F w p d N T) (b:Ql G w w') (e:∀ k,F k->¬ G k):Dsk F w' p d N T:=by
 obtain⟨L,c,a⟩:=h;exact⟨L,c.only b e,a⟩
theorem Dsk.below (h:Dsk F w p d N T) (b:Below w.heap.size w w'):Dsk F w' p d N T:=
 h.only (G:=fun _=>False) (Ql.ofBelow b) (fun _ _ a=>a)
theorem ZmR {L:Lay} (w:World) (h:Xd F w p L d u N):
 Calls prog 33 #[ptr p] w fun e w'=>e=.returned (.bool (d.power != 0))∧w'=w:=by
 obtain⟨⟨-,-,-,-,-,a⟩,-⟩:=h.cells
 go_enter func33,ntmps33
 go_wp2;go_ret;exact⟨rfl,rfl⟩
theorem ZmS (n:Int) (w:World):
 Calls prog 94 #[.int .i64 n] w fun e w'=>e=.returned (.bool (ZdE n))∧w'=w:=by
 by_cases a:0<=n
 ·by_cases b:n<1048576
  ·have e:ZdE n=true:=by simp[ZdE,a,b]
   rw[e]
   go_enter func94,ntmps94
   go_wp2;go_ret;exact⟨Zeg (by simp),rfl⟩
  ·have e:ZdE n=false:=by simp[ZdE,a,b]
   rw[e]
   go_enter func94,ntmps94
   go_wp2;go_ret;exact⟨Zeg (by simp),rfl⟩
 ·have e:ZdE n=false:=by simp[ZdE,a]
  rw[e]
  go_enter func94,ntmps94
  go_wp2;go_ret;exact⟨rfl,rfl⟩
theorem ZmT (a:Int) (n:Nat) (d:n<=1000000000000000) (w:World):
 Calls prog 72 #[.int .i64 a,.int .i64 (n:Int)] w fun e w'=>e=.returned (.int .i64 (Z4 a n:Int))∧w'=w:=by
 obtain⟨M,b⟩:∃ M:Int,M=(n:Int):=⟨_,rfl⟩;by_cases h:a<0
 ·have e:Z4 a n=0:=by simp[Z4,h]
  rw[e,<-b];clear b
  go_enter func72,ntmps72
  go_wp2;go_ret;exact⟨rfl,rfl⟩
 ·have c:=Int.emod_nonneg a (show M+1≠0 by omega)
  have e:((Z4 a n:Nat):Int)=a % (M+1):=by
   rw[b] at c ⊢;rw[Z4,if_neg h];omega
  rw[e,<-b];have f:0<=M∧M<=1000000000000000:=by omega
  clear e c b d n
  go_enter func72,ntmps72
  go_wp2;go_ret;exact⟨rfl,rfl⟩
theorem ZmU (q n:Int) (w:World):
 Calls prog 71 #[.int .i64 q,.int .i64 n] w fun e w'=>e=.returned (.int .i64 (if q=0 then 0 else max n 0))∧w'=w:=by
 by_cases h:q=0
 ·rw[if_pos h]
  subst h
  go_enter func71,ntmps71
  go_wp2;go_ret;exact⟨rfl,rfl⟩
 ·rw[if_neg h]
  have e:(q == 0)=false:=by simpa using h
  clear h
  go_enter func71,ntmps71
  go_wp2;go_ret;exact⟨rfl,rfl⟩
theorem Zcc {L:Lay} (w:World) (h:Xd F w p L d u N) (k:I64 d.power):
 Calls prog 97 #[ptr p] w fun e w'=>e=.returned (.int .i64 0)∧Xd F w' p L { d with power:=Y5 d.power } u N∧Ql F w w':=by
 have H:=ZZ h;obtain⟨⟨-,-,-,-,-,g⟩,-,-,-,l⟩:=h.cells;obtain⟨j,i⟩:=k;obtain⟨q,a⟩:∃ q,q=d.power:=⟨_,rfl⟩;rw[<-a] at g j i ⊢;by_cases f:q>0
 ·have b:Hid (Y5 q=q-1):=if_pos f
  have c:=ZZ a;clear h a
  go_enter func97,ntmps97
  go_wp2;go_ret;refine⟨rfl,?_,(Ql.refl _ _).setCell 5 (fun _=>H.out.fh) _⟩
  refine H.out.setHead 5 _ ⟨rfl,rfl,rfl⟩ ?_;rw[b.o];rfl
 ·have b:Hid (Y5 q=q):=if_neg f
  have c:=ZZ a;clear h a
  go_enter func97,ntmps97
  go_wp2;go_ret;rw[b.o,c.o];exact⟨rfl,H.out,Ql.refl _ _⟩
theorem ZwU (n:Int) (i:I64 n) (w:World) (h:Dsk F w p d N T):
 Calls prog 30 #[ptr p,.int .i64 n] w fun e w'=>e=.returned (.tuple #[])∧Dsk F w' p (Zqz d n) N T∧Ql F w w':=by
 obtain⟨L,h,j,f,l,k⟩:=h;have H:=ZZ h;have a:=ZZ (And.intro j (And.intro f (And.intro l k)));have v:=ZZ i;obtain⟨⟨-,-,-,-,-,m⟩,-,-,-,y⟩:=h.cells;obtain⟨q,c⟩:∃ q,q=d.power:=⟨_,rfl⟩;have t:=ZZ c;rw[<-c] at m;clear h j f l k c i;have g:=ZZ (ZmU q n w);obtain⟨r,b⟩:∃ r,r=(if q=0 then(0:Int) else max n 0):=⟨_,rfl⟩
 rw[<-b] at g;have u:=ZZ b;clear b
 go_enter func30,ntmps30
 go_wp2_with fail
 refine g.o.mono ?_;rintro e w' ⟨rfl,rfl⟩;go_wp2;go_end0;refine⟨rfl,⟨L,?_,OkD.cut a.o.1 n,⟨a.o.2.1.files,a.o.2.1.names,a.o.2.1.bytes⟩,a.o.2.2.1,?_⟩,(Ql.refl _ _).setCell 5 (fun _=>H.out.fh) _⟩
 ·refine H.out.setHead 5 _ ⟨rfl,rfl,rfl⟩ ?_
  rw[u.o,t.o];rfl
 ·obtain⟨z,x⟩:=v.o
  unfold Zqz I64
  dsimp only
  split <;> omega
theorem ZyE (w:World) (room:Int) (E:I64 room):Dsk (fun k=>w.heap.size<=k∧k<(((w.alloc (.map #[] 0)).alloc (.map #[] 0)).alloc (.cells #[.int .i64 room,.int .i64 0,.map (some w.heap.size),.map (some (w.heap.size+1)),.slice none 0 0,.int .i64 (-1)] 69)).heap.size)
 (((w.alloc (.map #[] 0)).alloc (.map #[] 0)).alloc (.cells #[.int .i64 room,.int .i64 0,.map (some w.heap.size),.map (some (w.heap.size+1)),.slice none 0 0,.int .i64 (-1)] 69)) (w.heap.size+1+1) (ZgP room) 0 0:=by
 have l:=Yj.made w;obtain⟨d,z⟩:∃ d,d=w.alloc (.map #[] 0):=⟨_,rfl⟩;have n:d.heap.size=w.heap.size+1:=by rw[z];simp
 rw[<-z] at l ⊢;have f:=Yj.made d;have u:=l.keep (w':=d.alloc (.map #[] 0)) (Below.heap_alloc _ _ _ (by omega))
 obtain⟨a,q⟩:∃ a,a=d.alloc (.map #[] 0):=⟨_,rfl⟩;have m:a.heap.size=w.heap.size+1+1:=by rw[q];simp[n]
 rw[<-q] at f u ⊢;rw[n] at f;obtain⟨A,t⟩:∃ A:Array Value,A=#[.int .i64 room,.int .i64 0,.map (some w.heap.size),.map (some (w.heap.size+1)),.slice none 0 0,.int .i64 (-1)]:=⟨_,rfl⟩;rw[<-t];have p:=f.keep (w':=a.alloc (.cells A 69)) (Below.heap_alloc _ _ _ (by omega))
 have y:=u.keep (w':=a.alloc (.cells A 69)) (Below.heap_alloc _ _ _ (by omega))
 have e:Bk 69 (a.alloc (.cells A 69)) a.heap.size A:=heap_alloc_new a _;rw[m] at e;have H:(a.alloc (.cells A 69)).heap.size=w.heap.size+1+1+1:=by simp[m]
 obtain⟨B,F⟩:∃ B,B=a.alloc (.cells A 69):=⟨_,rfl⟩;rw[<-F] at p y e H ⊢;refine⟨⟨w.heap.size,w.heap.size+1,.slice none 0 0,[],fun _=>0,fun _=>.slice none 0 0⟩,⟨by rw[t] at e;exact e,?_,⟨by omega,by omega⟩,fun k D=>D.2⟩,ZtU room,⟨Nat.le_refl _,Nat.le_refl _,(fun x C=>by cases C)⟩,E,⟨by show(-9223372036854775808:Int)<=-1;omega,by show(-1:Int)<=9223372036854775807;omega⟩⟩
 refine⟨y,p,World.ownsRow_nil _ _ _ _,rfl,(fun i c v h=>by simp[ZgP] at h),(fun i b=>absurd b (Nat.not_lt_zero _)),(fun i j b=>absurd b (Nat.not_lt_zero _)),(fun i j b=>absurd b (Nat.not_lt_zero _)),(by show w.heap.size≠w.heap.size+1;omega),⟨by show w.heap.size<=w.heap.size;omega,by show w.heap.size<_;omega⟩,⟨by show w.heap.size<=w.heap.size+1;omega,by show w.heap.size+1<_;omega⟩,(fun g G=>by cases G),(fun i b=>absurd b (Nat.not_lt_zero _)),(fun i b=>absurd b (Nat.not_lt_zero _))⟩
theorem ZyF (room:Int) (a:I64 room) (w:World):
 Calls prog 9 #[.int .i64 room] w fun e w'=>∃ p,e=.returned (ptr p)∧Dsk (fun k=>w.heap.size<=k∧k<w'.heap.size) w' p (ZgP room) 0 0∧Below w.heap.size w w':=by
 have b:=ZZ a;clear a;have c:=@run_makeMap prog
 go_enter func9,ntmps9
 go_wp2;go_ret;exact⟨_,rfl,ZyE w room b.o,(((Below.refl _ w).alloc zL _).alloc (by simp) _).alloc (by simp;omega) _⟩
theorem ZgT {L:Lay} (n:Int) (m:I64 n) (w:World) (h:Xd F w p L d u N):
 Calls prog 103 #[ptr p,.int .i64 n] w fun e w'=>e=.returned (.tuple #[ZqL (if d.power=0 then none else(look (Qm d) n).map L.ps),.int .i64 (if d.power=0 then 11 else if(look (Qm d) n).isSome then 0 else 8)])∧w'=w:=by
 have b:=ZZ (ZmR w h);obtain⟨⟨-,-,v,-,-,-⟩,-⟩:=h.cells;have a:=h.rest.now.look m;obtain⟨q,i⟩:∃ q,q=d.power:=⟨_,rfl⟩;obtain⟨o,j⟩:∃ o,o=look (Qm d) n:=⟨_,rfl⟩;rw[<-j] at a;rw[<-i] at b;rw[<-i,<-j];clear h i j m;by_cases c:q=0
 ·subst c
  go_enter func103,ntmps103
  go_wp2_with fail
  refine b.o.mono ?_;rintro e w' ⟨rfl,rfl⟩;go_wp2;go_ret2;exact⟨rfl,rfl⟩
 ·rw[if_neg c,if_neg c]
  have k:(q != 0)=true:=by simpa using c
  rw[k] at b;clear c k
  cases o with
  | none=>
   have l:(Instr.lookup 65 (.map (some L.now)) (.int .i64 n) true).run prog w=.ok (.tuple #[.pointer none,.bool false]) w:=a;clear a
   go_enter func103,ntmps103
   go_wp2_with fail
   refine b.o.mono ?_;rintro e w' ⟨rfl,rfl⟩;go_wp2;go_ret2;exact⟨rfl,rfl⟩
  | some f=>
   have l:(Instr.lookup 65 (.map (some L.now)) (.int .i64 n) true).run prog w=.ok (.tuple #[.pointer (some ⟨L.ps f,0,none⟩),.bool true]) w:=a;clear a;obtain⟨x,g⟩:∃ x,x=L.ps f:=⟨_,rfl⟩;have t:ZqL (Option.map L.ps (some f))=.pointer (some ⟨x,0,none⟩):=by rw[g];rfl
   rw[<-g] at l;rw[t];clear g t
   go_enter func103,ntmps103
   go_wp2_with fail
   refine b.o.mono ?_;rintro e w' ⟨rfl,rfl⟩;go_wp2;go_ret2;exact⟨rfl,rfl⟩
def Gr (F:Nat->Prop) (w w':World) (k:Nat):Prop:=F k∨(w.heap.size<=k∧k<w'.heap.size)
theorem Gr.lt (b:w.heap.size<=w'.heap.size) (a:∀ k,F k->k<w.heap.size):∀ k,Gr F w w' k->k<w'.heap.size:=by
 rintro k (h | h)
 ·have:=a k h;omega
 ·exact h.2
theorem ZwV (n:Int) (x:Nat) (w:World):
 Calls prog 96 #[.int .i64 n,ptr x] w fun e w'=>e=.returned (.func (.func 139) #[] #[ptr (w.heap.size+1),ptr w.heap.size])∧w'=(w.alloc (.cells #[.int .i64 n] 3)).alloc (.cells #[ptr x] 115):=by
 have a:∀ (fn:Fn) (first cap:Array Value) (w:World),(Instr.makeFunc fn first cap).run prog w=.ok (.func fn first cap) w:=fun _ _ _ _=>rfl
 go_enter func96,ntmps96
 go_wp2;go_ret;exact⟨rfl,rfl⟩
theorem Zuq (n a:Int) (x:Nat) (w:World):
 Calls prog 105 #[.int .i64 n,.int .i64 a,ptr x] w fun e w'=>e=.returned (.func (.func 143) #[] #[ptr (w.heap.size+1+1),ptr (w.heap.size+1),ptr w.heap.size])∧w'=((w.alloc (.cells #[.int .i64 n] 3)).alloc (.cells #[.int .i64 a] 3)).alloc (.cells #[ptr x] 115):=by
 have b:∀ (fn:Fn) (first cap:Array Value) (w:World),(Instr.makeFunc fn first cap).run prog w=.ok (.func fn first cap) w:=fun _ _ _ _=>rfl
 go_enter func105,ntmps105
 go_wp2;go_ret;exact⟨rfl,rfl⟩
theorem ZwW (n:Int) (w:World):
 Calls prog 110 #[.int .i64 n] w fun e w'=>e=.returned (.func (.func 157) #[] #[ptr w.heap.size])∧w'=w.alloc (.cells #[.int .i64 n] 3):=by
 have a:∀ (fn:Fn) (first cap:Array Value) (w:World),(Instr.makeFunc fn first cap).run prog w=.ok (.func fn first cap) w:=fun _ _ _ _=>rfl
 go_enter func110,ntmps110
 go_wp2;go_ret;exact⟨rfl,rfl⟩
theorem Zcd {n:Int} (h:ZdE n=true):I64 n:=by
 simp only [ZdE,Bool.and_eq_true,decide_eq_true_eq] at h;exact⟨by omega,by omega⟩
def Zlo (w:World) (b N:Nat) (ps:Nat->Nat) (g:Int->Option Nat) (c:Ch) (e:Ending) (w':World):Prop:=
 e=.returned (.tuple #[])∧Yj w' b (N+1) (fun n=>(chF g c n).map ps)∧w.grownBy w' (some b)
theorem ZcH (w:World) {c:Array Oper} {rest:List Oper} {o:Oper} {a:Act} {Q:Exit->Act->World->Prop} (l:o.guard=none) (m x:Operand)
 (t:o.op=.call { callee:=.builtin .delete,args:=#[m,x],argTypes:=#[65,3] })
 (b N:Nat) (f:Int->Option Nat) (p:Int) (g:a.eval m=.map (some b)) (d:a.eval x=.int .i64 p) (i:Yj w b N f) (q:I64 p)
 (h:∀ w',Yj w' b N (fun m=>if m=p then none else f m)->w.grownBy w' (some b)->wpList prog c Q rest (a.put o.dst (.tuple #[])) w'):wpList prog c Q (o::rest) a w:=
 wpList_plain l fun _ e=>by
  obtain⟨w',n,j,k⟩:=i.del q o.type;unfold Oper.wp execOp;simp only [t,resolve,invoke,builtin,Sem.run_bind,Sem.run_pure,Result.andThen_ok,map_toArray,map_cons,map_nil,g,d,n];exact e _ _ (h w' j k)
theorem ZjF (w:World) {c:Array Oper} {rest:List Oper} {o:Oper} {a:Act} {Q:Exit->Act->World->Prop} (k:o.guard=none) (m:Operand)
 (n:o.op=.call { callee:=.builtin .clear,args:=#[m],argTypes:=#[65] })
 (b N:Nat) (f:Int->Option Nat) (e:a.eval m=.map (some b)) (g:Yj w b N f)
 (h:∀ w',Yj w' b 0 (fun _=>none)->w.grownBy w' (some b)->wpList prog c Q rest (a.put o.dst (.tuple #[])) w'):wpList prog c Q (o::rest) a w:=
 wpList_plain k fun _ d=>by
  obtain⟨w',l,i,j⟩:=g.clear o.type;unfold Oper.wp execOp;simp only [n,resolve,invoke,builtin,Sem.run_bind,Sem.run_pure,Result.andThen_ok,map_toArray,map_cons,map_nil,e,l];exact d _ _ (h w' i j)
theorem ZhO {b c:World} {r:Nat} (h:a.grownBy b (some r)) (k:b.grownBy c (some r)):a.grownBy c (some r):=h.andThen k (fun _ d=>.inr d)
theorem ZmV {n:Int} {f:Nat} (m:ZdE n=true) {i k b N:Nat} {ps:Nat->Nat} {g:Int->Option Nat} (w:World) (t:Bk 3 w i #[.int .i64 n]) (h:Bk 115 w k #[ptr (ps f)]) (d:Yj w b N (fun n=>(g n).map ps)) (j:N<=10000000):
 Calls prog 139 #[.map (some b),ptr k,ptr i] w fun e w'=>Zlo w b N ps g (.give n f) e w':=by
 obtain⟨y,v,l,c⟩:=d.put (p:=n) (ps f) (Zcd m) j
 have A:Hid (Yj y b (N+1) (fun n'=>(chF g (.give n f) n').map ps)):=ZZ (l.fun fun q _=>by
  show(if q=n then some (ps f) else(g q).map ps)=(if q=n then some f else g q).map ps
  split <;> rfl)
 have z:=ZZ c;obtain⟨B,-⟩:=t.cell 0 rfl;obtain⟨u,-⟩:=h.cell 0 rfl;obtain⟨x,a⟩:∃ x,x=ps f:=⟨_,rfl⟩;rw[<-a] at v u;clear l c d t h a m j
 go_enter func139,ntmps139
 go_wp2;go_end0;exact⟨rfl,A.o,z.o⟩
theorem ZmW {n a:Int} {f:Nat} (D:ZdE n=true) (u:ZdE a=true) {k B v b N:Nat} {ps:Nat->Nat} {g:Int->Option Nat} (w:World) (d:Bk 3 w k #[.int .i64 n]) (y:Bk 3 w B #[.int .i64 a]) (z:Bk 115 w v #[ptr (ps f)]) (j:Yj w b N (fun n=>(g n).map ps)) (A:N<=10000000):
 Calls prog 143 #[.map (some b),ptr v,ptr B,ptr k] w fun e w'=>Zlo w b N ps g (.move n a f) e w':=by
 obtain⟨G,E,C,h⟩:=j.put (p:=a) (ps f) (Zcd u) A;obtain⟨K,-⟩:=y.cell 0 rfl;obtain⟨F,-⟩:=z.cell 0 rfl;obtain⟨L,-⟩:=(d.keep (h.block k d.lt (by intro e;exact(d.neMap j) (Option.some.inj e)))).cell 0 rfl
 have I:=ZZ C;have J:=ZZ D
 have H:Hid (∀ c,Yj c b (N+1) (fun m=>if m=n then none else if m=a then some (ps f) else(g m).map ps)->G.grownBy c (some b)->Zlo w b N ps g (.move n a f) (.returned (.tuple #[])) c):=ZZ (fun c l i=>by
  refine⟨rfl,l.fun fun q _=>?_,ZhO h i⟩
  show(if q=n then none else if q=a then some (ps f) else(g q).map ps)=(if q=n then none else if q=a then some f else g q).map ps
  split
  ·rfl
  ·split <;> rfl)
 obtain⟨x,t⟩:∃ x,x=ps f:=⟨_,rfl⟩;rw[<-t] at E F;clear C h j d y z t D u A
 go_enter func143,ntmps143
 go_wp2_with(first | (at_delete;refine ZcH _ rfl _ _ rfl b _ _ n rfl rfl I.o (Zcd J.o) ?_;intro c l i))
 go_end0;exact H.o _ l i
theorem ZmX {n:Int} (d:ZdE n=true) {c b N:Nat} {ps:Nat->Nat} {g:Int->Option Nat} (w:World) (f:Bk 3 w c #[.int .i64 n]) (a:Yj w b N (fun n=>(g n).map ps)):
 Calls prog 157 #[.map (some b),ptr c] w fun e w'=>Zlo w b N ps g (.take n) e w':=by
 obtain⟨l,-⟩:=f.cell 0 rfl;have j:=ZZ a;have k:=ZZ d;clear a d f
 go_enter func157,ntmps157
 go_wp2_with(first | (at_delete;refine ZcH _ rfl _ _ rfl b _ _ n rfl rfl j.o (Zcd k.o) ?_;intro m i h))
 go_end0;refine⟨rfl,(i.mono (Nat.le_succ _)).fun fun q _=>?_,h⟩
 show(if q=n then none else(g q).map ps)=(if q=n then none else g q).map ps
 split <;> rfl
theorem ZyG:(prog.info? 113).map (fun i=>(i.zero,i.size,i.bytes))=some (some .nilFunc,1,8):=by kernel_rfl
theorem Zlp (w:World) (ty:TypeId) (v:Value) (cs:List Value) (h:w.ownsRow 0 113 1 v cs.length cs) (fn:Fn) (b a:Array Value) (p:cs.length<=10000000):
 ∃ v' w',(Builtin.append_ #[67,67] ty #[v,.slice (some ⟨w.heap.size,0,none⟩) 1 1]).run prog (w.alloc (.cells #[.func fn b a] 113))=.ok v' w'∧
  w'.ownsRow 0 113 1 v' (cs++[Value.func fn b a]).length (cs++[Value.func fn b a])∧(w.alloc (.cells #[.func fn b a] 113)).grownBy w' v.ownBlock∧(v'.ownBlock=v.ownBlock∨v'.ownBlock=some (w.heap.size+1)):=by
 obtain⟨e,f,m,i,g⟩:=info_parts ZyG
 obtain⟨v',w',k,n,l,_,hl⟩:=run_append_own_at (P:=prog) (w.alloc (.cells #[.func fn b a] 113)) 0 67 ty 113 e .nilFunc 1 8 underlying67 f m i g rfl (by decide) v cs.length cs (World.ownsRow.alloc h _)
  ⟨w.heap.size,0,none⟩ 1 1 [.func fn b a] rfl (fun j u c=>by
   match j,c with
   | 0,c=>simp at c;subst c;simp[Addr.add]) (fun u d=>by simp at d;subst d;rfl) (by unfold maxLen;omega) (by omega) (Nat.zero_le _)
 refine⟨v',w',k,?_,l,?_⟩
 ·rw[length_append]
  exact n
 ·rcases hl with hl | hl
  ·exact .inl hl
  ·exact .inr (by rw[hl];simp)
theorem ZaG (w:World) {d:Array Oper} {rest:List Oper} {o:Oper} {a:Act} {Q:Exit->Act->World->Prop} (m:o.guard=none) (s x:Operand)
 (q:o.op=.call { callee:=.builtin .append,args:=#[s,x],argTypes:=#[67,67] })
 (v:Value) (cs:List Value) (g:a.eval s=v) (h:w.ownsRow 0 113 1 v cs.length cs) (fn:Fn) (c b:Array Value) (e:a.eval x=.slice (some ⟨w.heap.size,0,none⟩) 1 1) (i:cs.length<=10000000)
 (f:∀ v' w',w'.ownsRow 0 113 1 v' (cs++[Value.func fn c b]).length (cs++[Value.func fn c b])->(w.alloc (.cells #[.func fn c b] 113)).grownBy w' v.ownBlock->(v'.ownBlock=v.ownBlock∨v'.ownBlock=some (w.heap.size+1))->
  wpList prog d Q rest (a.put o.dst v') w'):wpList prog d Q (o::rest) a (w.alloc (.cells #[.func fn c b] 113)):=
 wpList_plain m fun _ p=>by
  obtain⟨v',w',n,j,k,l⟩:=Zlp w o.type v cs h fn c b i;unfold Oper.wp execOp;simp only [q,resolve,invoke,builtin,Sem.run_bind,Sem.run_pure,Result.andThen_ok,map_toArray,map_cons,map_nil,g,e,n];exact p _ _ (f v' w' j k l)
theorem ZmY (h:ZtN m c):∀ n a f,c=.move n a f->n≠a:=by
 rintro n a f rfl;exact h.2.2.1
theorem Zur (d:Dk) (c:Ch):Qm { d with waits:=d.waits++[c] }=chD (Qm d) c:=by
 show(d.waits++[c]).foldl chD d.kept=_;rw[foldl_append];rfl
theorem Xd.addWait {q f:World} {L:Lay} {fn:Fn} {y x:Array Value} (h:Xd F w p L d u N) (hc:ChV F w L.ps c (.func fn y x)) (ac:OkD d) (U:ZtN d.files.length c)
 (G:w.grownBy q (some L.now)) (A:Yj q L.now (N+1) (fun n=>(chF (look (Qm d)) c n).map L.ps))
 (H:f.ownsRow 0 113 1 v' (L.cs++[Value.func fn y x]).length (L.cs++[Value.func fn y x])) (C:(q.alloc (.cells #[.func fn y x] 113)).grownBy f L.wv.ownBlock) (hv:v'.ownBlock=L.wv.ownBlock∨v'.ownBlock=some (q.heap.size+1)):
 Xd (Gr F w f) (f.setCell ⟨p,4,none⟩ v') p { L with wv:=v',cs:=L.cs++[Value.func fn y x] } { d with waits:=d.waits++[c] } u (N+1)∧Ql F w (f.setCell ⟨p,4,none⟩ v'):=by
 have a:=h.rest;have ad:=G.size;have ae:q.heap.size+1<=f.heap.size:=by have:=C.size;simpa using this
 have T:(f.setCell ⟨p,4,none⟩ v').heap.size=f.heap.size:=by simp
 have S:∀ k,F k->k≠L.now->L.wv.ownBlock≠some k->f.heap[k]?=w.heap[k]?:=fun k l K J=>by
  have E:=h.lt k l;rw[C.block k (by simp;omega) (fun e=>J e.symm),Below.heap_alloc _ _ _ (by omega),G.block k E (fun e=>K (Option.some.inj e))]
 have B:∀ k,F k->k≠L.now->L.wv.ownBlock≠some k->k≠p->(f.setCell ⟨p,4,none⟩ v').heap[k]?=w.heap[k]?:=fun k l K J hp=>by
  rw[Below.heap_setCell _ _ _ _ hp,S k l K J]
 have R:∀ {t:TypeId} {k:Nat} {cs:Array Value},Bk t w k cs->t≠113->L.wv.ownBlock≠some k:=fun hb Z j=>by
  obtain⟨D,z⟩:=Dc a.row j;exact(hb.ne z Z) rfl
 have P:∀ {k n:Nat} {g:Int->Option Nat},Yj w k n g->L.wv.ownBlock≠some k:=fun A j=>by
  obtain⟨D,z⟩:=Dc a.row j;exact(z.neMap A) rfl
 have I:∀ {t:TypeId} {k:Nat} {cs:Array Value},Bk t w k cs->F k->t≠113->t≠69->(f.setCell ⟨p,4,none⟩ v').heap[k]?=w.heap[k]?:=fun hb l h1 W=>
  B _ l (hb.neMap a.now) (R hb h1) (hb.ne h.head W)
 have M:L.now≠p:=(h.head.neMap a.now).symm;have O:Bk 69 f p (ZfD L d u):=h.head.keep (S p h.fh M.symm (R h.head (by decide)))
 have ab:∀ g,v'.ownBlock=some g->Gr F w f g:=fun g j=>by
  rcases hv with hv | hv
  ·exact .inl (a.fw g (by rw[<-hv];exact j))
  ·rw[hv] at j
   obtain rfl:=Option.some.inj j;exact .inr ⟨by omega,by have:=(World.ownsRow.lt H _ hv).2;omega⟩
 refine⟨⟨O.set 4 v',?_,.inl h.fh,fun k B=>?_⟩,?_⟩
 ·refine⟨?_,?_,?_,?_,?_,?_,a.psn,a.vsn,a.nk,.inl a.fn,.inl a.fk,ab,fun i b=>.inl (a.fp i b),fun i b g j=>.inl (a.fv i b g j)⟩
  ·have e:∀ n,(look (Qm { d with waits:=d.waits++[c] }) n).map L.ps=(chF (look (Qm d)) c n).map L.ps:=fun n=>by rw[Zur,Zdb ac.dir.rise c (ZmY U)]
   refine(A.keep (w':=f.setCell ⟨p,4,none⟩ v') ?_).fun fun n _=>(e n).symm
   rw[Below.heap_setCell _ _ _ _ M,C.block L.now (by simp;have:=A.lt;omega) (fun e=>P a.now e.symm),Below.heap_alloc _ _ _ A.lt]
  ·exact(a.kept.mono (Nat.le_succ N)).keep (B _ a.fk (Ne.symm a.nk) (P a.kept) (h.head.neMap a.kept).symm)
  ·exact Qh H fun g j=>Below.heap_setCell _ _ _ _ (by
    obtain⟨D,z⟩:=Dc H j
    exact z.ne O (by decide))
  ·rw[length_append,length_append,a.many]
   rfl
  ·intro i c' v b m
   have Q:∀ c v,ChV F w L.ps c v->ChV (Gr F w f) (f.setCell ⟨p,4,none⟩ v') L.ps c v:=fun c v aa=>aa.keep (fun _ l=>.inl l) (fun _ _=>rfl) fun k D l hb=>by
    rcases hb with hb | hb <;> exact I hb l (by decide) (by decide)
   rw[List.getElem?_append] at b m;rw[a.many] at m;by_cases E:i<d.waits.length
   ·rw[if_pos E] at b m
    exact Q _ _ (a.wait i c' v b m)
   ·rw[if_neg E] at b m
    have X:i-d.waits.length=0:=by
     have:=(List.getElem?_eq_some_iff.1 b).1;simp at this;omega
    rw[X] at b m;simp only [List.getElem?_cons_zero,Option.some.injEq] at b m;rw[<-b,<-m];exact Q _ _ hc
  ·intro i b
   refine(a.file i b).keep (I (a.file i b).box (a.fp i b) (by decide) (by decide)) fun g j=>?_
   obtain⟨D,hb⟩:=Dc (a.file i b).own j;exact I hb (a.fv i b g j) (by decide) (by decide)
 ·rw[T]
  exact Gr.lt (by omega) h.lt k B
 ·have Y:Ql F w q:=Ql.ofGrown G fun k e _=>by obtain rfl:=Option.some.inj e;exact a.fn
  have V:Ql F (q.alloc (.cells #[.func fn y x] 113)) f:=Ql.ofGrown C fun k e _=>a.fw k e
  exact((Y.alloc _).trans V (fun _ _ l=>l)).setCell 4 (fun _=>h.fh) v'
theorem Zez (h:w.ownsRow base t s v n xs):∃ ao m b,v=.slice ao m b:=by
 rcases h.2 with ⟨a,_⟩ | ⟨g,cap,cur,a,_⟩
 ·exact⟨_,_,_,a⟩
 ·exact⟨_,_,_,a⟩
theorem Zus (F:Nat->Prop) (w b:World) (a:Addr) (v:Value):Gr F w (b.setCell a v)=Gr F w b:=by
 funext k
 simp[Gr]
def ZyH (F:Nat->Prop) (w:World) (p:Nat) (L:Lay) (d:Dk) (u:Int) (N:Nat) (c:Ch) (e:Ending) (w':World):Prop:=
 e=.returned (.tuple #[])∧∃ L',Xd (Gr F w w') w' p L' { d with waits:=d.waits++[c] } u (N+1)∧L'.ps=L.ps∧L'.vs=L.vs∧Ql F w w'
theorem ZhP {L:Lay} {cv:Value} (w:World) (h:Xd F w p L d u N) (hc:ChV F w L.ps c cv) (ae:OkD d) (ad:ZtN d.files.length c) (hN:N<=1000000) (hW:d.waits.length<=1000000):
 Calls prog 95 #[ptr p,cv] w fun e w'=>ZyH F w p L d u N c e w':=by
 have H:=ZZ h;have aa:=ZZ ae;have I:=ZZ ad;obtain⟨⟨-,-,c2,-,-,-⟩,-⟩:=h.cells;have q:Hid (L.now≠p):=ZZ (h.head.neMap h.rest.now).symm
 have ac:Hid (∀ g,L.wv.ownBlock=some g->g≠L.now):=ZZ (fun g l=>by
  obtain⟨ab,G⟩:=Dc h.rest.row l
  exact G.neMap h.rest.now)
 clear h ae ad
 cases c with
 | give n f=>
  obtain⟨y,U,rfl,C,P,R,Z⟩:=hc;have M:Hid (ChV F w L.ps (.give n f) (.func (.func 139) #[] #[ptr U,ptr y])):=ZZ ⟨y,U,rfl,C,P,R,Z⟩;have T:=ZZ (ZmV (f:=f) I.o.1 w C P H.out.rest.now (by omega))
  go_enter func95,ntmps95
  go_wp2_with fail
  refine T.o.mono ?_;rintro e k ⟨rfl,A,a⟩;have Q:=ZZ A;have b:=ZZ a;have v:=H.out.head.keep (a.block p H.out.head.lt (fun e=>q.o (Option.some.inj e).symm))
  obtain⟨J,O⟩:=v.cell 4 rfl;have B:Hid (k.ownsRow 0 113 1 L.wv L.cs.length L.cs):=ZZ (Qh H.out.rest.row fun g l=>a.block g (World.ownsRow.lt H.out.rest.row g l).2 (fun e=>ac.o g l (Option.some.inj e)))
  clear A a v;have t:Hid (p<k.heap.size):=ZZ (Nat.lt_of_lt_of_le H.out.head.lt b.o.size)
  go_wp2_with(at_builtin;refine(fun(h:True->_)=>h trivial) ?_)
  intro _;refine ZaG k rfl _ _ rfl L.wv L.cs rfl B.o _ _ _ rfl (by have:=H.out.rest.many;omega) ?_
  intro v' x i j D;have W:=ZZ i;have K:=ZZ j;have Y:=ZZ D
  have E:Bk 69 x p (ZfD L d u):=(H.out.head.keep (b.o.block p H.out.head.lt (fun e=>q.o (Option.some.inj e).symm))).keep ((j.block p (by simp;have:=t.o;omega) (fun e=>by
   obtain⟨ab,G⟩:=Dc B.o e.symm
   exact(G.ne (H.out.head.keep (b.o.block p H.out.head.lt (fun e=>q.o (Option.some.inj e).symm))) (by decide)) rfl)).trans (Below.heap_alloc _ _ _ t.o))
  obtain⟨d4,g4⟩:=E.cell 4 rfl;obtain⟨ao,V,X,rfl⟩:=Zez i;clear i j D E J O;go_wp2;go_end0;obtain⟨z,S⟩:=H.out.addWait M.o aa.o I.o b.o Q.o W.o K.o Y.o;rw[<-Zus F w x ⟨p,4,none⟩ (.slice ao V X)] at z;exact⟨rfl,_,z,rfl,rfl,S⟩
 | move n m f=>
  obtain⟨y,U,b3,rfl,C,P,h3,R,Z,f3⟩:=hc;have M:Hid (ChV F w L.ps (.move n m f) (.func (.func 143) #[] #[ptr b3,ptr U,ptr y])):=ZZ ⟨y,U,b3,rfl,C,P,h3,R,Z,f3⟩;have T:=ZZ (ZmW (f:=f) I.o.1 I.o.2.1 w C P h3 H.out.rest.now (by omega))
  go_enter func95,ntmps95
  go_wp2_with fail
  refine T.o.mono ?_;rintro e k ⟨rfl,A,a⟩;have Q:=ZZ A;have b:=ZZ a;have v:=H.out.head.keep (a.block p H.out.head.lt (fun e=>q.o (Option.some.inj e).symm))
  obtain⟨J,O⟩:=v.cell 4 rfl;have B:Hid (k.ownsRow 0 113 1 L.wv L.cs.length L.cs):=ZZ (Qh H.out.rest.row fun g l=>a.block g (World.ownsRow.lt H.out.rest.row g l).2 (fun e=>ac.o g l (Option.some.inj e)))
  clear A a v;have t:Hid (p<k.heap.size):=ZZ (Nat.lt_of_lt_of_le H.out.head.lt b.o.size)
  go_wp2_with(at_builtin;refine(fun(h:True->_)=>h trivial) ?_)
  intro _;refine ZaG k rfl _ _ rfl L.wv L.cs rfl B.o _ _ _ rfl (by have:=H.out.rest.many;omega) ?_
  intro v' x i j D;have W:=ZZ i;have K:=ZZ j;have Y:=ZZ D
  have E:Bk 69 x p (ZfD L d u):=(H.out.head.keep (b.o.block p H.out.head.lt (fun e=>q.o (Option.some.inj e).symm))).keep ((j.block p (by simp;have:=t.o;omega) (fun e=>by
   obtain⟨ab,G⟩:=Dc B.o e.symm
   exact(G.ne (H.out.head.keep (b.o.block p H.out.head.lt (fun e=>q.o (Option.some.inj e).symm))) (by decide)) rfl)).trans (Below.heap_alloc _ _ _ t.o))
  obtain⟨d4,g4⟩:=E.cell 4 rfl;obtain⟨ao,V,X,rfl⟩:=Zez i;clear i j D E J O;go_wp2;go_end0;obtain⟨z,S⟩:=H.out.addWait M.o aa.o I.o b.o Q.o W.o K.o Y.o;rw[<-Zus F w x ⟨p,4,none⟩ (.slice ao V X)] at z;exact⟨rfl,_,z,rfl,rfl,S⟩
 | take n=>
  obtain⟨y,rfl,C,R⟩:=hc;have M:Hid (ChV F w L.ps (.take n) (.func (.func 157) #[] #[ptr y])):=ZZ ⟨y,rfl,C,R⟩;have T:=ZZ (ZmX I.o w C H.out.rest.now)
  go_enter func95,ntmps95
  go_wp2_with fail
  refine T.o.mono ?_;rintro e k ⟨rfl,A,a⟩;have Q:=ZZ A;have b:=ZZ a;have v:=H.out.head.keep (a.block p H.out.head.lt (fun e=>q.o (Option.some.inj e).symm))
  obtain⟨J,O⟩:=v.cell 4 rfl;have B:Hid (k.ownsRow 0 113 1 L.wv L.cs.length L.cs):=ZZ (Qh H.out.rest.row fun g l=>a.block g (World.ownsRow.lt H.out.rest.row g l).2 (fun e=>ac.o g l (Option.some.inj e)))
  clear A a v;have t:Hid (p<k.heap.size):=ZZ (Nat.lt_of_lt_of_le H.out.head.lt b.o.size)
  go_wp2_with(at_builtin;refine(fun(h:True->_)=>h trivial) ?_)
  intro _;refine ZaG k rfl _ _ rfl L.wv L.cs rfl B.o _ _ _ rfl (by have:=H.out.rest.many;omega) ?_
  intro v' x i j D;have W:=ZZ i;have K:=ZZ j;have Y:=ZZ D
  have E:Bk 69 x p (ZfD L d u):=(H.out.head.keep (b.o.block p H.out.head.lt (fun e=>q.o (Option.some.inj e).symm))).keep ((j.block p (by simp;have:=t.o;omega) (fun e=>by
   obtain⟨ab,G⟩:=Dc B.o e.symm
   exact(G.ne (H.out.head.keep (b.o.block p H.out.head.lt (fun e=>q.o (Option.some.inj e).symm))) (by decide)) rfl)).trans (Below.heap_alloc _ _ _ t.o))
  obtain⟨d4,g4⟩:=E.cell 4 rfl;obtain⟨ao,V,X,rfl⟩:=Zez i;clear i j D E J O;go_wp2;go_end0;obtain⟨z,S⟩:=H.out.addWait M.o aa.o I.o b.o Q.o W.o K.o Y.o;rw[<-Zus F w x ⟨p,4,none⟩ (.slice ao V X)] at z;exact⟨rfl,_,z,rfl,rfl,S⟩
def ZrS (fs:List Fl):Option Nat->Nat
 | some f=>(fl fs f).b.length
 | none=>0
theorem Zaj (fs:List Fl) (p:Int × Nat) (l:Dir):Zt fs (p::l)=(fl fs p.2).b.length+Zt fs l:=by simp[Zt]
theorem ZgU (fs:List Fl):Zt fs []=0:=rfl
theorem ZdO (fs:List Fl) (a b:Dir):Zt fs (a++b)=Zt fs a+Zt fs b:=by simp[Zt]
theorem ZhQ (fs:List Fl) (n:Int) (f:Nat):∀ (l:Dir) (done:Bool),Zt fs (Zjz n f done l)=Zt fs (l.filter fun p=>decide (p.1≠n))+(if done then 0 else(fl fs f).b.length)
 | [],done=>by cases done <;> simp[Zjz,Zt]
 | q::l,done=>by
  have d:=ZhQ fs n f l (done || decide (q.1>n));rw[Zjz,ZdO,ZdO,d,List.filter_cons];by_cases c:q.1>n
  ·have a:q.1≠n:=by omega
   cases done <;> simp[c,a,Zaj,ZgU] <;> omega
  ·by_cases a:q.1=n
   ·cases done <;> simp[a,ZgU]
   ·cases done <;> simp[c,a,Zaj,ZgU] <;> omega
theorem ZhR (fs:List Fl) (n:Int):∀ l:Dir,Xa l->Zt fs (l.filter fun p=>decide (p.1≠n))+ZrS fs (look l n)=Zt fs l
 | [],_=>rfl
 | q::l,h=>by
  unfold Xa at h;rw[List.pairwise_cons] at h;rw[List.filter_cons,look];by_cases e:q.1=n
  ·have c:∀ p ∈ l,p.1≠n:=fun p a=>by have:=h.1 p a;omega
   rw[if_pos e,if_neg (by simp[e]),Zaj,List.filter_eq_self.2 (fun p a=>by simpa using c p a)]
   show _+(fl fs q.2).b.length=_;omega
  ·rw[if_neg e,if_pos (by simp[e]),Zaj,Zaj]
   have:=ZhR fs n l h.2;omega
theorem ZeA (fs:List Fl) {l:Dir} (h:Xa l) (n:Int) (o:Option Nat):Zt fs (Yt l n o)+ZrS fs (look l n)=Zt fs l+ZrS fs o:=by
 have a:=ZhR fs n l h
 cases o with
 | none=>rw[Yt,ZhQ];show _=_+0;simp only [if_true];omega
 | some f=>rw[Yt,ZhQ];simp only [Bool.false_eq_true,if_false];show _=_+(fl fs f).b.length;omega
theorem ZeB {f:Nat} (h:f<fs.length) (x:Fl):fl (fs++[x]) f=fl fs f:=by
 unfold fl;simp[List.getD,List.getElem?_append,h]
theorem ZhS (fs:List Fl) (x:Fl):fl (fs++[x]) fs.length=x:=by
 unfold fl;simp[List.getD]
theorem Zlq {a:List Fl} {l:Dir} (h:∀ p ∈ l,(fl a p.2).b.length=(fl fs p.2).b.length):Zt a l=Zt fs l:=by
 unfold Zt;rw[List.map_congr_left h]
theorem Zut {l:Dir} (h:∀ p ∈ l,p.2<fs.length) (x:Fl):Zt (fs++[x]) l=Zt fs l:=
 Zlq fun p a=>by rw[ZeB (h p a)]
theorem Zlr {f:Nat} (a:f<fs.length) (x:Fl):∀ {l:Dir},G9 l->(∃ n,(n,f) ∈ l)->Zt (fs.set f x) l+(fl fs f).b.length=Zt fs l+x.b.length
 | [],_,⟨_,h⟩=>by cases h
 | q::l,ha,⟨n,h⟩=>by
  unfold G9 at ha;rw[List.pairwise_cons] at ha;rw[Zaj,Zaj];by_cases e:q.2=f
  ·have c:Zt (fs.set f x) l=Zt fs l:=Zlq fun p g=>by rw[Jf (by rw[<-e];exact ha.1 p g)]
   rw[e,c,Zao a];omega
  ·rw[Jf (fun d=>e d.symm)]
   rcases List.mem_cons.1 h with h | h
   ·exact absurd (by rw[<-h]) e
   ·have:=Zlr a x (l:=l) ha.2 ⟨n,h⟩
    omega
theorem ZrT (h:OkD d) {n:Int} {f:Nat} (e:look (Qm d) n=some f) (b:List UInt8):Jb (appendTo d f b)=Jb d+b.length:=by
 have a:=(Zb h.dir.rise n f).1 e;have:=Zlr (h.dir.may _ a).2 ⟨(fl d.files f).b++b,(fl d.files f).k⟩ h.dir.apart ⟨n,a⟩;simp only [length_append] at this;show Zt (Yr d.files f b) (Qm d)=Zt d.files (Qm d)+b.length;unfold Yr;omega
theorem ZrU (h:OkD d) {n:Int} {f:Nat} (e:look (Qm d) n=some f) (q:Int):Jb { d with files:=Gd d.files f,power:=q }=Jb d:=by
 have a:=(Zb h.dir.rise n f).1 e;have:=Zlr (h.dir.may _ a).2 ⟨(fl d.files f).b,(fl d.files f).b.length⟩ h.dir.apart ⟨n,a⟩;show Zt (Gd d.files f) (Qm d)=Zt d.files (Qm d);unfold Gd
 dsimp only at this
 omega
theorem ZoX (h:OkD d) {n:Int} (e:look (Qm d) n=none):Jb (Jd d n)=Jb d:=by
 have a:=ZeA (d.files++[⟨[],0⟩]) h.dir.rise n (some d.files.length);have c:Zt (d.files++[⟨[],0⟩]) (Qm d)=Zt d.files (Qm d):=Zut (fun p g=>(h.dir.may p g).2) _
 have f:ZrS (d.files++[⟨[],0⟩]) (some d.files.length)=0:=by show(fl _ _).b.length=0;rw[ZhS];rfl
 rw[e,c,f] at a;unfold Jb;rw[Zkd,chD];show Zt (d.files++[⟨[],0⟩]) (Yt (Qm d) n (some d.files.length))=_;simpa[ZrS] using a
theorem ZrV (h:OkD d) {n m:Int} {f:Nat} (c:n≠m) (e:look (Qm d) n=some f) (q:Int):Jb { d with waits:=d.waits++[.move n m f],power:=q }+ZrS d.files (look (Qm d) m)=Jb d:=by
 have b:=ZeA d.files h.dir.rise n none;have a:=ZeA d.files (Yo h.dir.rise n none) m (some f);rw[Zaw h.dir.rise,if_neg (fun e=>c e.symm)] at a
 rw[e] at b
 have g:Jb { d with waits:=d.waits++[.move n m f],power:=q }=Zt d.files (Yt (Yt (Qm d) n none) m (some f)):=by
  show Zt d.files ((d.waits++[Ch.move n m f]).foldl chD d.kept)=_;rw[foldl_append];rfl
 rw[g];show _=Zt d.files (Qm d);simp only [ZrS] at b a ⊢;omega
theorem ZrW (h:OkD d) {n:Int} {f:Nat} (e:look (Qm d) n=some f) (q:Int):Jb { d with waits:=d.waits++[.take n],power:=q }+(fl d.files f).b.length=Jb d:=by
 have a:=ZeA d.files h.dir.rise n none;rw[e] at a
 have c:Jb { d with waits:=d.waits++[.take n],power:=q }=Zt d.files (Yt (Qm d) n none):=by
  show Zt d.files ((d.waits++[Ch.take n]).foldl chD d.kept)=_;rw[foldl_append];rfl
 rw[c];show _=Zt d.files (Qm d);simp only [ZrS] at a;omega
theorem ZoY (h:∀ x ∈ fs,x.b.length<=T):∀ l:Dir,(∀ p ∈ l,p.2<fs.length)->Zt fs l<=l.length*T
 | [],_=>Nat.zero_le _
 | p::l,hl=>by
  have c:=ZoY h l fun q a=>hl q (List.mem_cons_of_mem _ a)
  have d:=h _ (ZbH (hl p (List.mem_cons_self ..)));rw[Zaj,List.length_cons,Nat.add_mul];omega
theorem Zgj (l:List Ch):∀ k:Dir,(l.foldl chD k).length<=k.length+l.length:=by
 induction l with
 | nil=>intro k;exact Nat.le_refl _
 | cons c l a=>
  intro k;have d:=a (chD k c);have b:=Zrt k c;rw[List.foldl_cons,List.length_cons];omega
theorem ZwX (h:OkD d) {N T:Nat} (g:d.kept.length+d.waits.length<=N) (a:∀ x ∈ d.files,x.b.length<=T):Jb d<=N*T:=by
 have e:=ZoY a (Qm d) fun p c=>(h.dir.may p c).2
 have f:=Zgj d.waits d.kept;have i:(Qm d).length*T<=N*T:=Nat.mul_le_mul_right T (by unfold Qm;omega)
 unfold Jb;omega
theorem Zbt (d:Dk) (k:Nat):(Ym d k).length<=d.kept.length+d.waits.length:=by
 have h:=Zgj (d.waits.take k) d.kept;have a:(d.waits.take k).length<=d.waits.length:=by rw[List.length_take];omega
 unfold Ym;omega
theorem Xd.widen {L:Lay} (h:Xd F w p L d u N) (a:∀ k,F k->F' k) (j:∀ k,F' k->k<w.heap.size):Xd F' w p L d u N:=
 ⟨h.head,⟨h.rest.now,h.rest.kept,h.rest.row,h.rest.many,fun i c v l f=>(h.rest.wait i c v l f).keep a (fun _ _=>rfl) (fun _ _ _ _=>rfl),h.rest.file,h.rest.psn,h.rest.vsn,h.rest.nk,a _ h.rest.fn,a _ h.rest.fk,fun g e=>a g (h.rest.fw g e),fun i b=>a _ (h.rest.fp i b),fun i b g e=>a g (h.rest.fv i b g e)⟩,a _ h.fh,j⟩
theorem Xd.more {L:Lay} (h:Xd F w p L d u N) (b:Below w.heap.size w w'):Xd (Gr F w w') w' p L d u N:=
 (h.keep (fun k a=>b.block k (h.lt k a)) b.size).widen (fun _ a=>.inl a) (Gr.lt b.size h.lt)
theorem ZyI (h:ZtN m c) {f:Nat} (e:chOf c=some f):f<m:=by
 cases c with
 | give n g=>obtain rfl:=Option.some.inj e;exact h.2
 | move n g x=>obtain rfl:=Option.some.inj e;exact h.2.2.2
 | take n=>cases e
theorem Xd.addFile {L:Lay} (h:Xd F w p L d u N) (z:OkD d):
 Xd (Gr F w (w.alloc (.cells #[.slice none 0 0,.int .i64 0] 117))) (w.alloc (.cells #[.slice none 0 0,.int .i64 0] 117)) p { L with ps:=fun i=>if i=d.files.length then w.heap.size else L.ps i,vs:=fun i=>if i=d.files.length then .slice none 0 0 else L.vs i } { d with files:=d.files++[⟨[],0⟩] } u N:=by
 have E:Below w.heap.size w (w.alloc (.cells #[.slice none 0 0,.int .i64 0] 117)):=(Below.refl _ w).alloc zL _;have B:Bk 117 (w.alloc (.cells #[.slice none 0 0,.int .i64 0] 117)) w.heap.size #[.slice none 0 0,.int .i64 0]:=heap_alloc_new w _;have H:(w.alloc (.cells #[.slice none 0 0,.int .i64 0] 117)).heap.size=w.heap.size+1:=by simp
 obtain⟨W,I⟩:∃ W,W=w.alloc (.cells #[.slice none 0 0,.int .i64 0] 117):=⟨_,rfl⟩;rw[<-I] at E B H ⊢;have q:=h.more E;have b:=q.rest;have K:(d.files++[(⟨[],0⟩:Fl)]).length=d.files.length+1:=by simp
 refine⟨q.head,⟨?_,?_,b.row,b.many,?_,?_,?_,?_,b.nk,b.fn,b.fk,b.fw,?_,?_⟩,q.fh,q.lt⟩
 ·refine b.now.fun fun n _=>?_
  show(look (Qm d) n).map L.ps=(look (Qm d) n).map _
  cases e:look (Qm d) n with
  | none=>rfl
  | some f=>
   have:=(z.dir.mayOf e).2;show some (L.ps f)=some (if f=d.files.length then w.heap.size else L.ps f)
   rw[if_neg (by omega)]
 ·refine b.kept.fun fun n _=>?_
  show(look d.kept n).map L.ps=(look d.kept n).map _
  cases e:look d.kept n with
  | none=>rfl
  | some f=>
   have:=(z.kept.mayOf e).2;show some (L.ps f)=some (if f=d.files.length then w.heap.size else L.ps f)
   rw[if_neg (by omega)]
 ·intro i c v a J
  refine(b.wait i c v a J).keep (fun _ t=>t) (fun f t=>?_) (fun _ _ _ _=>rfl)
  have:=ZyI (z.chs c (List.mem_of_getElem? a)) t;show(if f=d.files.length then w.heap.size else L.ps f)=L.ps f
  rw[if_neg (by omega)]
 ·intro i a
  show ZmQ W (if i=d.files.length then w.heap.size else L.ps i) (if i=d.files.length then .slice none 0 0 else L.vs i) (fl (d.files++[⟨[],0⟩]) i)
  by_cases e:i=d.files.length
  ·rw[if_pos e,if_pos e,e,ZhS]
   exact⟨B,World.ownsRow_nil _ _ _ _⟩
  ·have C:i<d.files.length:=by have:i<(d.files++[(⟨[],0⟩:Fl)]).length:=a;omega
   rw[if_neg e,if_neg e,ZeB C];exact b.file i C
 ·intro i j a A x
  have y:i<(d.files++[(⟨[],0⟩:Fl)]).length:=a;have G:j<(d.files++[(⟨[],0⟩:Fl)]).length:=A;show(if i=d.files.length then w.heap.size else L.ps i)≠(if j=d.files.length then w.heap.size else L.ps j)
  have D:∀ i,i<d.files.length->L.ps i<w.heap.size:=fun i a=>h.lt _ (h.rest.fp i a)
  by_cases m:i=d.files.length
  ·rw[if_pos m,if_neg (by omega)]
   have:=D j (by omega)
   omega
  ·rw[if_neg m]
   by_cases l:j=d.files.length
   ·rw[if_pos l]
    have:=D i (by omega)
    omega
   ·rw[if_neg l]
    exact b.psn i j (by show i<d.files.length;omega) (by show j<d.files.length;omega) x
 ·intro i j a A x g
  have y:i<(d.files++[(⟨[],0⟩:Fl)]).length:=a;have G:j<(d.files++[(⟨[],0⟩:Fl)]).length:=A;show(if i=d.files.length then Value.slice none 0 0 else L.vs i).ownBlock=some g->(if j=d.files.length then Value.slice none 0 0 else L.vs j).ownBlock≠some g
  by_cases m:i=d.files.length
  ·rw[if_pos m]
   intro k
   cases k
  ·rw[if_neg m]
   by_cases l:j=d.files.length
   ·rw[if_pos l]
    intro _ k
    cases k
   ·rw[if_neg l]
    exact b.vsn i j (by show i<d.files.length;omega) (by show j<d.files.length;omega) x g
 ·intro i a
  have y:i<(d.files++[(⟨[],0⟩:Fl)]).length:=a;show Gr F w W (if i=d.files.length then w.heap.size else L.ps i)
  by_cases e:i=d.files.length
  ·rw[if_pos e]
   exact .inr ⟨Nat.le_refl _,by omega⟩
  ·rw[if_neg e]
   exact b.fp i (by show i<d.files.length;omega)
 ·intro i a g
  have y:i<(d.files++[(⟨[],0⟩:Fl)]).length:=a;show(if i=d.files.length then Value.slice none 0 0 else L.vs i).ownBlock=some g->Gr F w W g
  by_cases e:i=d.files.length
  ·rw[if_pos e]
   intro k
   cases k
  ·rw[if_neg e]
   exact b.fv i (by show i<d.files.length;omega) g
theorem ZjG (w:World) (ty:TypeId) (v:Value) (b:List UInt8) (d:Own w 0 v b) (h:Value) (l:List UInt8) (i:Rd w h l)
 (y:b.length+l.length<=70368744177664):
 ∃ v' w',(Builtin.append_ #[53,53] ty #[v,h]).run prog w=.ok v' w'∧Own w' 0 v' (b++l)∧w.grownBy w' v.ownBlock∧(v'.ownBlock=v.ownBlock∨v'.ownBlock=some w.heap.size):=by
 obtain⟨f,g,q,n,j⟩:=info_parts Zlf;obtain⟨ao,cap,rfl,x,z,k,m⟩:=i
 cases ao with
 | none=>
  have u:=k rfl;subst u;have c:l=[]:=List.eq_nil_of_length_eq_zero (by omega)
  subst c;have e:=run_append_owned_none (P:=prog) w 0 53 ty 5 f 1 underlying53 g v b.length (Lib.byteCells b) d;exact⟨v,w,e,by rw[List.append_nil];exact d,⟨rfl,rfl,rfl,Nat.le_refl _,fun _ _ _=>rfl⟩,.inl rfl⟩
 | some a=>
  obtain⟨v',w',e,t,p,_,c⟩:=run_append_own_at (P:=prog) w 0 53 ty 5 f (.int .u8 0) 1 1 underlying53 g q n j rfl (by decide) v b.length (Lib.byteCells b) d a l.length cap (Lib.byteCells l)
   (by rw[Y0,Nat.mul_one]) (Rd.cells m a rfl) (ZaJ l) (by unfold maxLen;omega) (by omega) (Nat.zero_le _)
  exact⟨v',w',e,Own.mk' t (by simp) (by simp[Lib.byteCells]),p,c⟩
theorem ZbO (w:World) {d:Array Oper} {rest:List Oper} {o:Oper} {a:Act} {Q:Exit->Act->World->Prop} (q:o.guard=none) (s x:Operand)
 (u:o.op=.call { callee:=.builtin .append,args:=#[s,x],argTypes:=#[53,53] })
 (v:Value) (b:List UInt8) (i:a.eval s=v) (j:Own w 0 v b) (c:Value) (l:List UInt8) (e:a.eval x=c) (g:Rd w c l)
 (k:b.length+l.length<=70368744177664)
 (h:∀ v' w',Own w' 0 v' (b++l)->w.grownBy w' v.ownBlock->(v'.ownBlock=v.ownBlock∨v'.ownBlock=some w.heap.size)->wpList prog d Q rest (a.put o.dst v') w'):wpList prog d Q (o::rest) a w:=
 wpList_plain q fun _ f=>by
  obtain⟨v',w',t,m,n,p⟩:=ZjG w o.type v b j c l g k;unfold Oper.wp execOp;simp only [u,resolve,invoke,builtin,Sem.run_bind,Sem.run_pure,Result.andThen_ok,map_toArray,map_cons,map_nil,i,e,t];exact f _ _ (h v' w' m n p)
theorem Xd.grow {c:World} {L:Lay} {f:Nat} {x:List UInt8} (h:Xd F w p L d u N) (j:f<d.files.length)
 (v:Own c 0 v' ((fl d.files f).b++x)) (n:w.grownBy c (L.vs f).ownBlock) (hl:v'.ownBlock=(L.vs f).ownBlock∨v'.ownBlock=some w.heap.size):
 Xd (Gr F w c) (c.setCell ⟨L.ps f,0,none⟩ v') p { L with vs:=fun i=>if i=f then v' else L.vs i } { d with files:=Yr d.files f x } u N∧Ql F w (c.setCell ⟨L.ps f,0,none⟩ v'):=by
 have m:=h.rest;have t:=(m.file f j).box
 have D:(L.vs f).ownBlock≠some (L.ps f):=fun e=>by
  obtain⟨A,q⟩:=Dc (m.file f j).own e;exact(t.ne q (by decide)) rfl
 have y:Bk 117 c (L.ps f) #[L.vs f,.int .i64 ((fl d.files f).k:Int)]:=t.keep (n.block _ t.lt (fun e=>D e.symm))
 have z:(c.setCell ⟨L.ps f,0,none⟩ v').heap.size=c.heap.size:=by simp
 refine⟨h.setFile (F':=Gr F w c) j (fun k l E C=>?_) ⟨y.set 0 v',?_⟩ ?_ (fun _ l=>.inl l) (fun g a=>?_) (fun k l=>by rw[z];exact Gr.lt n.size h.lt k l),?_⟩
 ·rw[Below.heap_setCell _ _ _ _ E,n.block k (h.lt k l) (fun e=>C e.symm)]
 ·refine Qh v fun g a=>Below.heap_setCell _ _ _ _ ?_
  obtain⟨A,q⟩:=Dc v a;exact q.ne y (by decide)
 ·rcases hl with hl | hl
  ·exact .inl hl
  ·exact .inr fun g a=>by rw[hl] at a;exact Nat.le_of_eq (Option.some.inj a)
 ·rcases hl with hl | hl
  ·exact .inl (m.fv f j g (by rw[<-hl];exact a))
  ·have B:=(World.ownsRow.lt v g a).2
   rw[hl] at a;obtain rfl:=Option.some.inj a;exact .inr ⟨Nat.le_refl _,B⟩
 ·exact(Ql.ofGrown n fun k e _=>m.fv f j k e).setCell 0 (fun _=>m.fp f j) v'
theorem Bnd.grow (h:Bnd d N T) (f:Nat) (b:List UInt8) (q:Int):Bnd { d with files:=Yr d.files f b,power:=q } (N+1) (T+b.length):=by
 refine⟨by show(Yr d.files f b).length<=_;have:=h.files;simp[Yr];omega,by have:=h.names;show d.kept.length+d.waits.length<=_;omega,fun x a=>?_⟩
 rcases List.mem_or_eq_of_mem_set a with a | rfl
 ·have:=h.bytes x a;omega
 ·simp only [length_append]
  by_cases c:f<d.files.length
  ·have:=h.bytes _ (ZbH c);omega
  ·unfold fl
   rw[List.getD,List.getElem?_eq_none (by omega)]
   simp only [Option.getD_none,List.length_nil];omega
theorem Bnd.fresh (h:Bnd d N T) (n:Int):Bnd (Jd d n) (N+1) T:=by
 refine⟨by show(d.files++[_]).length<=_;have:=h.files;simp;omega,by have:=h.names;show d.kept.length+(d.waits++[_]).length<=_;simp;omega,fun x hx=>?_⟩
 rcases List.mem_append.1 hx with hx | hx
 ·exact h.bytes x hx
 ·rw[List.mem_singleton.1 hx]
  exact Nat.zero_le _
theorem Bnd.mono (h:Bnd d N T) (a:N<=N') (c:T<=T'):Bnd d N' T':=
 ⟨Nat.le_trans h.files a,Nat.le_trans h.names a,fun x b=>Nat.le_trans (h.bytes x b) c⟩
theorem Xd.mono {L:Lay} (h:Xd F w p L d u N) (a:N<=N'):Xd F w p L d u N':=⟨h.head,h.rest.mono a,h.fh,h.lt⟩
theorem Dsk.mono (h:Dsk F w p d N T) (a:N<=N') (f:T<=T'):Dsk F w p d N' T':=by
 obtain⟨L,g,b,c,e⟩:=h;exact⟨L,g.mono a,b,c.mono a f,e⟩
def Zgk (F:Nat->Prop) (w:World) (p:Nat) (d:Dk) (code:Int) (N T:Nat) (e:Ending) (w':World):Prop:=
 e=.returned (.int .i64 code)∧∃ F',Dsk F' w' p d N T∧Ql F w w'∧∀ k,F' k->F k∨w.heap.size<=k
theorem Zgk.same {a:Int} (h:Dsk F w p d N T) (c:N<=N') (e:T<=T'):Zgk F w p d a N' T' (.returned (.int .i64 a)) w:=
 ⟨rfl,F,h.mono c e,Ql.refl _ _,fun _ b=>.inl b⟩
theorem Zgk.drew {a:Int} (h:Dsk F w p d N T) (c:N<=N') (e:T<=T') (q:Nat):Zgk F w p d a N' T' (.returned (.int .i64 a)) (w.drewN q):=
 ⟨rfl,F,(h.below (Xo (Below.refl _ _) q)).mono c e,(Ql.refl _ _).drewN q,fun _ b=>.inl b⟩
theorem Zdf {q:Int} (h:I64 q):I64 (Y5 q):=by
 obtain⟨b,a⟩:=h;unfold Y5 I64;split <;> omega
theorem ZoZ (h:OkD d) {N T:Nat} (a:Bnd d N T) (b:N<=1000000) (c:T<=1000000000):Jb d<=1000000000000000:=by
 have f:=ZwX h a.names a.bytes;have e:N*T<=1000000*1000000000:=Nat.mul_le_mul b c;omega
theorem Zgk.appended {e:Nat->Prop} {d:World} {a:Dk} {c f:Nat} {n:Int} {b:List UInt8} {i:Lay} (j:OkD a) (m:Bnd a c T) (g:I64 a.room∧I64 a.power) (l:look (Qm a) n=some f)
 (h:Xd e d p i (appendTo a f b) ((Jb a:Int)+b.length) c) (u:Ql F w d) (q:∀ k,e k->F k∨w.heap.size<=k) (t:c+1<=N'):Zgk F w p (appendTo a f b) 0 N' (T+b.length) (.returned (.int .i64 0)) d:=by
 refine⟨rfl,e,⟨i,?_,j.appendTo f b,(m.grow f b _).mono t zL,g.1,Zdf g.2⟩,u,q⟩;rw[ZrT j l b];exact h.mono (by omega)
theorem Rd.blockLt (h:Rd w v l):l=[]∨∀ k,v.ownBlock=some k->k<w.heap.size:=by
 obtain⟨ao,cap,rfl,i,j,g,a⟩:=h;rcases a with a | ⟨b,f,rfl,d⟩
 ·exact .inl a
 ·by_cases e:l=[]
  ·exact .inl e
  ·right
   intro k c;obtain rfl:b=k:=by simpa[Value.ownBlock] using c
   exact World.block_lt_of_cell? w ⟨b,f+0,none⟩ (d 0 (List.length_pos_iff.2 e))
theorem Rd.onlyN (h:Rd w v l) {F G:Nat->Prop} {B:Nat} (i:Ql G w w') (g:∀ k,G k->F k∨B<=k) (hv:l=[]∨∀ k,v.ownBlock=some k->¬ F k) (hlt:l=[]∨∀ k,v.ownBlock=some k->k<B):Rd w' v l:=by
 rcases hv with rfl | hv
 ·obtain⟨ao,cap,rfl,a,b,c,e⟩:=h
  exact⟨ao,cap,rfl,a,b,c,.inl rfl⟩
 rcases hlt with rfl | hlt
 ·obtain⟨ao,cap,rfl,a,b,c,e⟩:=h
  exact⟨ao,cap,rfl,a,b,c,.inl rfl⟩
 ·exact h.only i fun k d f=>by
   rcases g k f with hf | hf
   ·exact hv k d hf
   ·have:=hlt k d;omega
theorem Zkj (n:Int) (hn:I64 n) (vb:Value) (b:List UInt8) (w:World) (h:Dsk F w p d N T) (hr:Rd w vb b) (hv:b=[]∨∀ k,vb.ownBlock=some k->¬ F k) (hN:N<=1000000) (hT:T<=1000000000) (bj:b.length<=1000000000):
 Calls prog 52 #[ptr p,.int .i64 n,vb] w fun e w'=>Zgk F w p (Qy d n b).1 (Qy d n b).2 (N+2) (T+b.length) e w':=by
 have HD:=ZZ h;obtain⟨L,h,aI,aA,bg,a0⟩:=h;have H:=ZZ h;have t:=ZZ aI;have av:=ZZ aA;have HI:=ZZ (And.intro bg a0);have aw:=ZZ hr;have bb:=ZZ hr.blockLt;have HV:=ZZ hv;have l:=ZZ (ZmR w h);have E:=ZZ (ZmS n w);have j:=h.rest.now.look hn;obtain⟨⟨c0,c1,Z,-,-,-⟩,-⟩:=h.cells;have be:=ZoZ aI aA hN hT;obtain⟨U,hU⟩:∃ U:Int,U=(Jb d:Int):=⟨_,rfl⟩;have bi:0<=U∧U<=1000000000000000:=by omega
 rw[<-hU] at c1;obtain⟨ao,cap,rfl,-⟩:=hr;obtain⟨R,hR⟩:∃ R,R=d.room:=⟨_,rfl⟩;rw[<-hR] at c0;unfold Qy;rw[<-hU,<-hR];have HU:=ZZ hU;clear hU be hR;clear aI aA a0 hv h;by_cases h0:d.power=0
 ·rw[if_pos h0]
  rw[h0] at l;clear j h0
  go_enter func52,ntmps52
  go_wp2_with fail
  refine l.o.mono ?_;rintro e w' ⟨rfl,rfl⟩;go_wp2;go_ret;exact Zgk.same HD.o (by omega) (by omega)
 rw[if_neg h0];have e0:(d.power != 0)=true:=by simpa using h0
 rw[e0] at l;clear h0 e0
 cases hmn:ZdE n with
 | false=>
  rw[if_pos rfl];rw[hmn] at E;clear j hmn
  go_enter func52,ntmps52
  go_wp2_with fail
  refine l.o.mono ?_;rintro e w' ⟨rfl,rfl⟩
  go_wp2_with fail
  refine E.o.mono ?_;rintro e w' ⟨rfl,rfl⟩;go_wp2;go_ret;exact Zgk.same HD.o (by omega) (by omega)
 | true=>
 rw[if_neg (by simp)]
 have az:=ZZ hmn;rw[hmn] at E;clear hmn;by_cases ah:U+(b.length:Int)>R
 ·rw[if_pos ah]
  clear j
  go_enter func52,ntmps52
  go_wp2_with fail
  refine l.o.mono ?_;rintro e w' ⟨rfl,rfl⟩
  go_wp2_with fail
  refine E.o.mono ?_;rintro e w' ⟨rfl,rfl⟩
  go_upto_region 5 with fail
  go_quiet(fail)
  go_wp2;go_ret;exact Zgk.drew HD.o (by omega) (by omega) _
 rw[if_neg ah];have a6:decide (U+(b.length:Int)>R)=false:=decide_eq_false ah;have bh:U+(b.length:Int)<=R:=by omega
 cases ho:look (Qm d) n with
 | some f=>
  clear j
  dsimp only
  have aa:=ZZ ho;clear ho
  go_enter func52,ntmps52
  go_wp2_with fail
  refine l.o.mono ?_;rintro e w' ⟨rfl,rfl⟩
  go_wp2_with fail
  refine E.o.mono ?_;rintro e w' ⟨rfl,rfl⟩
  go_upto_region 5 with fail
  go_cut[17] (fun v wc=>v=.bool false∧Hid (∃ q,wc=w'.drewN q))
  case first=>
   go_quiet(fail)
   go_wp2
   go_meet
   exact⟨rfl,ZZ ⟨_,rfl⟩⟩
  case rest=>
   obtain⟨W,rfl⟩:∃ W,W=wc:=⟨_,rfl⟩;obtain⟨rfl,hw⟩:=hcut;obtain⟨w,rfl⟩:∃ w0,w0=w':=⟨_,rfl⟩;obtain⟨q,D⟩:=hw.out;have z:Hid (Xd F W p L d U N):=ZZ (by rw[D,HU.o];exact H.out.keep (fun _ _=>rfl) zL)
   have ab:Hid (Ql F w W):=ZZ (by rw[D];exact(Ql.refl _ _).drewN q)
   have aj:Hid (Rd W (.slice ao b.length cap) b):=ZZ (by rw[D];exact aw.o.below (Xo (Below.refl _ _) q) zL)
   clear hw D c0 c1 Z ah a6 H aw l E HD;obtain⟨⟨-,-,Z,-,-,-⟩,-⟩:=z.o.cells;have j:=z.o.rest.now.look hn;rw[aa.o] at j;have aT:(Instr.lookup 65 (.map (some L.now)) (.int .i64 n) true).run prog W=.ok (.tuple #[.pointer (some ⟨L.ps f,0,none⟩),.bool true]) W:=j;have hf:f<d.files.length:=(t.o.dir.mayOf aa.o).2;have aF:=aa;have g:=z;have aD:=HU;have aP:=t;have af:=av;have ac:=HI;have u:Hid (∀ k,F k->F k∨w.heap.size<=k):=ZZ (fun k hk=>.inl hk)
   have Q:=ab;have aK:=aj;clear j z ab aj
   go_upto_region 11 with fail
   clear aT Z;obtain⟨g0,y0⟩:=(g.o.rest.file f hf).box.cell 0 rfl;have ae:=ZZ (g.o.rest.file f hf).own;have K:=ZZ (g.o.rest.file f hf).box;obtain⟨va,vc,P⟩:=(g.o.rest.file f hf).own.shape;rw[P] at g0;have am:=ZZ P;have aW:Hid ((fl d.files f).b.length+b.length<=70368744177664):=ZZ (by have:=af.o.bytes _ (ZbH hf);omega)
   clear P
   go_wp2_with(at_builtin;refine(fun(h:True->_)=>h trivial) ?_)
   intro _;rw[<-am.o];refine ZbO W rfl _ _ rfl (L.vs f) _ rfl ae.o _ b rfl aK.o aW.o ?_;intro v' w2 X S al;obtain⟨ap,ag⟩:=g.o.grow hf X S al;have y:=ZZ ap;have V:=ZZ ag
   have aq:(L.vs f).ownBlock≠some (L.ps f):=fun e=>by
    obtain⟨bc,aQ⟩:=Dc ae.o e;exact(K.out.ne aQ (by decide)) rfl
   obtain⟨g2,y2⟩:=(K.out.keep (S.block _ K.out.lt (fun e=>aq e.symm))).cell 0 rfl
   rw[am.o] at g2;obtain⟨aN,aM,ai⟩:=X.shape;rw[ai] at y V ⊢;obtain⟨O,Y⟩:∃ O,O=w2.setCell ⟨L.ps f,0,none⟩ (.slice aN ((fl d.files f).b++b).length aM):=⟨_,rfl⟩;have J:=ZZ Y;obtain⟨M,I⟩:∃ M,M=((fl d.files f).b++b).length:=⟨_,rfl⟩;rw[<-Y] at y V;rw[<-I];rw[<-I] at J;clear X S al ap ag aq ai Y I g0 y0
   go_upto_region 12 with fail
   rw[<-J.o];clear J g2 y2;obtain⟨⟨-,k1,-,-,-,-⟩,j1,-⟩:=y.o.cells;obtain⟨C,A⟩:∃ C,C=O.setCell ⟨p,1,none⟩ (.int .i64 (U+(b.length:Int))):=⟨_,rfl⟩;have an:=ZZ (y.o.setHead 1 (.int .i64 (U+(b.length:Int))) (d':={ d with files:=Yr d.files f b }) (u':=U+(b.length:Int)) ⟨rfl,rfl,rfl⟩ rfl)
   have aJ:Hid (Ql F w C):=ZZ (by
    rw[A]
    exact(Q.o.trans V.o (fun k hk hf=>(u.o k hf).resolve_right (by omega))).setCell 1 (fun bd=>((u.o p g.o.fh).resolve_right (by omega))) _)
   rw[<-A] at an;have ad:=ZZ A;clear A
   go_upto_region 13 with fail
   rw[<-ad.o];clear ad k1 j1
   go_wp2_with fail
   refine(Zcc C an.o ac.o.2).mono ?_;rintro e W5 ⟨rfl,aO,aB⟩;go_wp2;go_ret;refine Zgk.appended aP.o af.o ac.o aF.o (by rw[<-aD.o];exact aO) ((aJ.o.trans aB (fun k hk hf=>?_))) (fun k hk=>?_) (by omega)
   ·rcases hf with hf | hf
    ·exact(u.o k hf).resolve_right (by omega)
    ·have:=Q.o.size;omega
   ·rcases hk with hk | hk
    ·exact u.o k hk
    ·have:=Q.o.size;exact .inr (by omega)
 | none=>
  clear j
  dsimp only
  have aa:=ZZ ho;clear ho
  go_enter func52,ntmps52
  go_wp2_with fail
  refine l.o.mono ?_;rintro e w' ⟨rfl,rfl⟩
  go_wp2_with fail
  refine E.o.mono ?_;rintro e w' ⟨rfl,rfl⟩
  go_upto_region 5 with fail
  go_cut[17] (fun v wc=>v=.bool false∧Hid (∃ q,wc=w'.drewN q))
  case first=>
   go_quiet(fail)
   go_wp2
   go_meet
   exact⟨rfl,ZZ ⟨_,rfl⟩⟩
  case rest=>
   obtain⟨W,rfl⟩:∃ W,W=wc:=⟨_,rfl⟩;obtain⟨rfl,hw⟩:=hcut;obtain⟨w,rfl⟩:∃ w0,w0=w':=⟨_,rfl⟩;obtain⟨q,D⟩:=hw.out;have z:Hid (Xd F W p L d U N):=ZZ (by rw[D,HU.o];exact H.out.keep (fun _ _=>rfl) zL)
   have ab:Hid (Ql F w W):=ZZ (by rw[D];exact(Ql.refl _ _).drewN q)
   have aj:Hid (Rd W (.slice ao b.length cap) b):=ZZ (by rw[D];exact aw.o.below (Xo (Below.refl _ _) q) zL)
   clear hw D c0 c1 Z ah a6 H aw l E HD;obtain⟨⟨-,-,Z,-,-,-⟩,-⟩:=z.o.cells;have j:=z.o.rest.now.look hn;rw[aa.o] at j;have aT:(Instr.lookup 65 (.map (some L.now)) (.int .i64 n) true).run prog W=.ok (.tuple #[.pointer none,.bool false]) W:=j;have aV:=ZZ (z.o.addFile t.o);have aU:=ZZ (ab.o.alloc (.cells #[.slice none 0 0,.int .i64 0] 117));have aC:Hid (Rd (W.alloc (.cells #[.slice none 0 0,.int .i64 0] 117)) (.slice ao b.length cap) b):=ZZ (aj.o.below ((Below.refl _ _).alloc zL _) zL);have a5:Hid (w.heap.size<=W.heap.size):=ZZ ab.o.size;have aL:Hid (W.heap.size<(W.alloc (.cells #[.slice none 0 0,.int .i64 0] 117)).heap.size):=ZZ (by simp)
   obtain⟨a,aG⟩:∃ a,a=W.alloc (.cells #[.slice none 0 0,.int .i64 0] 117):=⟨_,rfl⟩;rw[<-aG] at aV aU aC aL;have aY:=ZZ aG;have l:=aa;clear aG j
   go_upto_region 10 with fail
   rw[<-aY.o];clear aY aT Z
   go_wp2_with fail
   refine(ZwV n W.heap.size a).mono ?_;rintro e m ⟨rfl,ak⟩;have ay:Below a.heap.size a m:=by rw[ak];exact((Below.refl _ _).alloc zL _).alloc (by simp) _
   have bf:m.heap.size=a.heap.size+1+1:=by rw[ak];simp
   have a8:Bk 3 m a.heap.size #[.int .i64 n]:=by rw[ak];exact(Below.heap_alloc _ _ _ (by simp)).trans (heap_alloc_new a _)
   have a1:Bk 115 m (a.heap.size+1) #[ptr W.heap.size]:=by
    have e1:a.heap.size+1=(a.alloc (.cells #[.int .i64 n] 3)).heap.size:=by simp
    rw[ak,e1];exact heap_alloc_new _ _
   have ax:=ZZ (aV.o.more ay);obtain⟨FB,ar⟩:∃ FB,FB=Gr (Gr F W a) a m:=⟨_,rfl⟩;rw[<-ar] at ax;obtain⟨LB,aE⟩:∃ LB:Lay,LB={ L with ps:=fun i=>if i=d.files.length then W.heap.size else L.ps i,vs:=fun i=>if i=d.files.length then .slice none 0 0 else L.vs i }:=⟨_,rfl⟩
   have aR:LB.ps d.files.length=W.heap.size:=by rw[aE];exact if_pos rfl
   rw[<-aE] at ax;have a3:Hid (ChV FB m LB.ps (.give n d.files.length) (.func (.func 139) #[] #[ptr (a.heap.size+1),ptr a.heap.size])):=ZZ ⟨_,_,rfl,a8,by rw[aR];exact a1,by rw[ar];exact .inr ⟨Nat.le_refl _,by omega⟩,by rw[ar];exact .inr ⟨by omega,by omega⟩⟩
   have au:Hid (∀ k,FB k->F k∨w.heap.size<=k):=ZZ (fun k hk=>by
    rw[ar] at hk;have h1:=a5.o;have h2:=aL.o;rcases hk with (hk | hk) | hk
    ·exact .inl hk
    ·exact .inr (by omega)
    ·exact .inr (by omega))
   have aS:Hid (Ql F w m):=ZZ (aU.o.trans (G:=fun _=>False) (Ql.ofBelow ay) (fun _ _ hf=>hf.elim))
   have a9:Hid (Rd m (.slice ao b.length cap) b):=ZZ (aC.o.below ay zL);have aZ:=ZZ aR
   have a2:Hid (OkD { d with files:=d.files++[⟨[],0⟩] }):=ZZ ⟨fun k=>(t.o.dirs k).more (by simp),fun c hc=>(t.o.chs c hc).more (by simp),fun x hx=>by
    rcases List.mem_append.1 hx with hx | hx
    ·exact t.o.keep x hx
    ·rw[List.mem_singleton.1 hx];exact Nat.le_refl _⟩
   have a7:=ZZ (ZhP m ax.o a3.o a2.o ⟨az.o,by simp⟩ hN (by have:=av.o.names;show d.waits.length<=1000000;omega))
   clear ay bf a8 a1 ar aE aR ak
   go_wp2_with fail
   refine a7.o.mono ?_;rintro e WC ⟨rfl,LC,aX,ba,-,aH⟩;have aF:Hid (look (Qm (Jd d n)) n=some d.files.length):=ZZ (Zru t.o n);have g:Hid (Xd (Gr FB m WC) WC p LC (Jd d n) U (N+1)):=ZZ aX;have aD:Hid (U=(Jb (Jd d n):Int)):=ZZ (by rw[ZoX t.o l.o];exact HU.o)
   have aP:Hid (OkD (Jd d n)):=ZZ (t.o.fresh az.o);have af:Hid (Bnd (Jd d n) (N+1) T):=ZZ (av.o.fresh n);have ac:Hid (I64 (Jd d n).room∧I64 (Jd d n).power):=ZZ HI.o
   have u:Hid (∀ k,Gr FB m WC k->F k∨w.heap.size<=k):=ZZ (fun k hk=>by
    rcases hk with hk | hk
    ·exact au.o k hk
    ·have:=aS.o.size;exact .inr (by omega))
   have Q:Hid (Ql F w WC):=ZZ (aS.o.trans aH (fun k hk hf=>(au.o k hf).resolve_right (by omega)))
   have aK:Hid (Rd WC (.slice ao b.length cap) b):=ZZ (a9.o.onlyN (B:=w.heap.size) aH au.o HV.o bb.o);have hf:d.files.length<(Jd d n).files.length:=by simp[Jd]
   have a4:LC.ps d.files.length=W.heap.size:=by rw[ba];exact aZ.o
   rw[<-a4];clear aX ba aH a4 a7 a3 ax au aS a9 aZ a2 aV aU aC a5 aL l z ab aj t av HI HU hn az
   go_upto_region 11 with fail
   obtain⟨g0,y0⟩:=(g.o.rest.file d.files.length hf).box.cell 0 rfl;have ae:=ZZ (g.o.rest.file d.files.length hf).own;have K:=ZZ (g.o.rest.file d.files.length hf).box;obtain⟨va,vc,P⟩:=(g.o.rest.file d.files.length hf).own.shape;rw[P] at g0;have am:=ZZ P;have aW:Hid ((fl (Jd d n).files d.files.length).b.length+b.length<=70368744177664):=ZZ (by have:=af.o.bytes _ (ZbH hf);omega)
   clear P
   go_wp2_with(at_builtin;refine(fun(h:True->_)=>h trivial) ?_)
   intro _;rw[<-am.o];refine ZbO WC rfl _ _ rfl (LC.vs d.files.length) _ rfl ae.o _ b rfl aK.o aW.o ?_;intro v' w2 X S al;obtain⟨ap,ag⟩:=g.o.grow hf X S al;have y:=ZZ ap;have V:=ZZ ag
   have aq:(LC.vs d.files.length).ownBlock≠some (LC.ps d.files.length):=fun e=>by
    obtain⟨bc,aQ⟩:=Dc ae.o e;exact(K.out.ne aQ (by decide)) rfl
   obtain⟨g2,y2⟩:=(K.out.keep (S.block _ K.out.lt (fun e=>aq e.symm))).cell 0 rfl
   rw[am.o] at g2;obtain⟨aN,aM,ai⟩:=X.shape;rw[ai] at y V ⊢;obtain⟨O,Y⟩:∃ O,O=w2.setCell ⟨LC.ps d.files.length,0,none⟩ (.slice aN ((fl (Jd d n).files d.files.length).b++b).length aM):=⟨_,rfl⟩;have J:=ZZ Y;obtain⟨M,I⟩:∃ M,M=((fl (Jd d n).files d.files.length).b++b).length:=⟨_,rfl⟩;rw[<-Y] at y V;rw[<-I];rw[<-I] at J;clear X S al ap ag aq ai Y I g0 y0
   go_upto_region 12 with fail
   rw[<-J.o];clear J g2 y2;obtain⟨⟨-,k1,-,-,-,-⟩,j1,-⟩:=y.o.cells;obtain⟨C,A⟩:∃ C,C=O.setCell ⟨p,1,none⟩ (.int .i64 (U+(b.length:Int))):=⟨_,rfl⟩;have an:=ZZ (y.o.setHead 1 (.int .i64 (U+(b.length:Int))) (d':={ (Jd d n) with files:=Yr (Jd d n).files d.files.length b }) (u':=U+(b.length:Int)) ⟨rfl,rfl,rfl⟩ rfl)
   have aJ:Hid (Ql F w C):=ZZ (by
    rw[A]
    exact(Q.o.trans V.o (fun k hk hf=>(u.o k hf).resolve_right (by omega))).setCell 1 (fun bd=>((u.o p g.o.fh).resolve_right (by omega))) _)
   rw[<-A] at an;have ad:=ZZ A;clear A
   go_upto_region 13 with fail
   rw[<-ad.o];clear ad k1 j1
   go_wp2_with fail
   refine(Zcc C an.o ac.o.2).mono ?_;rintro e W5 ⟨rfl,aO,aB⟩;go_wp2;go_ret;refine Zgk.appended aP.o af.o ac.o aF.o (by rw[<-aD.o];exact aO) ((aJ.o.trans aB (fun k hk hf=>?_))) (fun k hk=>?_) (by omega)
   ·rcases hf with hf | hf
    ·exact(u.o k hf).resolve_right (by omega)
    ·have:=Q.o.size;omega
   ·rcases hk with hk | hk
    ·exact u.o k hk
    ·have:=Q.o.size;exact .inr (by omega)
theorem Own.nil (w:World) (B:Nat):Own w B (.slice none 0 0) []:=World.ownsRow_nil w B 5 1
theorem Zls (w:World) (ty:TypeId) (B:Nat) (v:Value) (b:List UInt8) (c:Own w B v b) (h:Value) (l:List UInt8) (m:Rd w h l)
 (C:b.length+l.length<=70368744177664) (g:B<=w.heap.size):
 ∃ v' w',(Builtin.append_ #[53,53] ty #[v,h]).run prog w=.ok v' w'∧Own w' B v' (b++l)∧Below B w w':=by
 obtain⟨e,f,x,t,n⟩:=info_parts Zlf;obtain⟨ao,cap,rfl,A,D,p,q⟩:=m
 cases ao with
 | none=>
  have z:=p rfl;subst z;have j:l=[]:=List.eq_nil_of_length_eq_zero (by omega)
  subst j;have d:=run_append_owned_none (P:=prog) w B 53 ty 5 e 1 underlying53 f v b.length (Lib.byteCells b) c;exact⟨v,w,d,by rw[List.append_nil];exact c,Below.refl _ _⟩
 | some a=>
  obtain⟨v',w',d,y,u,_⟩:=run_append_own (P:=prog) w B 53 ty 5 e (.int .u8 0) 1 1 underlying53 f x t n rfl (by decide) v b.length (Lib.byteCells b) c a l.length cap (Lib.byteCells l)
   (by rw[Y0,Nat.mul_one]) (Rd.cells q a rfl) (ZaJ l) (by unfold maxLen;omega) (by omega) g
  refine⟨v',w',d,Own.mk' y (by simp) (by simp[Lib.byteCells]),?_⟩
  exact(Below.refl _ _).grown u g (fun k i=>(World.ownsRow.lt c k i).1)
theorem ZmZ {o:Oper} {a:Act} {K:Act->World->Prop} {Q:Exit->Act->World->Prop} (w:World) (s x:Operand)
 (p:o.op=.call { callee:=.builtin .append,args:=#[s,x],argTypes:=#[53,53] })
 (B:Nat) (v:Value) (b:List UInt8) (f:a.eval s=v) (g:Own w B v b) (c:Value) (l:List UInt8) (d:a.eval x=c) (e:Rd w c l)
 (i:b.length+l.length<=70368744177664) (n:B<=w.heap.size)
 (h:∀ v' w',Own w' B v' (b++l)->Below B w w'->K (a.put o.dst v') w'):o.wp prog a w K Q:=by
 obtain⟨v',w',m,j,k⟩:=Zls w o.type B v b g c l e i n;unfold Oper.wp execOp;simp only [p,resolve,invoke,builtin,Sem.run_bind,Sem.run_pure,Result.andThen_ok,map_toArray,map_cons,map_nil,f,d,m];exact h v' w' j k
theorem Xw (w:World) {d:Array Oper} {rest:List Oper} {o:Oper} {a:Act} {Q:Exit->Act->World->Prop} (p:o.guard=none) (s x:Operand)
 (t:o.op=.call { callee:=.builtin .append,args:=#[s,x],argTypes:=#[53,53] })
 (B:Nat) (v:Value) (b:List UInt8) (i:a.eval s=v) (j:Own w B v b) (c:Value) (l:List UInt8) (e:a.eval x=c) (g:Rd w c l)
 (k:b.length+l.length<=70368744177664) (q:B<=w.heap.size)
 (h:∀ v' w',Own w' B v' (b++l)->Below B w w'->wpList prog d Q rest (a.put o.dst v') w'):wpList prog d Q (o::rest) a w:=
 wpList_plain p fun _ f=>ZmZ w s x t B v b i j c l e g k q fun v' w' m n=>f _ _ (h v' w' m n)
end Go.Proofs.YtnahjngbneicaaaGreatDoor
