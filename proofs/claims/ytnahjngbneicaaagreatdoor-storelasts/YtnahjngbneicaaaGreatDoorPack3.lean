import Derived.Test.YtnahjngbneicaaaGreatDoorPack1
import Derived.Shelf.SlMaps.Clone
import Derived.Shelf.SlMaps.Copy
import Derived.Shelf.Sort.Plain
import Derived.Shelf.Slices.In.SortNone
import Derived.Deep.RegionLaw
namespace Go.Proofs.YtnahjngbneicaaaGreatDoor
open _root_.Go.Proofs.Tryz
open List (foldl_append length_append map_cons map_nil map_toArray)
set_option maxHeartbeats 2000000
set_option maxRecDepth 100000
open Go.RowKit Go.Shelf
variable {B N N' T T' b base m n p s x:Nat} {v v':Value} {f:Int->Option Nat} {a w w':World} {F F' G:Nat->Prop} {c:Ch} {l:List UInt8} {t:TypeId} {cs:Array Value} {d:Dk} {xs:List Value} {u:Int} {fs:List Fl}
abbrev zba:=@Go.heap_setCell_same
abbrev zbt:=@List.length_take
abbrev zb9:=@List.length_cons
abbrev zch:=@Nat.mul_one
abbrev zcr:=@List.length_nil
abbrev zcx:=@List.append_nil
abbrev zc5:=@Go.run_append_owned_none
abbrev zdi:=@Nat.le_succ
abbrev zek:=@Bool.false_eq_true
abbrev zev:=@Go.run_underlying
abbrev ze9:=@Go.Maps.keyOf_int_mk
abbrev zfc:=@List.take_take
abbrev zfu:=@List.getElem?_append
abbrev zfv:=@Nat.mul_le_mul_right
abbrev zf5:=@Nat.mul_le_mul
def ZwO:Go.Shelf.Ren:=⟨fun | 5=>145 | 7=>192 | n=>n,fun | 23=>65 | 25=>3 | 3=>115 | 4=>4 | 20=>20 | n=>n,fun | n=>n⟩
theorem layW:Go.Proofs.SlLaysW.n5 prog ZwO:={
 mixed:=by kernel_rfl
 f5:=⟨f145.name,by decide,func145.trans (congrArg some (by kernel_rfl))⟩
 f7:=func192.trans (congrArg some (by kernel_rfl))
 t4:=underlying4
 a4:=Tryz.isAgg4
 z4:=Tryz.sizeOf4
 v4:=Tryz.zeroValue4
 t20:=underlying20
 a20:=Tryz.isAgg20
 z20:=Tryz.sizeOf20
 v20:=Tryz.zeroValue20
 t23:=underlying65
 a23:=Tryz.isAgg65
 z23:=Tryz.sizeOf65
 v23:=Tryz.zeroValue65 }
def ZwP:Go.Shelf.Ren:=⟨fun | 5=>73 | n=>n,fun | 23=>65 | 24=>65 | 26=>3 | 27=>115 | 0=>0 | 4=>4 | n=>n,fun | n=>n⟩
theorem layX:Go.Proofs.SlLaysX.n5 prog ZwP:={
 mixed:=by kernel_rfl
 f5:=⟨f73.name,by decide,func73.trans (congrArg some (by kernel_rfl))⟩
 t0:=underlying0
 a0:=Tryz.isAgg0
 z0:=Tryz.sizeOf0
 v0:=Tryz.zeroValue0
 t4:=underlying4
 a4:=Tryz.isAgg4
 z4:=Tryz.sizeOf4
 v4:=Tryz.zeroValue4
 t23:=underlying65
 a23:=Tryz.isAgg65
 z23:=Tryz.sizeOf65
 v23:=Tryz.zeroValue65
 t24:=underlying65
 a24:=Tryz.isAgg65
 z24:=Tryz.sizeOf65
 v24:=Tryz.zeroValue65
 a26:=Tryz.isAgg3
 z26:=Tryz.sizeOf3
 a27:=Tryz.isAgg115
 z27:=Tryz.sizeOf115 }
def ZwQ:Go.Shelf.Ren:=⟨fun | 189=>67 | 125=>109 | 257=>108 | 128=>155 | 129=>156 | 294=>146 | 295=>147 | 296=>148 | 297=>149 | 298=>150 | 299=>151 | 216=>152 | 300=>153 | 301=>154 | 328=>193 | 329=>194 | 330=>195 | 331=>196 | 332=>197 | 215=>198 | 343=>216 | n=>n,fun | 28=>23 | 3=>3 | 46=>157 | 0=>0 | 51=>145 | 53=>202 | 4=>4 | 183=>194 | 182=>193 | 131=>170 | 5=>5 | 9=>9 | 218=>239 | 222=>208 | 228=>268 | 229=>247 | n=>n,fun | n=>n⟩
theorem ZAj:Go.Proofs.Lays.n189 prog ZwQ:={
 mixed:=by kernel_rfl
 f125:=func109.trans (congrArg some (by kernel_rfl))
 f128:=func155.trans (congrArg some (by kernel_rfl))
 f129:=func156.trans (congrArg some (by kernel_rfl))
 f189:=func67.trans (congrArg some (by kernel_rfl))
 f215:=func198.trans (congrArg some (by kernel_rfl))
 f216:=func152.trans (congrArg some (by kernel_rfl))
 f257:=func108.trans (congrArg some (by kernel_rfl))
 f294:=func146.trans (congrArg some (by kernel_rfl))
 f295:=func147.trans (congrArg some (by kernel_rfl))
 f296:=func148.trans (congrArg some (by kernel_rfl))
 f297:=func149.trans (congrArg some (by kernel_rfl))
 f298:=func150.trans (congrArg some (by kernel_rfl))
 f299:=func151.trans (congrArg some (by kernel_rfl))
 f300:=func153.trans (congrArg some (by kernel_rfl))
 f301:=func154.trans (congrArg some (by kernel_rfl))
 f328:=func193.trans (congrArg some (by kernel_rfl))
 f329:=func194.trans (congrArg some (by kernel_rfl))
 f330:=func195.trans (congrArg some (by kernel_rfl))
 f331:=func196.trans (congrArg some (by kernel_rfl))
 f332:=func197.trans (congrArg some (by kernel_rfl))
 f343:=func216.trans (congrArg some (by kernel_rfl))
 t0:=underlying0
 a0:=Tryz.isAgg0
 z0:=Tryz.sizeOf0
 v0:=Tryz.zeroValue0
 t3:=underlying3
 a3:=Tryz.isAgg3
 z3:=Tryz.sizeOf3
 v3:=Tryz.zeroValue3
 t4:=underlying4
 a4:=Tryz.isAgg4
 z4:=Tryz.sizeOf4
 v4:=Tryz.zeroValue4
 t5:=underlying5
 a5:=Tryz.isAgg5
 z5:=Tryz.sizeOf5
 v5:=Tryz.zeroValue5
 t9:=underlying9
 a9:=Tryz.isAgg9
 z9:=Tryz.sizeOf9
 v9:=Tryz.zeroValue9
 t28:=underlying23
 a28:=Tryz.isAgg23
 z28:=Tryz.sizeOf23
 v28:=Tryz.zeroValue23
 t46:=underlying157
 a46:=Tryz.isAgg157
 z46:=Tryz.sizeOf157
 v46:=Tryz.zeroValue157
 t51:=underlying145
 a51:=Tryz.isAgg145
 z51:=Tryz.sizeOf145
 v51:=Tryz.zeroValue145
 t53:=underlying202
 a53:=Tryz.isAgg202
 z53:=Tryz.sizeOf202
 v53:=Tryz.zeroValue202
 t131:=underlying170
 a131:=Tryz.isAgg170
 z131:=Tryz.sizeOf170
 v131:=Tryz.zeroValue170
 t182:=underlying193
 a182:=Tryz.isAgg193
 z182:=Tryz.sizeOf193
 v182:=Tryz.zeroValue193
 t183:=underlying194
 a183:=Tryz.isAgg194
 z183:=Tryz.sizeOf194
 v183:=Tryz.zeroValue194
 t218:=underlying239
 a218:=Tryz.isAgg239
 z218:=Tryz.sizeOf239
 v218:=Tryz.zeroValue239
 t222:=underlying208
 a222:=Tryz.isAgg208
 z222:=Tryz.sizeOf208
 v222:=Tryz.zeroValue208
 t228:=underlying268
 a228:=Tryz.isAgg268
 z228:=Tryz.sizeOf268
 v228:=Tryz.zeroValue268
 t229:=underlying247
 a229:=Tryz.isAgg247
 z229:=Tryz.sizeOf247
 v229:=Tryz.zeroValue247 }
open Go.RowKit Go.Maps Go.Shelf
open Go.ChangeMaps Go.MapKept
open Go.WideElems (Fit rd rg pl rd_val elemAt)
theorem ZbC:Keyed prog 3:=int_keyed underlying3
theorem Zun (w:World):(zeroValue 115).run prog w=.ok (.pointer none) w:=by kernel_rfl
theorem ZwR {n:Int} (h:I64 n):(Lit.int .i64 n).wf=true:=WalkArith.wf_i64 (by obtain⟨b,a⟩:=h;omega)
def ZaF (v:Value):Option (DataW Unit × List MemPlace):=
 match v with
 | .pointer (some ⟨b,0,none⟩)=>some (.lit (.int .i64 (b:Int)),[])
 | _=>none
theorem ZrQ (b:Nat):ZaF (.pointer (some ⟨b,0,none⟩))=some (.lit (.int .i64 (b:Int)),[]):=rfl
theorem ZdN {z:DataW Unit × List MemPlace} (h:ZaF v=some z):∃ b:Nat,v=.pointer (some ⟨b,0,none⟩)∧z=(.lit (.int .i64 (b:Int)),[]):=by
 unfold ZaF at h;split at h
 ·cases h
  exact⟨_,rfl,rfl⟩
 ·cases h
def ZAk (z:DataW Unit):Option Nat->DataW Unit
 | some x=>.lit (.int .i64 (x:Int))
 | none=>z
def Zuo (D:DataW Unit) (f:Int->Option Nat):Prop:=
 ∀ p,I64 p->∀ z,D.atKey (.int .i64 p) z=ZAk z (f p)
def Yj (w:World) (b n:Nat) (f:Int->Option Nat):Prop:=
 ∃ D:DataW Unit,w.ownsMap prog 3 ZaF b n D∧Zuo D f
def ZqL:Option Nat->Value
 | some x=>.pointer (some ⟨x,0,none⟩)
 | none=>.pointer none
theorem Zuo.has {D:DataW Unit} (h:Zuo D f) {p:Int} (a:I64 p):Maps.has D (.int .i64 p)=(f p).isSome:=by
 cases e:f p with
 | none=>
  refine has_false_of_atKey fun z=>?_
  rw[h p a z,e];rfl
 | some x=>
  refine has_true_of_atKey (y:=.lit (.int .i64 (x:Int))) fun z=>?_
  rw[h p a z,e];rfl
theorem Yj.made (w:World):Yj (w.alloc (.map #[] 0)) w.heap.size 0 (fun _=>none):=
 ⟨.map [],World.ownsMap_made _ _ _ _,fun _ _ _=>rfl⟩
theorem Yj.lt (h:Yj w b n f):b<w.heap.size:=by
 obtain⟨D,a,_⟩:=h;exact a.lt
theorem Yj.mono {n':Nat} (h:Yj w b n f) (a:n<=n'):Yj w b n' f:=by
 obtain⟨D,c,d⟩:=h;exact⟨D,c.mono a,d⟩
theorem Yj.keep (h:Yj w b n f) (a:w'.heap[b]?=w.heap[b]?):Yj w' b n f:=by
 obtain⟨D,⟨c,g,d,r⟩,e⟩:=h;exact⟨D,⟨c,g,a.trans d,r⟩,e⟩
theorem Yj.fun {g:Int->Option Nat} (h:Yj w b n f) (e:∀ p,I64 p->f p=g p):Yj w b n g:=by
 obtain⟨D,c,d⟩:=h;exact⟨D,c,fun p a z=>by rw[d p a z,e p a]⟩
theorem Yj.apart (h:Yj w b n f) {cs:Array Value} {t:TypeId} {z:Nat × Nat} {g:Nat} (a:w.heap[g]?=some (.cells cs t z)):g≠b:=by
 obtain⟨D,⟨d,i,c,_⟩,_⟩:=h;intro e;rw[e,c] at a
 cases a
theorem Zup (h:∀ z:DataW Unit,DataW.lit (.int .i64 (x:Int))=z):False:=by
 have:=h (.map [])
 cases this
theorem ZwS {y:Nat} (h:DataW.lit (H:=Unit) (.int .i64 (x:Int))=.lit (.int .i64 (y:Int))):x=y:=by
 simp only [DataW.lit.injEq,Lit.int.injEq,true_and] at h;omega
theorem Yj.lookC (h:Yj w b n f) {p:Int} (g:I64 p) (c:Bool):(Instr.lookup 65 (.map (some b)) (.int .i64 p) c).run prog w=.ok (if c then .tuple #[ZqL (f p),.bool (f p).isSome] else ZqL (f p)) w:=by
 obtain⟨D,⟨q,t,m,F,_,rfl⟩,i⟩:=h;rcases Maps.fit_look c ZbC underlying65 (Zun w) m F (ze9 underlying3 (ZwR g)) with ⟨j,_,d⟩ | ⟨u,y,_,_,j,k,d,_⟩
 ·have e:f p=none:=by
   cases e:f p with
   | none=>rfl
   | some x=>
    refine(Zup (x:=x) fun z=>?_).elim
    rw[<-d z,i p g z,e];rfl
  rw[j,e];rfl
 ·obtain⟨x,l,rfl⟩:=ZdN k
  have e:f p=some x:=by
   cases e:f p with
   | none=>
    refine(Zup (x:=x) fun z=>?_).elim
    have a:=d z;rw[i p g z,e] at a;exact a.symm
   | some x'=>
    have a:=d (.map []);rw[i p g,e] at a;rw[ZwS a]
  rw[j,e,l];rfl
theorem Yj.look (h:Yj w b n f) {p:Int} (a:I64 p):(Instr.lookup 65 (.map (some b)) (.int .i64 p) true).run prog w=.ok (.tuple #[ZqL (f p),.bool (f p).isSome]) w:=h.lookC a true
theorem Yj.look1 (h:Yj w b n f) {p:Int} (a:I64 p):(Instr.lookup 65 (.map (some b)) (.int .i64 p) false).run prog w=.ok (ZqL (f p)) w:=h.lookC a false
theorem Yj.put (h:Yj w b n f) {p:Int} (x:Nat) (k:I64 p) (v:n<=10000000):
 ∃ w',(Instr.mapUpdate 65 (.map (some b)) (.int .i64 p) (.pointer (some ⟨x,0,none⟩))).run prog w=.ok () w'∧Yj w' b (n+1) (fun m=>if m=p then some x else f m)∧w.grownBy w' (some b):=by
 obtain⟨D,a,d⟩:=h;have l:IsMap D:=by obtain⟨u,A,y,F,B,g⟩:=a;exact⟨_,g⟩
 obtain⟨w',i,j,c⟩:=a.update ZbC underlying65 (by unfold maxLen;omega) (ze9 underlying3 (ZwR k)) (ZrQ x)
 refine⟨w',i,⟨_,j,fun q t z=>?_⟩,c⟩
 show _=ZAk z (if q=p then some x else f q)
 by_cases e:q=p
 ·rw[zab e,e,atKey_put_same l (by first | exact trivial | simp[WideAt.IsKeyLit])]
  rfl
 ·rw[zaa e,atKey_put_other (by intro h;injection h with _ h;exact e h),d q t z]
theorem Yj.del (h:Yj w b n f) {p:Int} (x:I64 p) (ty:TypeId):
 ∃ w',(Builtin.delete_ #[65,3] ty #[.map (some b),.int .i64 p]).run prog w=.ok (.tuple #[]) w'∧Yj w' b n (fun m=>if m=p then none else f m)∧w.grownBy w' (some b):=by
 obtain⟨D,⟨c,u,a,F,v,rfl⟩,k⟩:=h;obtain⟨t,l,F',j,d,_⟩:=Maps.fit_drop (ty:=ty) ZbC underlying65 a F (ze9 underlying3 (ZwR x));refine⟨_,l,⟨_,⟨t,u,heap_setBlock_same a _,F',zas j v,rfl⟩,fun q y z=>?_⟩,⟨rfl,rfl,rfl,by simp[setBlock],fun i _ g=>heap_setBlock_other a _ (fun e=>g (by rw[e]))⟩⟩
 rw[d];show((DataW.map ((c.toList.map (rg prog 3 ZaF)).foldr DataW.insert [])).del (.int .i64 p)).atKey (.int .i64 q) z=_;show _=ZAk z (if q=p then none else f q)
 by_cases e:q=p
 ·rw[zab e,e,atKey_del_same]
  rfl
 ·rw[zaa e,atKey_del_other (by intro h;injection h with _ h;exact e h),k q y z]
theorem Yj.clear (h:Yj w b n f) (ty:TypeId):
 ∃ w',(Builtin.clear_ #[65] ty #[.map (some b)]).run prog w=.ok (.tuple #[]) w'∧Yj w' b 0 (fun _=>none)∧w.grownBy w' (some b):=by
 obtain⟨D,⟨g,c,a,F,k,rfl⟩,j⟩:=h;refine⟨setBlock w b (.map #[] c),?_,⟨.map [],⟨#[],c,heap_setBlock_same a _,⟨by simp,stamped_empty c,by simp⟩,zat _,rfl⟩,fun _ _ _=>rfl⟩,⟨rfl,rfl,rfl,by simp[setBlock],fun i _ d=>heap_setBlock_other a _ (fun e=>d (by rw[e]))⟩⟩
 simp[Builtin.clear_,zev underlying65,MapKept.run_getObj_map a,MapKept.run_setObj_map _ a,Result.andThen,setBlock]
theorem ZmP {D:DataW Unit} (c:Maps.CanonK (Maps.KeysOf prog 3) D):Lib.mergeD (.map []) D=D:=by
 refine(merged_eq ZbC.one (left:=fun _=>false) ⟨fun k=>?_,fun k z=>?_⟩ (fun _=>rfl) (c.canon ZbC.one) ⟨[],rfl,List.Pairwise.nil,fun p a=>by cases a⟩ c).symm
 ·show Maps.has D k=(false || (Maps.has D k && true))
  cases Maps.has D k <;> rfl
 ·cases e:Maps.has D k with
  | true=>rfl
  | false=>
   rw[atKey_of_not_has e];rfl
theorem ZrR (h:Yj w b n f):
 Calls prog 145 #[.map (some b)] w fun e w'=>e=.returned (.map (some w.heap.size))∧Yj w' w.heap.size n f∧w'.heap.size=w.heap.size+1∧Below w.heap.size w w':=by
 obtain⟨D,⟨a,c,d,r⟩,g⟩:=h;refine(AnyW.maps_Clone layW b a c w d).mono fun e w' ⟨he,hw⟩=>?_
 subst hw;exact⟨he,⟨D,⟨a,c,(MapKept.heap_alloc w _).1,r⟩,g⟩,by simp,(zac _ w).alloc zL _⟩
theorem ZwT {a bs:Nat} (k:Yj w a 0 (fun _=>none)) (b:Yj w bs n f) (j:a≠bs) (u:n<=10000000):
 Calls prog 73 #[.map (some a),.map (some bs)] w fun e w'=>e=.returned (.tuple #[])∧Yj w' a n f∧w.grownBy w' (some a):=by
 obtain⟨l,i,v⟩:=k;obtain⟨d,c,p⟩:=b
 have x:Maps.size d<=n:=by
  obtain⟨g,t,m,F,b,rfl⟩:=c;rw[size_eq,length_sorted];simpa using b
 have q:l=.map []:=by
  obtain⟨g,t,m,F,b,rfl⟩:=i;have:g=#[]:=by simpa using b
  subst this;rfl
 subst q;refine(AnyX.maps_Copy layX ZbC ZaF a bs 0 n (.map []) d w i c j (by unfold maxLen;omega)).mono fun e w' ⟨he,ho,_,hg⟩=>?_
 rw[ZmP (c.canonK ZbC)] at ho;exact⟨he,⟨d,ho.mono (by omega),p⟩,hg⟩
open Go.RowKit
structure Ql (F:Nat->Prop) (w w':World):Prop where
 os:w'.os=w.os
 tape:w'.tape=w.tape
 output:w'.output=w.output
 size:w.heap.size<=w'.heap.size
 block:∀ k,k<w.heap.size->¬ F k->w'.heap[k]?=w.heap[k]?
theorem Ql.refl (F:Nat->Prop) (w:World):Ql F w w:=⟨rfl,rfl,rfl,zat _,fun _ _ _=>rfl⟩
theorem Ql.trans {b c:World} (h:Ql F a b) (k:Ql G b c) (f:∀ x,x<a.heap.size->G x->F x):Ql F a c:=
 ⟨k.os.trans h.os,k.tape.trans h.tape,k.output.trans h.output,zas h.size k.size,fun i d e=>(k.block i (zav d h.size) (fun g=>e (f i d g))).trans (h.block i d e)⟩
theorem Ql.mono (h:Ql F w w') (b:∀ k,F k->G k):Ql G w w':=⟨h.os,h.tape,h.output,h.size,fun k a c=>h.block k a fun d=>c (b k d)⟩
theorem Ql.ofGrown {row:Option Nat} (h:w.grownBy w' row) (c:∀ k,row=some k->k<w.heap.size->F k):Ql F w w':=
 ⟨h.os,h.tape,h.output,h.size,fun k a b=>h.block k a fun e=>b (c k e.symm a)⟩
theorem Ql.ofBelow (h:Below w.heap.size w w'):Ql F w w':=⟨h.os,h.tape,h.output,h.size,fun k a _=>h.block k a⟩
theorem Ql.below (h:Ql F w w') (b:B<=w.heap.size) (c:∀ k,F k->B<=k):Below B w w':=
 ⟨h.os,h.tape,h.output,h.size,fun k a=>h.block k (zav a b) fun d=>by have:=c k d;omega⟩
theorem Ql.setCell (h:Ql F a w) {b:Nat} (i:Nat) (f:b<a.heap.size->F b) (x:Value):Ql F a (w.setCell ⟨b,i,none⟩ x):=by
 have c:=(zac 0 w).setCell (p:=⟨b,i,none⟩) (zai _) x;refine⟨c.os.trans h.os,c.tape.trans h.tape,c.output.trans h.output,zas h.size c.size,fun k d e=>?_⟩
 rw[zal _ _ _ _ (show k≠b by rintro rfl;exact e (f d))]
 exact h.block k d e
theorem Ql.alloc (h:Ql F a w) (o:Obj):Ql F a (w.alloc o):=
 h.trans (G:=fun _=>False) (Ql.ofBelow ((zac _ _).alloc zL o)) (fun _ _ b=>b.elim)
theorem Ql.drewN (h:Ql F a w) (n:Nat):Ql F a (w.drewN n):=⟨h.os,h.tape,h.output,h.size,h.block⟩
theorem RdI.only {l:List Int} (h:RdI w v l) {F:Nat->Prop} (u:Ql F w w') (g:∀ k,v.ownBlock=some k->¬ F k):RdI w' v l:=by
 obtain⟨ao,cap,rfl,q,f,p,i,c⟩:=h;refine⟨ao,cap,rfl,q,f,p,i,?_⟩;rcases c with c | ⟨b,d,rfl,n⟩
 ·exact .inl c
 ·refine .inr ⟨b,d,rfl,fun j t=>?_⟩
  have e:=n j t;have m:b<w.heap.size:=zau w ⟨b,d+j,none⟩ e;rw[zb2 (a:=⟨b,d+j,none⟩) (u.block b m (g b rfl))];exact e
theorem RdI.onlyE {l:List Int} (h:RdI w v l) {F:Nat->Prop} (c:Ql F w w') (hv:l=[]∨∀ k,v.ownBlock=some k->¬ F k):RdI w' v l:=by
 rcases hv with rfl | hv
 ·obtain⟨ao,cap,rfl,e,a,d,b,f⟩:=h
  exact⟨ao,cap,rfl,e,a,d,b,.inl rfl⟩
 ·exact h.only c hv
def Bk (t:TypeId) (w:World) (b:Nat) (cs:Array Value):Prop:=w.heap[b]?=some (.cells cs t (0,0))
theorem Bk.lt (h:Bk t w b cs):b<w.heap.size:=(zan.1 h).1
theorem Bk.keep (h:Bk t w b cs) (a:w'.heap[b]?=w.heap[b]?):Bk t w' b cs:=a.trans h
theorem Bk.cell (h:Bk t w b cs) (j:Nat) {x:Value} (a:cs[j]?=some x):w.cell? ⟨b,j,none⟩=some x∧w.frozen? ⟨b,j,none⟩=false:=
 ⟨(zam w b j _ _ _ h).trans a,za2 w b j _ _ h⟩
theorem Bk.set (h:Bk t w b cs) (j:Nat) (x:Value):Bk t (w.setCell ⟨b,j,none⟩ x) b (cs.setIfInBounds j x):=by
 have:=zba w b j _ _ x h;unfold Bk;simpa using this
theorem Bk.other (h:Bk t w b cs) (c j:Nat) (x:Value) (a:b≠c):Bk t (w.setCell ⟨c,j,none⟩ x) b cs:=
 (zal _ _ _ _ a).trans h
theorem Bk.ne {c:TypeId} {b':Nat} {d:Array Value} (h:Bk t w b cs) (a:Bk c w b' d) (e:t≠c):b≠b':=by
 rintro rfl;unfold Bk at h a;rw[h] at a;simp only [zbu,Obj.cells.injEq] at a;exact e a.2.1
theorem Dc (h:w.ownsRow base t 1 v n xs) {g:Nat} (a:v.ownBlock=some g):∃ cs,Bk t w g cs:=by
 rcases h.2 with ⟨b,_⟩ | ⟨g',cap,cur,b,_,c,_⟩
 ·rw[b] at a;cases a
 ·rw[b] at a
  obtain rfl:g'=g:=by simpa[Value.ownBlock] using a
  exact⟨cur,c⟩
theorem Qh (h:w.ownsRow base t s v n xs) (d:∀ g,v.ownBlock=some g->w'.heap[g]?=w.heap[g]?):w'.ownsRow base t s v n xs:=by
 obtain⟨f,a⟩:=h;refine⟨f,?_⟩;rcases a with a | ⟨g,cap,cur,b,c,e,r⟩
 ·exact .inl a
 ·exact .inr ⟨g,cap,cur,b,c,(d g (by rw[b];rfl)).trans e,r⟩
abbrev ptr (b:Nat):Value:=.pointer (some ⟨b,0,none⟩)
theorem Rd.only (h:Rd w v l) {F:Nat->Prop} (t:Ql F w w') (g:∀ k,v.ownBlock=some k->¬ F k):Rd w' v l:=by
 obtain⟨ao,cap,rfl,p,f,n,c⟩:=h;refine⟨ao,cap,rfl,p,f,n,?_⟩;rcases c with c | ⟨b,d,rfl,m⟩
 ·exact .inl c
 ·refine .inr ⟨b,d,rfl,fun j q=>?_⟩
  have e:=m j q;have i:b<w.heap.size:=zau w ⟨b,d+j,none⟩ e;rw[zb2 (a:=⟨b,d+j,none⟩) (t.block b i (g b rfl))];exact e
theorem Bk.neMap (h:Bk t w b cs) (a:Yj w m n f):b≠m:=a.apart h
theorem Own.shape (h:Own w B v l):∃ ao cap,v=.slice ao l.length cap:=by
 obtain⟨ao,cap,a,_⟩:=h.rd;exact⟨ao,cap,a⟩
theorem Own.front {ao:Option Addr} {cap:Nat} (h:Own w B (.slice ao n cap) l) (k:Nat) (j:k<=l.length):Own w B (.slice ao k cap) (l.take k):=by
 obtain⟨t,p⟩:=h;have b:(l.take k).length=k:=by simp;omega
 refine⟨by rw[Y0,zch],?_⟩
 rcases p with ⟨a,q⟩ | ⟨g,v,cur,a,i,m,x,f,d,c⟩
 ·left
  simp only [za1] at a;obtain⟨rfl,rfl,rfl⟩:=a;have:k=0:=by omega
  subst this;exact⟨rfl,by rw[b]⟩
 ·right
  simp only [za1] at a;obtain⟨rfl,u,rfl⟩:=a;refine⟨g,cap,cur,by rw[b],i,m,by rw[b];omega,f,d,?_⟩
  rw[zch] at c ⊢;rw[b];have e:Lib.byteCells (l.take k)=(Lib.byteCells l).take k:=by simp[Lib.byteCells]
  rw[e,<-c,zfc,zcp j]
structure ZmQ (w:World) (b:Nat) (v:Value) (x:Fl):Prop where
 box:Bk 117 w b #[v,.int .i64 (x.k:Int)]
 own:Own w 0 v x.b
theorem ZmQ.keep {x:Fl} (h:ZmQ w b v x) (a:w'.heap[b]?=w.heap[b]?) (c:∀ g,v.ownBlock=some g->w'.heap[g]?=w.heap[g]?):ZmQ w' b v x:=
 ⟨h.box.keep a,Qh h.own c⟩
def ChV (F:Nat->Prop) (w:World) (ps:Nat->Nat):Ch->Value->Prop
 | .give n f,v=>∃ b1 b2,v=.func (.func 139) #[] #[ptr b2,ptr b1]∧Bk 3 w b1 #[.int .i64 n]∧Bk 115 w b2 #[ptr (ps f)]∧F b1∧F b2
 | .move n tz f,v=>∃ b1 b2 b3,v=.func (.func 143) #[] #[ptr b3,ptr b2,ptr b1]∧Bk 3 w b1 #[.int .i64 n]∧Bk 3 w b2 #[.int .i64 tz]∧Bk 115 w b3 #[ptr (ps f)]∧F b1∧F b2∧F b3
 | .take n,v=>∃ b1,v=.func (.func 157) #[] #[ptr b1]∧Bk 3 w b1 #[.int .i64 n]∧F b1
def chOf:Ch->Option Nat
 | .give _ f=>some f
 | .move _ _ f=>some f
 | .take _=>none
theorem ChV.keep {ps p:Nat->Nat} (h:ChV F w ps c v) (e:∀ k,F k->F' k) (t:∀ f,chOf c=some f->p f=ps f)
 (d:∀ k cs,F k->(Bk 3 w k cs∨Bk 115 w k cs)->w'.heap[k]?=w.heap[k]?):ChV F' w' p c v:=by
 cases c with
 | give n f=>
  obtain⟨j,l,rfl,b,i,a,g⟩:=h;exact⟨j,l,rfl,b.keep (d _ _ a (.inl b)),by rw[t f rfl];exact i.keep (d _ _ g (.inr i)),e _ a,e _ g⟩
 | move n tz f=>
  obtain⟨j,l,u,rfl,b,i,m,a,g,q⟩:=h;exact⟨j,l,u,rfl,b.keep (d _ _ a (.inl b)),i.keep (d _ _ g (.inl i)),by rw[t f rfl];exact m.keep (d _ _ q (.inr m)),e _ a,e _ g,e _ q⟩
 | take n=>
  obtain⟨j,rfl,b,a⟩:=h;exact⟨j,rfl,b.keep (d _ _ a (.inl b)),e _ a⟩
structure Lay where
 now:Nat
 kept:Nat
 wv:Value
 cs:List Value
 ps:Nat->Nat
 vs:Nat->Value
structure ZoW (F:Nat->Prop) (w:World) (L:Lay) (d:Dk) (N:Nat):Prop where
 now:Yj w L.now N (fun n=>(look (Qm d) n).map L.ps)
 kept:Yj w L.kept N (fun n=>(look d.kept n).map L.ps)
 row:w.ownsRow 0 113 1 L.wv L.cs.length L.cs
 many:L.cs.length=d.waits.length
 wait:∀ (i:Nat) c v,d.waits[i]?=some c->L.cs[i]?=some v->ChV F w L.ps c v
 file:∀ i,i<d.files.length->ZmQ w (L.ps i) (L.vs i) (fl d.files i)
 psn:∀ i j,i<d.files.length->j<d.files.length->i≠j->L.ps i≠L.ps j
 vsn:∀ i j,i<d.files.length->j<d.files.length->i≠j->∀ g,(L.vs i).ownBlock=some g->(L.vs j).ownBlock≠some g
 nk:L.now≠L.kept
 fn:F L.now
 fk:F L.kept
 fw:∀ g,L.wv.ownBlock=some g->F g
 fp:∀ i,i<d.files.length->F (L.ps i)
 fv:∀ i,i<d.files.length->∀ g,(L.vs i).ownBlock=some g->F g
def ZfD (L:Lay) (d:Dk) (u:Int):Array Value:=#[.int .i64 d.room,.int .i64 u,.map (some L.now),.map (some L.kept),L.wv,.int .i64 d.power]
structure Xd (F:Nat->Prop) (w:World) (p:Nat) (L:Lay) (d:Dk) (u:Int) (N:Nat):Prop where
 head:Bk 69 w p (ZfD L d u)
 rest:ZoW F w L d N
 fh:F p
 lt:∀ k,F k->k<w.heap.size
theorem ZoW.keep {L:Lay} (h:ZoW F w L d N) (b:Bk 69 w p cs) (a:∀ k,F k->k≠p->w'.heap[k]?=w.heap[k]?):ZoW F w' L d N where
 now:=h.now.keep (a _ h.fn (b.neMap h.now).symm)
 kept:=h.kept.keep (a _ h.fk (b.neMap h.kept).symm)
 row:=Qh h.row fun g f=>a g (h.fw g f) (by obtain⟨l,hb⟩:=Dc h.row f;exact hb.ne b (by decide))
 many:=h.many
 wait:=fun i c v n m=>(h.wait i c v n m).keep (fun _ j=>j) (fun _ _=>rfl) (fun k l j hb=>a k j (by rcases hb with hb | hb <;> exact hb.ne b (by decide)))
 file:=fun i e=>(h.file i e).keep (a _ (h.fp i e) ((h.file i e).box.ne b (by decide))) fun g f=>a g (h.fv i e g f) (by obtain⟨l,hb⟩:=Dc (h.file i e).own f;exact hb.ne b (by decide))
 psn:=h.psn
 vsn:=h.vsn
 nk:=h.nk
 fn:=h.fn
 fk:=h.fk
 fw:=h.fw
 fp:=h.fp
 fv:=h.fv
theorem ZoW.mono {L:Lay} (h:ZoW F w L d N) (a:N<=N'):ZoW F w L d N':=
 ⟨h.now.mono a,h.kept.mono a,h.row,h.many,h.wait,h.file,h.psn,h.vsn,h.nk,h.fn,h.fk,h.fw,h.fp,h.fv⟩
theorem Xd.setHead {L:Lay} (h:Xd F w p L d u N) (j:Nat) (x:Value) {d':Dk} {u':Int} (e:d'.files=d.files∧d'.kept=d.kept∧d'.waits=d.waits)
 (c:(ZfD L d u).setIfInBounds j x=ZfD L d' u'):Xd F (w.setCell ⟨p,j,none⟩ x) p L d' u' N:=by
 refine⟨by rw[<-c];exact h.head.set j x,?_,h.fh,fun k f=>?_⟩
 ·have a:=h.rest.keep h.head (w':=w.setCell ⟨p,j,none⟩ x) (fun k _ b=>zal _ _ _ _ b)
  obtain⟨t,fs,kp,l,i⟩:=d;obtain⟨q,g,y,n,m⟩:=d';obtain⟨rfl,rfl,rfl⟩:=e;exact⟨a.now,a.kept,a.row,a.many,a.wait,a.file,a.psn,a.vsn,a.nk,a.fn,a.fk,a.fw,a.fp,a.fv⟩
 ·have:=h.lt k f
  have v:=((zac 0 w).setCell (p:=⟨p,j,none⟩) (zai _) x).size;omega
theorem Xd.keep {L:Lay} (h:Xd F w p L d u N) (b:∀ k,F k->w'.heap[k]?=w.heap[k]?) (c:w.heap.size<=w'.heap.size):Xd F w' p L d u N:=
 ⟨h.head.keep (b p h.fh),h.rest.keep h.head (fun k a _=>b k a),h.fh,fun k a=>by have:=h.lt k a;omega⟩
theorem Xd.only {L:Lay} (h:Xd F w p L d u N) (a:Ql G w w') (c:∀ k,F k->¬ G k):Xd F w' p L d u N:=
 h.keep (fun k b=>a.block k (h.lt k b) (c k b)) a.size
theorem Xd.cells {L:Lay} (h:Xd F w p L d u N):
 (w.cell? ⟨p,0,none⟩=some (.int .i64 d.room)∧w.cell? ⟨p,1,none⟩=some (.int .i64 u)∧w.cell? ⟨p,2,none⟩=some (.map (some L.now))∧w.cell? ⟨p,3,none⟩=some (.map (some L.kept))∧w.cell? ⟨p,4,none⟩=some L.wv∧w.cell? ⟨p,5,none⟩=some (.int .i64 d.power))∧
 w.frozen? ⟨p,1,none⟩=false∧w.frozen? ⟨p,3,none⟩=false∧w.frozen? ⟨p,4,none⟩=false∧w.frozen? ⟨p,5,none⟩=false:=
 ⟨⟨(h.head.cell 0 rfl).1,(h.head.cell 1 rfl).1,(h.head.cell 2 rfl).1,(h.head.cell 3 rfl).1,(h.head.cell 4 rfl).1,(h.head.cell 5 rfl).1⟩,(h.head.cell 1 rfl).2,(h.head.cell 3 rfl).2,(h.head.cell 4 rfl).2,(h.head.cell 5 rfl).2⟩
theorem Xd.setFile {L:Lay} {f:Nat} (h:Xd F w p L d u N) (m:f<d.files.length) {v':Value} {x':Fl}
 (G:∀ k,F k->k≠L.ps f->(L.vs f).ownBlock≠some k->w'.heap[k]?=w.heap[k]?)
 (R:ZmQ w' (L.ps f) v' x') (hr:v'.ownBlock=(L.vs f).ownBlock∨∀ g,v'.ownBlock=some g->w.heap.size<=g)
 (x:∀ k,F k->F' k) (S:∀ g,v'.ownBlock=some g->F' g) (T:∀ k,F' k->k<w'.heap.size):
 Xd F' w' p { L with vs:=fun i=>if i=f then v' else L.vs i } { d with files:=d.files.set f x' } u N:=by
 have a:=h.rest;have K:=(a.file f m).box
 have J:∀ {t:TypeId} {k:Nat} {cs:Array Value},Bk t w k cs->F k->t≠117->t≠5->w'.heap[k]?=w.heap[k]?:=fun {t k cs} hb D I H=>G k D (hb.ne K I) fun b=>by
  obtain⟨E,q⟩:=Dc (a.file f m).own b;exact(hb.ne q H) rfl
 have O:∀ {k n:Nat} {g:Int->Option Nat},Yj w k n g->F k->w'.heap[k]?=w.heap[k]?:=fun {k n g} hm D=>G k D (K.neMap hm).symm fun b=>by
  obtain⟨E,q⟩:=Dc (a.file f m).own b;exact(q.neMap hm) rfl
 have C:(d.files.set f x').length=d.files.length:=zdu ..;refine⟨h.head.keep (J h.head h.fh (by decide) (by decide)),?_,x _ h.fh,T⟩
 refine⟨a.now.keep (O a.now a.fn),a.kept.keep (O a.kept a.fk),Qh a.row fun g b=>?_,a.many,fun i c v I H=>?_,fun i l=>?_,fun i j l A=>?_,fun i j l A M=>?_,a.nk,x _ a.fn,x _ a.fk,fun g b=>x g (a.fw g b),fun i l=>x _ (a.fp i (by rw[<-C];exact l)),fun i l=>?_⟩
 ·obtain⟨E,hb⟩:=Dc a.row b
  exact J hb (a.fw g b) (by decide) (by decide)
 ·exact(a.wait i c v I H).keep x (fun _ _=>rfl) fun k E D hb=>by rcases hb with hb | hb <;> exact J hb D (by decide) (by decide)
 ·have y:i<d.files.length:=by rw[<-C];exact l
  show ZmQ w' (L.ps i) (if i=f then v' else L.vs i) (fl (d.files.set f x') i)
  by_cases e:i=f
  ·rw[zab e,e,Zao m]
   exact R
  ·rw[zaa e,Jf (fun U=>e U.symm)]
   refine(a.file i y).keep (G _ (a.fp i y) (a.psn i f y m e) fun b=>?_) fun g b=>G g (a.fv i y g b) ?_ (fun z=>a.vsn i f y m e g b z)
   ·obtain⟨E,q⟩:=Dc (a.file f m).own b
    exact((a.file i y).box.ne q (by decide)) rfl
   ·obtain⟨E,q⟩:=Dc (a.file i y).own b
    exact q.ne K (by decide)
 ·rw[C] at l A
  exact a.psn i j l A
 ·rw[C] at l A
  have Q:∀ i,i<d.files.length->i≠f->∀ g,(L.vs i).ownBlock=some g->v'.ownBlock≠some g:=fun i l V g b z=>by
   rcases hr with hr | hr
   ·exact a.vsn i f l m V g b (by rw[<-hr];exact z)
   ·have I:=hr g z
    have H:=h.lt g (a.fv i l g b);omega
  show ∀ g,(if i=f then v' else L.vs i).ownBlock=some g->(if j=f then v' else L.vs j).ownBlock≠some g
  intro g;by_cases B:i=f
  ·rw[zab B,zaa (by rw[<-B];exact Ne.symm M)]
   exact fun b z=>Q j A (by rw[<-B];exact Ne.symm M) g z b
  ·rw[zaa B]
   by_cases P:j=f
   ·rw[zab P]
    exact Q i l B g
   ·rw[zaa P]
    exact a.vsn i j l A M g
 ·rw[C] at l
  show ∀ g,(if i=f then v' else L.vs i).ownBlock=some g->F' g
  intro g;by_cases e:i=f
  ·rw[zab e]
   exact S g
  ·rw[zaa e]
   exact fun b=>x g (a.fv i l g b)
structure Bnd (d:Dk) (N T:Nat):Prop where
 files:d.files.length<=N
 names:d.kept.length+d.waits.length<=N
 bytes:∀ x ∈ d.files,x.b.length<=T
def Dsk (F:Nat->Prop) (w:World) (p:Nat) (d:Dk) (N T:Nat):Prop:=
 ∃ L,Xd F w p L d (Jb d) N∧OkD d∧Bnd d N T∧I64 d.room∧I64 d.power
theorem Dsk.only (h:Dsk F w p d N T) (a:Ql G w w') (c:∀ k,F k->¬ G k):Dsk F w' p d N T:=by
 obtain⟨L,b,e⟩:=h;exact⟨L,b.only a c,e⟩
theorem Dsk.below (h:Dsk F w p d N T) (a:Below w.heap.size w w'):Dsk F w' p d N T:=
 h.only (G:=fun _=>False) (Ql.ofBelow a) (fun _ _ b=>b)
theorem ZmR {L:Lay} (w:World) (h:Xd F w p L d u N):
 Calls prog 33 #[ptr p] w fun e w'=>e=.returned (.bool (d.power != 0))∧w'=w:=by
 obtain⟨⟨-,-,-,-,-,a⟩,-⟩:=h.cells
 go_enter func33,ntmps33
 go_wp2;go_ret;exact⟨rfl,rfl⟩
theorem ZmS (n:Int) (w:World):
 Calls prog 94 #[.int .i64 n] w fun e w'=>e=.returned (.bool (ZdE n))∧w'=w:=by
 by_cases a:0<=n
 ·by_cases b:n<1048576
  ·have e:ZdE n=true:=by simp[ZdE,a,b]
   rw[e]
   go_enter func94,ntmps94
   go_wp2;go_ret;exact⟨Zeg (by simp),rfl⟩
  ·have e:ZdE n=false:=by simp[ZdE,a,b]
   rw[e]
   go_enter func94,ntmps94
   go_wp2;go_ret;exact⟨Zeg (by simp),rfl⟩
 ·have e:ZdE n=false:=by simp[ZdE,a]
  rw[e]
  go_enter func94,ntmps94
  go_wp2;go_ret;exact⟨rfl,rfl⟩
theorem ZmT (a:Int) (n:Nat) (d:n<=1000000000000000) (w:World):
 Calls prog 72 #[.int .i64 a,.int .i64 (n:Int)] w fun e w'=>e=.returned (.int .i64 (Z4 a n:Int))∧w'=w:=by
 obtain⟨M,b⟩:∃ M:Int,M=(n:Int):=⟨_,rfl⟩;by_cases h:a<0
 ·have e:Z4 a n=0:=by simp[Z4,h]
  rw[e,<-b];clear b
  go_enter func72,ntmps72
  go_wp2;go_ret;exact⟨rfl,rfl⟩
 ·have c:=Int.emod_nonneg a (show M+1≠0 by omega)
  have e:((Z4 a n:Nat):Int)=a % (M+1):=by
   rw[b] at c ⊢;rw[Z4,zaa h];omega
  rw[e,<-b];have f:0<=M∧M<=1000000000000000:=by omega
  clear e c b d n
  go_enter func72,ntmps72
  go_wp2;go_ret;exact⟨rfl,rfl⟩
theorem ZmU (q n:Int) (w:World):
 Calls prog 71 #[.int .i64 q,.int .i64 n] w fun e w'=>e=.returned (.int .i64 (if q=0 then 0 else max n 0))∧w'=w:=by
 by_cases h:q=0
 ·rw[zab h]
  subst h
  go_enter func71,ntmps71
  go_wp2;go_ret;exact⟨rfl,rfl⟩
 ·rw[zaa h]
  have e:(q == 0)=false:=by simpa using h
  clear h
  go_enter func71,ntmps71
  go_wp2;go_ret;exact⟨rfl,rfl⟩
theorem Zcc {L:Lay} (w:World) (h:Xd F w p L d u N) (j:I64 d.power):
 Calls prog 97 #[ptr p] w fun e w'=>e=.returned (.int .i64 0)∧Xd F w' p L { d with power:=Y5 d.power } u N∧Ql F w w':=by
 have H:=ZZ h;obtain⟨⟨-,-,-,-,-,i⟩,-,-,-,l⟩:=h.cells;obtain⟨k,g⟩:=j;obtain⟨q,a⟩:=zgy d.power;rw[<-a] at i k g ⊢;by_cases c:q>0
 ·have b:Hid (Y5 q=q-1):=zab c
  have f:=ZZ a;clear h a
  go_enter func97,ntmps97
  go_wp2;go_ret;refine⟨rfl,?_,(Ql.refl _ _).setCell 5 (fun _=>H.out.fh) _⟩
  refine H.out.setHead 5 _ ⟨rfl,rfl,rfl⟩ ?_;rw[b.o];rfl
 ·have b:Hid (Y5 q=q):=zaa c
  have f:=ZZ a;clear h a
  go_enter func97,ntmps97
  go_wp2;go_ret;rw[b.o,f.o];exact⟨rfl,H.out,Ql.refl _ _⟩
theorem ZwU (n:Int) (g:I64 n) (w:World) (h:Dsk F w p d N T):
 Calls prog 30 #[ptr p,.int .i64 n] w fun e w'=>e=.returned (.tuple #[])∧Dsk F w' p (Zqz d n) N T∧Ql F w w':=by
 obtain⟨L,h,l,f,i,j⟩:=h;have H:=ZZ h;have a:=ZZ (And.intro l (And.intro f (And.intro i j)));have u:=ZZ g;obtain⟨⟨-,-,-,-,-,t⟩,-,-,-,y⟩:=h.cells;obtain⟨q,c⟩:=zgy d.power;have v:=ZZ c;rw[<-c] at t;clear h l f i j c g;have k:=ZZ (ZmU q n w);obtain⟨r,b⟩:=zgy ((if q=0 then(0:Int) else max n 0))
 rw[<-b] at k;have m:=ZZ b;clear b
 go_enter func30,ntmps30
 go_wp2_with fail
 refine k.o.mono ?_;rintro e w' ⟨rfl,rfl⟩;go_wp2;go_end0;refine⟨rfl,⟨L,?_,OkD.cut a.o.1 n,⟨a.o.2.1.files,a.o.2.1.names,a.o.2.1.bytes⟩,a.o.2.2.1,?_⟩,(Ql.refl _ _).setCell 5 (fun _=>H.out.fh) _⟩
 ·refine H.out.setHead 5 _ ⟨rfl,rfl,rfl⟩ ?_
  rw[m.o,v.o];rfl
 ·obtain⟨z,x⟩:=u.o
  unfold Zqz I64
  dsimp only
  split <;> omega
theorem ZyE (w:World) (room:Int) (F:I64 room):Dsk (fun k=>w.heap.size<=k∧k<(((w.alloc (.map #[] 0)).alloc (.map #[] 0)).alloc (.cells #[.int .i64 room,.int .i64 0,.map (some w.heap.size),.map (some (w.heap.size+1)),.slice none 0 0,.int .i64 (-1)] 69)).heap.size)
 (((w.alloc (.map #[] 0)).alloc (.map #[] 0)).alloc (.cells #[.int .i64 room,.int .i64 0,.map (some w.heap.size),.map (some (w.heap.size+1)),.slice none 0 0,.int .i64 (-1)] 69)) (w.heap.size+1+1) (ZgP room) 0 0:=by
 have n:=Yj.made w;obtain⟨d,B⟩:=zgy (w.alloc (.map #[] 0));have t:d.heap.size=w.heap.size+1:=by rw[B];simp
 rw[<-B] at n ⊢;have f:=Yj.made d;have q:=n.keep (w':=d.alloc (.map #[] 0)) (zao _ _ _ (by omega))
 obtain⟨a,p⟩:=zgy (d.alloc (.map #[] 0));have u:a.heap.size=w.heap.size+1+1:=by rw[p];simp[t]
 rw[<-p] at f q ⊢;rw[t] at f;obtain⟨A,l⟩:∃ A:Array Value,A=#[.int .i64 room,.int .i64 0,.map (some w.heap.size),.map (some (w.heap.size+1)),.slice none 0 0,.int .i64 (-1)]:=⟨_,rfl⟩;rw[<-l];have y:=f.keep (w':=a.alloc (.cells A 69)) (zao _ _ _ (by omega))
 have z:=q.keep (w':=a.alloc (.cells A 69)) (zao _ _ _ (by omega))
 have e:Bk 69 (a.alloc (.cells A 69)) a.heap.size A:=zaf a _;rw[u] at e;have G:(a.alloc (.cells A 69)).heap.size=w.heap.size+1+1+1:=by simp[u]
 obtain⟨m,C⟩:=zgy (a.alloc (.cells A 69));rw[<-C] at y z e G ⊢;refine⟨⟨w.heap.size,w.heap.size+1,.slice none 0 0,[],fun _=>0,fun _=>.slice none 0 0⟩,⟨by rw[l] at e;exact e,?_,⟨by omega,by omega⟩,fun k D=>D.2⟩,ZtU room,⟨zat _,zat _,(fun x H=>by cases H)⟩,F,⟨by show(-9223372036854775808:Int)<=-1;omega,by show(-1:Int)<=9223372036854775807;omega⟩⟩
 refine⟨z,y,zcb _ _ _ _,rfl,(fun i c v h=>by simp[ZgP] at h),(fun i b=>absurd b (Nat.not_lt_zero _)),(fun i j b=>absurd b (Nat.not_lt_zero _)),(fun i j b=>absurd b (Nat.not_lt_zero _)),(by show w.heap.size≠w.heap.size+1;omega),⟨by show w.heap.size<=w.heap.size;omega,by show w.heap.size<_;omega⟩,⟨by show w.heap.size<=w.heap.size+1;omega,by show w.heap.size+1<_;omega⟩,(fun g E=>by cases E),(fun i b=>absurd b (Nat.not_lt_zero _)),(fun i b=>absurd b (Nat.not_lt_zero _))⟩
theorem ZyF (room:Int) (a:I64 room) (w:World):
 Calls prog 9 #[.int .i64 room] w fun e w'=>∃ p,e=.returned (ptr p)∧Dsk (fun k=>w.heap.size<=k∧k<w'.heap.size) w' p (ZgP room) 0 0∧Below w.heap.size w w':=by
 have b:=ZZ a;clear a;have c:=@run_makeMap prog
 go_enter func9,ntmps9
 go_wp2;go_ret;exact⟨_,rfl,ZyE w room b.o,(((zac _ w).alloc zL _).alloc (by simp) _).alloc (by simp;omega) _⟩
theorem ZgT {L:Lay} (n:Int) (m:I64 n) (w:World) (h:Xd F w p L d u N):
 Calls prog 103 #[ptr p,.int .i64 n] w fun e w'=>e=.returned (.tuple #[ZqL (if d.power=0 then none else(look (Qm d) n).map L.ps),.int .i64 (if d.power=0 then 11 else if(look (Qm d) n).isSome then 0 else 8)])∧w'=w:=by
 have c:=ZZ (ZmR w h);obtain⟨⟨-,-,v,-,-,-⟩,-⟩:=h.cells;have b:=h.rest.now.look m;obtain⟨q,j⟩:=zgy d.power;obtain⟨o,g⟩:=zgy (look (Qm d) n);rw[<-g] at b;rw[<-j] at c;rw[<-j,<-g];clear h j g m;by_cases a:q=0
 ·subst a
  go_enter func103,ntmps103
  go_wp2_with fail
  refine c.o.mono ?_;rintro e w' ⟨rfl,rfl⟩;go_wp2;go_ret2;exact⟨rfl,rfl⟩
 ·rw[zaa a,zaa a]
  have t:(q != 0)=true:=by simpa using a
  rw[t] at c;clear a t
  cases o with
  | none=>
   have k:(Instr.lookup 65 (.map (some L.now)) (.int .i64 n) true).run prog w=.ok (.tuple #[.pointer none,.bool false]) w:=b;clear b
   go_enter func103,ntmps103
   go_wp2_with fail
   refine c.o.mono ?_;rintro e w' ⟨rfl,rfl⟩;go_wp2;go_ret2;exact⟨rfl,rfl⟩
  | some f=>
   have k:(Instr.lookup 65 (.map (some L.now)) (.int .i64 n) true).run prog w=.ok (.tuple #[.pointer (some ⟨L.ps f,0,none⟩),.bool true]) w:=b;clear b;obtain⟨x,i⟩:=zgy (L.ps f);have l:ZqL (Option.map L.ps (some f))=.pointer (some ⟨x,0,none⟩):=by rw[i];rfl
   rw[<-i] at k;rw[l];clear i l
   go_enter func103,ntmps103
   go_wp2_with fail
   refine c.o.mono ?_;rintro e w' ⟨rfl,rfl⟩;go_wp2;go_ret2;exact⟨rfl,rfl⟩
def Gr (F:Nat->Prop) (w w':World) (k:Nat):Prop:=F k∨(w.heap.size<=k∧k<w'.heap.size)
theorem Gr.lt (b:w.heap.size<=w'.heap.size) (a:∀ k,F k->k<w.heap.size):∀ k,Gr F w w' k->k<w'.heap.size:=by
 rintro k (h | h)
 ·have:=a k h;omega
 ·exact h.2
theorem ZwV (n:Int) (x:Nat) (w:World):
 Calls prog 96 #[.int .i64 n,ptr x] w fun e w'=>e=.returned (.func (.func 139) #[] #[ptr (w.heap.size+1),ptr w.heap.size])∧w'=(w.alloc (.cells #[.int .i64 n] 3)).alloc (.cells #[ptr x] 115):=by
 have a:∀ (fn:Fn) (first cap:Array Value) (w:World),(Instr.makeFunc fn first cap).run prog w=.ok (.func fn first cap) w:=fun _ _ _ _=>rfl
 go_enter func96,ntmps96
 go_wp2;go_ret;exact⟨rfl,rfl⟩
theorem Zuq (n a:Int) (x:Nat) (w:World):
 Calls prog 105 #[.int .i64 n,.int .i64 a,ptr x] w fun e w'=>e=.returned (.func (.func 143) #[] #[ptr (w.heap.size+1+1),ptr (w.heap.size+1),ptr w.heap.size])∧w'=((w.alloc (.cells #[.int .i64 n] 3)).alloc (.cells #[.int .i64 a] 3)).alloc (.cells #[ptr x] 115):=by
 have b:∀ (fn:Fn) (first cap:Array Value) (w:World),(Instr.makeFunc fn first cap).run prog w=.ok (.func fn first cap) w:=fun _ _ _ _=>rfl
 go_enter func105,ntmps105
 go_wp2;go_ret;exact⟨rfl,rfl⟩
theorem ZwW (n:Int) (w:World):
 Calls prog 110 #[.int .i64 n] w fun e w'=>e=.returned (.func (.func 157) #[] #[ptr w.heap.size])∧w'=w.alloc (.cells #[.int .i64 n] 3):=by
 have a:∀ (fn:Fn) (first cap:Array Value) (w:World),(Instr.makeFunc fn first cap).run prog w=.ok (.func fn first cap) w:=fun _ _ _ _=>rfl
 go_enter func110,ntmps110
 go_wp2;go_ret;exact⟨rfl,rfl⟩
theorem Zcd {n:Int} (h:ZdE n=true):I64 n:=by
 simp only [ZdE,zgm,zde] at h;exact⟨by omega,by omega⟩
def Zlo (w:World) (b N:Nat) (ps:Nat->Nat) (g:Int->Option Nat) (c:Ch) (e:Ending) (w':World):Prop:=
 e=.returned (.tuple #[])∧Yj w' b (N+1) (fun n=>(chF g c n).map ps)∧w.grownBy w' (some b)
theorem ZcH (w:World) {c:Array Oper} {rest:List Oper} {o:Oper} {a:Act} {Q:Exit->Act->World->Prop} (e:o.guard=none) (m x:Operand)
 (k:o.op=.call { callee:=.builtin .delete,args:=#[m,x],argTypes:=#[65,3] })
 (b N:Nat) (f:Int->Option Nat) (p:Int) (t:a.eval m=.map (some b)) (q:a.eval x=.int .i64 p) (i:Yj w b N f) (n:I64 p)
 (h:∀ w',Yj w' b N (fun m=>if m=p then none else f m)->w.grownBy w' (some b)->wpList prog c Q rest (a.put o.dst (.tuple #[])) w'):wpList prog c Q (o::rest) a w:=
 zbr e fun _ l=>by
  obtain⟨w',j,g,d⟩:=i.del n o.type;unfold Oper.wp execOp;simp only [k,resolve,invoke,builtin,zbk,zbn,za7,map_toArray,map_cons,map_nil,t,q,j];exact l _ _ (h w' g d)
theorem ZjF (w:World) {c:Array Oper} {rest:List Oper} {o:Oper} {a:Act} {Q:Exit->Act->World->Prop} (e:o.guard=none) (m:Operand)
 (k:o.op=.call { callee:=.builtin .clear,args:=#[m],argTypes:=#[65] })
 (b N:Nat) (f:Int->Option Nat) (n:a.eval m=.map (some b)) (i:Yj w b N f)
 (h:∀ w',Yj w' b 0 (fun _=>none)->w.grownBy w' (some b)->wpList prog c Q rest (a.put o.dst (.tuple #[])) w'):wpList prog c Q (o::rest) a w:=
 zbr e fun _ l=>by
  obtain⟨w',j,g,d⟩:=i.clear o.type;unfold Oper.wp execOp;simp only [k,resolve,invoke,builtin,zbk,zbn,za7,map_toArray,map_cons,map_nil,n,j];exact l _ _ (h w' g d)
theorem ZhO {b c:World} {r:Nat} (h:a.grownBy b (some r)) (k:b.grownBy c (some r)):a.grownBy c (some r):=h.andThen k (fun _ d=>.inr d)
theorem ZmV {n:Int} {f:Nat} (c:ZdE n=true) {j i b N:Nat} {ps:Nat->Nat} {g:Int->Option Nat} (w:World) (t:Bk 3 w j #[.int .i64 n]) (d:Bk 115 w i #[ptr (ps f)]) (u:Yj w b N (fun n=>(g n).map ps)) (a:N<=10000000):
 Calls prog 139 #[.map (some b),ptr i,ptr j] w fun e w'=>Zlo w b N ps g (.give n f) e w':=by
 obtain⟨B,A,l,k⟩:=u.put (p:=n) (ps f) (Zcd c) a
 have y:Hid (Yj B b (N+1) (fun n'=>(chF g (.give n f) n').map ps)):=ZZ (l.fun fun q _=>by
  show(if q=n then some (ps f) else(g q).map ps)=(if q=n then some f else g q).map ps
  split <;> rfl)
 have v:=ZZ k;obtain⟨C,-⟩:=t.cell 0 rfl;obtain⟨z,-⟩:=d.cell 0 rfl;obtain⟨x,m⟩:=zgy (ps f);rw[<-m] at A z;clear l k u t d m c a
 go_enter func139,ntmps139
 go_wp2;go_end0;exact⟨rfl,y.o,v.o⟩
theorem ZmW {n a:Int} {f:Nat} (z:ZdE n=true) (v:ZdE a=true) {j B E b N:Nat} {ps:Nat->Nat} {g:Int->Option Nat} (w:World) (d:Bk 3 w j #[.int .i64 n]) (A:Bk 3 w B #[.int .i64 a]) (u:Bk 115 w E #[ptr (ps f)]) (l:Yj w b N (fun n=>(g n).map ps)) (y:N<=10000000):
 Calls prog 143 #[.map (some b),ptr E,ptr B,ptr j] w fun e w'=>Zlo w b N ps g (.move n a f) e w':=by
 obtain⟨K,I,C,k⟩:=l.put (p:=a) (ps f) (Zcd v) y;obtain⟨M,-⟩:=A.cell 0 rfl;obtain⟨G,-⟩:=u.cell 0 rfl;obtain⟨L,-⟩:=(d.keep (k.block j d.lt (by intro e;exact(d.neMap l) (zak e)))).cell 0 rfl
 have H:=ZZ C;have J:=ZZ z
 have F:Hid (∀ c,Yj c b (N+1) (fun m=>if m=n then none else if m=a then some (ps f) else(g m).map ps)->K.grownBy c (some b)->Zlo w b N ps g (.move n a f) (.returned (.tuple #[])) c):=ZZ (fun c i t=>by
  refine⟨rfl,i.fun fun q _=>?_,ZhO k t⟩
  show(if q=n then none else if q=a then some (ps f) else(g q).map ps)=(if q=n then none else if q=a then some f else g q).map ps
  split
  ·rfl
  ·split <;> rfl)
 obtain⟨x,D⟩:=zgy (ps f);rw[<-D] at I G;clear C k l d A u D z v y
 go_enter func143,ntmps143
 go_wp2_with(first | (at_delete;refine ZcH _ rfl _ _ rfl b _ _ n rfl rfl H.o (Zcd J.o) ?_;intro c i t))
 go_end0;exact F.o _ i t
theorem ZmX {n:Int} (a:ZdE n=true) {c b N:Nat} {ps:Nat->Nat} {g:Int->Option Nat} (w:World) (d:Bk 3 w c #[.int .i64 n]) (f:Yj w b N (fun n=>(g n).map ps)):
 Calls prog 157 #[.map (some b),ptr c] w fun e w'=>Zlo w b N ps g (.take n) e w':=by
 obtain⟨m,-⟩:=d.cell 0 rfl;have i:=ZZ f;have k:=ZZ a;clear f a d
 go_enter func157,ntmps157
 go_wp2_with(first | (at_delete;refine ZcH _ rfl _ _ rfl b _ _ n rfl rfl i.o (Zcd k.o) ?_;intro p j l))
 go_end0;refine⟨rfl,(j.mono (zdi _)).fun fun q _=>?_,l⟩
 show(if q=n then none else(g q).map ps)=(if q=n then none else g q).map ps
 split <;> rfl
theorem ZyG:(prog.info? 113).map (fun i=>(i.zero,i.size,i.bytes))=some (some .nilFunc,1,8):=by kernel_rfl
theorem Zlp (w:World) (ty:TypeId) (v:Value) (cs:List Value) (h:w.ownsRow 0 113 1 v cs.length cs) (fn:Fn) (a b:Array Value) (p:cs.length<=10000000):
 ∃ v' w',(Builtin.append_ #[67,67] ty #[v,.slice (some ⟨w.heap.size,0,none⟩) 1 1]).run prog (w.alloc (.cells #[.func fn a b] 113))=.ok v' w'∧
  w'.ownsRow 0 113 1 v' (cs++[Value.func fn a b]).length (cs++[Value.func fn a b])∧(w.alloc (.cells #[.func fn a b] 113)).grownBy w' v.ownBlock∧(v'.ownBlock=v.ownBlock∨v'.ownBlock=some (w.heap.size+1)):=by
 obtain⟨i,g,e,f,n⟩:=zbo ZyG
 obtain⟨v',w',l,m,k,_,hl⟩:=zdx (P:=prog) (w.alloc (.cells #[.func fn a b] 113)) 0 67 ty 113 i .nilFunc 1 8 underlying67 g e f n rfl (by decide) v cs.length cs (zb0 h _)
  ⟨w.heap.size,0,none⟩ 1 1 [.func fn a b] rfl (fun j u c=>by
   match j,c with
   | 0,c=>simp at c;subst c;simp[Addr.add]) (fun u d=>by simp at d;subst d;rfl) (by unfold maxLen;omega) (by omega) (zai _)
 refine⟨v',w',l,?_,k,?_⟩
 ·rw[length_append]
  exact m
 ·rcases hl with hl | hl
  ·exact .inl hl
  ·exact .inr (by rw[hl];simp)
theorem ZaG (w:World) {d:Array Oper} {rest:List Oper} {o:Oper} {a:Act} {Q:Exit->Act->World->Prop} (f:o.guard=none) (s x:Operand)
 (l:o.op=.call { callee:=.builtin .append,args:=#[s,x],argTypes:=#[67,67] })
 (v:Value) (cs:List Value) (n:a.eval s=v) (h:w.ownsRow 0 113 1 v cs.length cs) (fn:Fn) (b c:Array Value) (q:a.eval x=.slice (some ⟨w.heap.size,0,none⟩) 1 1) (g:cs.length<=10000000)
 (p:∀ v' w',w'.ownsRow 0 113 1 v' (cs++[Value.func fn b c]).length (cs++[Value.func fn b c])->(w.alloc (.cells #[.func fn b c] 113)).grownBy w' v.ownBlock->(v'.ownBlock=v.ownBlock∨v'.ownBlock=some (w.heap.size+1))->
  wpList prog d Q rest (a.put o.dst v') w'):wpList prog d Q (o::rest) a (w.alloc (.cells #[.func fn b c] 113)):=
 zbr f fun _ m=>by
  obtain⟨v',w',k,i,e,j⟩:=Zlp w o.type v cs h fn b c g;unfold Oper.wp execOp;simp only [l,resolve,invoke,builtin,zbk,zbn,za7,map_toArray,map_cons,map_nil,n,q,k];exact m _ _ (p v' w' i e j)
theorem ZmY (h:ZtN m c):∀ n a f,c=.move n a f->n≠a:=by
 rintro n a f rfl;exact h.2.2.1
theorem Zur (d:Dk) (c:Ch):Qm { d with waits:=d.waits++[c] }=chD (Qm d) c:=by
 show(d.waits++[c]).foldl chD d.kept=_;rw[foldl_append];rfl
theorem Xd.addWait {q f:World} {L:Lay} {fn:Fn} {x y:Array Value} (h:Xd F w p L d u N) (hc:ChV F w L.ps c (.func fn x y)) (ab:OkD d) (aa:ZtN d.files.length c)
 (K:w.grownBy q (some L.now)) (A:Yj q L.now (N+1) (fun n=>(chF (look (Qm d)) c n).map L.ps))
 (G:f.ownsRow 0 113 1 v' (L.cs++[Value.func fn x y]).length (L.cs++[Value.func fn x y])) (E:(q.alloc (.cells #[.func fn x y] 113)).grownBy f L.wv.ownBlock) (hv:v'.ownBlock=L.wv.ownBlock∨v'.ownBlock=some (q.heap.size+1)):
 Xd (Gr F w f) (f.setCell ⟨p,4,none⟩ v') p { L with wv:=v',cs:=L.cs++[Value.func fn x y] } { d with waits:=d.waits++[c] } u (N+1)∧Ql F w (f.setCell ⟨p,4,none⟩ v'):=by
 have a:=h.rest;have ac:=K.size;have ad:q.heap.size+1<=f.heap.size:=by have:=E.size;simpa using this
 have V:(f.setCell ⟨p,4,none⟩ v').heap.size=f.heap.size:=by simp
 have S:∀ k,F k->k≠L.now->L.wv.ownBlock≠some k->f.heap[k]?=w.heap[k]?:=fun k l I J=>by
  have C:=h.lt k l;rw[E.block k (by simp;omega) (fun e=>J e.symm),zao _ _ _ (by omega),K.block k C (fun e=>I (zak e))]
 have B:∀ k,F k->k≠L.now->L.wv.ownBlock≠some k->k≠p->(f.setCell ⟨p,4,none⟩ v').heap[k]?=w.heap[k]?:=fun k l I J hp=>by
  rw[zal _ _ _ _ hp,S k l I J]
 have Q:∀ {t:TypeId} {k:Nat} {cs:Array Value},Bk t w k cs->t≠113->L.wv.ownBlock≠some k:=fun hb W j=>by
  obtain⟨D,z⟩:=Dc a.row j;exact(hb.ne z W) rfl
 have R:∀ {k n:Nat} {g:Int->Option Nat},Yj w k n g->L.wv.ownBlock≠some k:=fun A j=>by
  obtain⟨D,z⟩:=Dc a.row j;exact(z.neMap A) rfl
 have H:∀ {t:TypeId} {k:Nat} {cs:Array Value},Bk t w k cs->F k->t≠113->t≠69->(f.setCell ⟨p,4,none⟩ v').heap[k]?=w.heap[k]?:=fun hb l h1 Y=>
  B _ l (hb.neMap a.now) (Q hb h1) (hb.ne h.head Y)
 have P:L.now≠p:=(h.head.neMap a.now).symm;have M:Bk 69 f p (ZfD L d u):=h.head.keep (S p h.fh P.symm (Q h.head (by decide)))
 have U:∀ g,v'.ownBlock=some g->Gr F w f g:=fun g j=>by
  rcases hv with hv | hv
  ·exact .inl (a.fw g (by rw[<-hv];exact j))
  ·rw[hv] at j
   obtain rfl:=zak j;exact .inr ⟨by omega,by have:=(zar G _ hv).2;omega⟩
 refine⟨⟨M.set 4 v',?_,.inl h.fh,fun k B=>?_⟩,?_⟩
 ·refine⟨?_,?_,?_,?_,?_,?_,a.psn,a.vsn,a.nk,.inl a.fn,.inl a.fk,U,fun i b=>.inl (a.fp i b),fun i b g j=>.inl (a.fv i b g j)⟩
  ·have e:∀ n,(look (Qm { d with waits:=d.waits++[c] }) n).map L.ps=(chF (look (Qm d)) c n).map L.ps:=fun n=>by rw[Zur,Zdb ab.dir.rise c (ZmY aa)]
   refine(A.keep (w':=f.setCell ⟨p,4,none⟩ v') ?_).fun fun n _=>(e n).symm
   rw[zal _ _ _ _ P,E.block L.now (by simp;have:=A.lt;omega) (fun e=>R a.now e.symm),zao _ _ _ A.lt]
  ·exact(a.kept.mono (zdi N)).keep (B _ a.fk (Ne.symm a.nk) (R a.kept) (h.head.neMap a.kept).symm)
  ·exact Qh G fun g j=>zal _ _ _ _ (by
    obtain⟨D,z⟩:=Dc G j
    exact z.ne M (by decide))
  ·rw[length_append,length_append,a.many]
   rfl
  ·intro i c' v b m
   have O:∀ c v,ChV F w L.ps c v->ChV (Gr F w f) (f.setCell ⟨p,4,none⟩ v') L.ps c v:=fun c v Z=>Z.keep (fun _ l=>.inl l) (fun _ _=>rfl) fun k D l hb=>by
    rcases hb with hb | hb <;> exact H hb l (by decide) (by decide)
   rw[zfu] at b m;rw[a.many] at m;by_cases C:i<d.waits.length
   ·rw[zab C] at b m
    exact O _ _ (a.wait i c' v b m)
   ·rw[zaa C] at b m
    have e0:i-d.waits.length=0:=by
     have:=(zbm.1 b).1;simp at this;omega
    rw[e0] at b m;simp only [List.getElem?_cons_zero,zbu] at b m;rw[<-b,<-m];exact O _ _ hc
  ·intro i b
   refine(a.file i b).keep (H (a.file i b).box (a.fp i b) (by decide) (by decide)) fun g j=>?_
   obtain⟨D,hb⟩:=Dc (a.file i b).own j;exact H hb (a.fv i b g j) (by decide) (by decide)
 ·rw[V]
  exact Gr.lt (by omega) h.lt k B
 ·have T:Ql F w q:=Ql.ofGrown K fun k e _=>by obtain rfl:=zak e;exact a.fn
  have X:Ql F (q.alloc (.cells #[.func fn x y] 113)) f:=Ql.ofGrown E fun k e _=>a.fw k e
  exact((T.alloc _).trans X (fun _ _ l=>l)).setCell 4 (fun _=>h.fh) v'
theorem Zez (h:w.ownsRow base t s v n xs):∃ ao m b,v=.slice ao m b:=by
 rcases h.2 with ⟨a,_⟩ | ⟨g,cap,cur,a,_⟩
 ·exact⟨_,_,_,a⟩
 ·exact⟨_,_,_,a⟩
theorem Zus (F:Nat->Prop) (w b:World) (a:Addr) (v:Value):Gr F w (b.setCell a v)=Gr F w b:=by
 funext k
 simp[Gr]
def ZyH (F:Nat->Prop) (w:World) (p:Nat) (L:Lay) (d:Dk) (u:Int) (N:Nat) (c:Ch) (e:Ending) (w':World):Prop:=
 e=.returned (.tuple #[])∧∃ L',Xd (Gr F w w') w' p L' { d with waits:=d.waits++[c] } u (N+1)∧L'.ps=L.ps∧L'.vs=L.vs∧Ql F w w'
theorem ZhP {L:Lay} {cv:Value} (w:World) (h:Xd F w p L d u N) (hc:ChV F w L.ps c cv) (ae:OkD d) (ad:ZtN d.files.length c) (hN:N<=1000000) (hW:d.waits.length<=1000000):
 Calls prog 95 #[ptr p,cv] w fun e w'=>ZyH F w p L d u N c e w':=by
 have H:=ZZ h;have aa:=ZZ ae;have G:=ZZ ad;obtain⟨⟨-,-,c2,-,-,-⟩,-⟩:=h.cells;have q:Hid (L.now≠p):=ZZ (h.head.neMap h.rest.now).symm
 have ab:Hid (∀ g,L.wv.ownBlock=some g->g≠L.now):=ZZ (fun g l=>by
  obtain⟨ac,I⟩:=Dc h.rest.row l
  exact I.neMap h.rest.now)
 clear h ae ad
 cases c with
 | give n f=>
  obtain⟨A,U,rfl,E,S,M,Z⟩:=hc;have O:Hid (ChV F w L.ps (.give n f) (.func (.func 139) #[] #[ptr U,ptr A])):=ZZ ⟨A,U,rfl,E,S,M,Z⟩;have P:=ZZ (ZmV (f:=f) G.o.1 w E S H.out.rest.now (by omega))
  go_enter func95,ntmps95
  go_wp2_with fail
  refine P.o.mono ?_;rintro e j ⟨rfl,D,b⟩;have Q:=ZZ D;have a:=ZZ b;have B:=H.out.head.keep (b.block p H.out.head.lt (fun e=>q.o (zak e).symm))
  obtain⟨T,R⟩:=B.cell 4 rfl;have y:Hid (j.ownsRow 0 113 1 L.wv L.cs.length L.cs):=ZZ (Qh H.out.rest.row fun g l=>b.block g (zar H.out.rest.row g l).2 (fun e=>ab.o g l (zak e)))
  clear D b B;have x:Hid (p<j.heap.size):=ZZ (zav H.out.head.lt a.o.size)
  go_wp2_with(at_builtin;refine(fun(h:True->_)=>h trivial) ?_)
  intro _;refine ZaG j rfl _ _ rfl L.wv L.cs rfl y.o _ _ _ rfl (by have:=H.out.rest.many;omega) ?_
  intro v' C i k t;have X:=ZZ i;have J:=ZZ k;have W:=ZZ t
  have z:Bk 69 C p (ZfD L d u):=(H.out.head.keep (a.o.block p H.out.head.lt (fun e=>q.o (zak e).symm))).keep ((k.block p (by simp;have:=x.o;omega) (fun e=>by
   obtain⟨ac,I⟩:=Dc y.o e.symm
   exact(I.ne (H.out.head.keep (a.o.block p H.out.head.lt (fun e=>q.o (zak e).symm))) (by decide)) rfl)).trans (zao _ _ _ x.o))
  obtain⟨d4,g4⟩:=z.cell 4 rfl;obtain⟨ao,K,Y,rfl⟩:=Zez i;clear i k t z T R;go_wp2;go_end0;obtain⟨v,V⟩:=H.out.addWait O.o aa.o G.o a.o Q.o X.o J.o W.o;rw[<-Zus F w C ⟨p,4,none⟩ (.slice ao K Y)] at v;exact⟨rfl,_,v,rfl,rfl,V⟩
 | move n m f=>
  obtain⟨A,U,b3,rfl,E,S,h3,M,Z,f3⟩:=hc;have O:Hid (ChV F w L.ps (.move n m f) (.func (.func 143) #[] #[ptr b3,ptr U,ptr A])):=ZZ ⟨A,U,b3,rfl,E,S,h3,M,Z,f3⟩;have P:=ZZ (ZmW (f:=f) G.o.1 G.o.2.1 w E S h3 H.out.rest.now (by omega))
  go_enter func95,ntmps95
  go_wp2_with fail
  refine P.o.mono ?_;rintro e j ⟨rfl,D,b⟩;have Q:=ZZ D;have a:=ZZ b;have B:=H.out.head.keep (b.block p H.out.head.lt (fun e=>q.o (zak e).symm))
  obtain⟨T,R⟩:=B.cell 4 rfl;have y:Hid (j.ownsRow 0 113 1 L.wv L.cs.length L.cs):=ZZ (Qh H.out.rest.row fun g l=>b.block g (zar H.out.rest.row g l).2 (fun e=>ab.o g l (zak e)))
  clear D b B;have x:Hid (p<j.heap.size):=ZZ (zav H.out.head.lt a.o.size)
  go_wp2_with(at_builtin;refine(fun(h:True->_)=>h trivial) ?_)
  intro _;refine ZaG j rfl _ _ rfl L.wv L.cs rfl y.o _ _ _ rfl (by have:=H.out.rest.many;omega) ?_
  intro v' C i k t;have X:=ZZ i;have J:=ZZ k;have W:=ZZ t
  have z:Bk 69 C p (ZfD L d u):=(H.out.head.keep (a.o.block p H.out.head.lt (fun e=>q.o (zak e).symm))).keep ((k.block p (by simp;have:=x.o;omega) (fun e=>by
   obtain⟨ac,I⟩:=Dc y.o e.symm
   exact(I.ne (H.out.head.keep (a.o.block p H.out.head.lt (fun e=>q.o (zak e).symm))) (by decide)) rfl)).trans (zao _ _ _ x.o))
  obtain⟨d4,g4⟩:=z.cell 4 rfl;obtain⟨ao,K,Y,rfl⟩:=Zez i;clear i k t z T R;go_wp2;go_end0;obtain⟨v,V⟩:=H.out.addWait O.o aa.o G.o a.o Q.o X.o J.o W.o;rw[<-Zus F w C ⟨p,4,none⟩ (.slice ao K Y)] at v;exact⟨rfl,_,v,rfl,rfl,V⟩
 | take n=>
  obtain⟨A,rfl,E,M⟩:=hc;have O:Hid (ChV F w L.ps (.take n) (.func (.func 157) #[] #[ptr A])):=ZZ ⟨A,rfl,E,M⟩;have P:=ZZ (ZmX G.o w E H.out.rest.now)
  go_enter func95,ntmps95
  go_wp2_with fail
  refine P.o.mono ?_;rintro e j ⟨rfl,D,b⟩;have Q:=ZZ D;have a:=ZZ b;have B:=H.out.head.keep (b.block p H.out.head.lt (fun e=>q.o (zak e).symm))
  obtain⟨T,R⟩:=B.cell 4 rfl;have y:Hid (j.ownsRow 0 113 1 L.wv L.cs.length L.cs):=ZZ (Qh H.out.rest.row fun g l=>b.block g (zar H.out.rest.row g l).2 (fun e=>ab.o g l (zak e)))
  clear D b B;have x:Hid (p<j.heap.size):=ZZ (zav H.out.head.lt a.o.size)
  go_wp2_with(at_builtin;refine(fun(h:True->_)=>h trivial) ?_)
  intro _;refine ZaG j rfl _ _ rfl L.wv L.cs rfl y.o _ _ _ rfl (by have:=H.out.rest.many;omega) ?_
  intro v' C i k t;have X:=ZZ i;have J:=ZZ k;have W:=ZZ t
  have z:Bk 69 C p (ZfD L d u):=(H.out.head.keep (a.o.block p H.out.head.lt (fun e=>q.o (zak e).symm))).keep ((k.block p (by simp;have:=x.o;omega) (fun e=>by
   obtain⟨ac,I⟩:=Dc y.o e.symm
   exact(I.ne (H.out.head.keep (a.o.block p H.out.head.lt (fun e=>q.o (zak e).symm))) (by decide)) rfl)).trans (zao _ _ _ x.o))
  obtain⟨d4,g4⟩:=z.cell 4 rfl;obtain⟨ao,K,Y,rfl⟩:=Zez i;clear i k t z T R;go_wp2;go_end0;obtain⟨v,V⟩:=H.out.addWait O.o aa.o G.o a.o Q.o X.o J.o W.o;rw[<-Zus F w C ⟨p,4,none⟩ (.slice ao K Y)] at v;exact⟨rfl,_,v,rfl,rfl,V⟩
def ZrS (fs:List Fl):Option Nat->Nat
 | some f=>(fl fs f).b.length
 | none=>0
theorem Zaj (fs:List Fl) (p:Int × Nat) (l:Dir):Zt fs (p::l)=(fl fs p.2).b.length+Zt fs l:=by simp[Zt]
theorem ZgU (fs:List Fl):Zt fs []=0:=rfl
theorem ZdO (fs:List Fl) (a b:Dir):Zt fs (a++b)=Zt fs a+Zt fs b:=by simp[Zt]
theorem ZhQ (fs:List Fl) (n:Int) (f:Nat):∀ (l:Dir) (done:Bool),Zt fs (Zjz n f done l)=Zt fs (l.filter fun p=>decide (p.1≠n))+(if done then 0 else(fl fs f).b.length)
 | [],done=>by cases done <;> simp[Zjz,Zt]
 | q::l,done=>by
  have d:=ZhQ fs n f l (done || decide (q.1>n));rw[Zjz,ZdO,ZdO,d,zc6];by_cases c:q.1>n
  ·have a:q.1≠n:=by omega
   cases done <;> simp[c,a,Zaj,ZgU] <;> omega
  ·by_cases a:q.1=n
   ·cases done <;> simp[a,ZgU]
   ·cases done <;> simp[c,a,Zaj,ZgU] <;> omega
theorem ZhR (fs:List Fl) (n:Int):∀ l:Dir,Xa l->Zt fs (l.filter fun p=>decide (p.1≠n))+ZrS fs (look l n)=Zt fs l
 | [],_=>rfl
 | q::l,h=>by
  unfold Xa at h;rw[zb6] at h;rw[zc6,look];by_cases e:q.1=n
  ·have c:∀ p ∈ l,p.1≠n:=fun p a=>by have:=h.1 p a;omega
   rw[zab e,zaa (by simp[e]),Zaj,List.filter_eq_self.2 (fun p a=>by simpa using c p a)]
   show _+(fl fs q.2).b.length=_;omega
  ·rw[zaa e,zab (by simp[e]),Zaj,Zaj]
   have:=ZhR fs n l h.2;omega
theorem ZeA (fs:List Fl) {l:Dir} (h:Xa l) (n:Int) (o:Option Nat):Zt fs (Yt l n o)+ZrS fs (look l n)=Zt fs l+ZrS fs o:=by
 have a:=ZhR fs n l h
 cases o with
 | none=>rw[Yt,ZhQ];show _=_+0;simp only [zej];omega
 | some f=>rw[Yt,ZhQ];simp only [zek,zfl];show _=_+(fl fs f).b.length;omega
theorem ZeB {f:Nat} (h:f<fs.length) (x:Fl):fl (fs++[x]) f=fl fs f:=by
 unfold fl;simp[List.getD,zfu,h]
theorem ZhS (fs:List Fl) (x:Fl):fl (fs++[x]) fs.length=x:=by
 unfold fl;simp[List.getD]
theorem Zlq {a:List Fl} {l:Dir} (h:∀ p ∈ l,(fl a p.2).b.length=(fl fs p.2).b.length):Zt a l=Zt fs l:=by
 unfold Zt;rw[List.map_congr_left h]
theorem Zut {l:Dir} (h:∀ p ∈ l,p.2<fs.length) (x:Fl):Zt (fs++[x]) l=Zt fs l:=
 Zlq fun p a=>by rw[ZeB (h p a)]
theorem Zlr {f:Nat} (a:f<fs.length) (x:Fl):∀ {l:Dir},G9 l->(∃ n,(n,f) ∈ l)->Zt (fs.set f x) l+(fl fs f).b.length=Zt fs l+x.b.length
 | [],_,⟨_,h⟩=>by cases h
 | q::l,ha,⟨n,h⟩=>by
  unfold G9 at ha;rw[zb6] at ha;rw[Zaj,Zaj];by_cases e:q.2=f
  ·have g:Zt (fs.set f x) l=Zt fs l:=Zlq fun p d=>by rw[Jf (by rw[<-e];exact ha.1 p d)]
   rw[e,g,Zao a];omega
  ·rw[Jf (fun c=>e c.symm)]
   rcases za6.1 h with h | h
   ·exact absurd (by rw[<-h]) e
   ·have:=Zlr a x (l:=l) ha.2 ⟨n,h⟩
    omega
theorem ZrT (h:OkD d) {n:Int} {f:Nat} (e:look (Qm d) n=some f) (b:List UInt8):Jb (appendTo d f b)=Jb d+b.length:=by
 have a:=(Zb h.dir.rise n f).1 e;have:=Zlr (h.dir.may _ a).2 ⟨(fl d.files f).b++b,(fl d.files f).k⟩ h.dir.apart ⟨n,a⟩;simp only [length_append] at this;show Zt (Yr d.files f b) (Qm d)=Zt d.files (Qm d)+b.length;unfold Yr;omega
theorem ZrU (h:OkD d) {n:Int} {f:Nat} (e:look (Qm d) n=some f) (q:Int):Jb { d with files:=Gd d.files f,power:=q }=Jb d:=by
 have a:=(Zb h.dir.rise n f).1 e;have:=Zlr (h.dir.may _ a).2 ⟨(fl d.files f).b,(fl d.files f).b.length⟩ h.dir.apart ⟨n,a⟩;show Zt (Gd d.files f) (Qm d)=Zt d.files (Qm d);unfold Gd
 dsimp only at this
 omega
theorem ZoX (h:OkD d) {n:Int} (e:look (Qm d) n=none):Jb (Jd d n)=Jb d:=by
 have a:=ZeA (d.files++[⟨[],0⟩]) h.dir.rise n (some d.files.length);have g:Zt (d.files++[⟨[],0⟩]) (Qm d)=Zt d.files (Qm d):=Zut (fun p f=>(h.dir.may p f).2) _
 have c:ZrS (d.files++[⟨[],0⟩]) (some d.files.length)=0:=by show(fl _ _).b.length=0;rw[ZhS];rfl
 rw[e,g,c] at a;unfold Jb;rw[Zkd,chD];show Zt (d.files++[⟨[],0⟩]) (Yt (Qm d) n (some d.files.length))=_;simpa[ZrS] using a
theorem ZrV (h:OkD d) {n m:Int} {f:Nat} (g:n≠m) (e:look (Qm d) n=some f) (q:Int):Jb { d with waits:=d.waits++[.move n m f],power:=q }+ZrS d.files (look (Qm d) m)=Jb d:=by
 have a:=ZeA d.files h.dir.rise n none;have b:=ZeA d.files (Yo h.dir.rise n none) m (some f);rw[Zaw h.dir.rise,zaa (fun e=>g e.symm)] at b
 rw[e] at a
 have c:Jb { d with waits:=d.waits++[.move n m f],power:=q }=Zt d.files (Yt (Yt (Qm d) n none) m (some f)):=by
  show Zt d.files ((d.waits++[Ch.move n m f]).foldl chD d.kept)=_;rw[foldl_append];rfl
 rw[c];show _=Zt d.files (Qm d);simp only [ZrS] at a b ⊢;omega
theorem ZrW (h:OkD d) {n:Int} {f:Nat} (e:look (Qm d) n=some f) (q:Int):Jb { d with waits:=d.waits++[.take n],power:=q }+(fl d.files f).b.length=Jb d:=by
 have a:=ZeA d.files h.dir.rise n none;rw[e] at a
 have c:Jb { d with waits:=d.waits++[.take n],power:=q }=Zt d.files (Yt (Qm d) n none):=by
  show Zt d.files ((d.waits++[Ch.take n]).foldl chD d.kept)=_;rw[foldl_append];rfl
 rw[c];show _=Zt d.files (Qm d);simp only [ZrS] at a;omega
theorem ZoY (h:∀ x ∈ fs,x.b.length<=T):∀ l:Dir,(∀ p ∈ l,p.2<fs.length)->Zt fs l<=l.length*T
 | [],_=>zai _
 | p::l,hl=>by
  have c:=ZoY h l fun q a=>hl q (List.mem_cons_of_mem _ a)
  have d:=h _ (ZbH (hl p (List.mem_cons_self ..)));rw[Zaj,zb9,Nat.add_mul];omega
theorem Zgj (l:List Ch):∀ k:Dir,(l.foldl chD k).length<=k.length+l.length:=by
 induction l with
 | nil=>intro k;exact zat _
 | cons c l a=>
  intro k;have b:=a (chD k c);have d:=Zrt k c;rw[List.foldl_cons,zb9];omega
theorem ZwX (h:OkD d) {N T:Nat} (g:d.kept.length+d.waits.length<=N) (c:∀ x ∈ d.files,x.b.length<=T):Jb d<=N*T:=by
 have e:=ZoY c (Qm d) fun p a=>(h.dir.may p a).2
 have f:=Zgj d.waits d.kept;have i:(Qm d).length*T<=N*T:=zfv T (by unfold Qm;omega)
 unfold Jb;omega
theorem Zbt (d:Dk) (k:Nat):(Ym d k).length<=d.kept.length+d.waits.length:=by
 have h:=Zgj (d.waits.take k) d.kept;have a:(d.waits.take k).length<=d.waits.length:=by rw[zbt];omega
 unfold Ym;omega
theorem Xd.widen {L:Lay} (h:Xd F w p L d u N) (a:∀ k,F k->F' k) (f:∀ k,F' k->k<w.heap.size):Xd F' w p L d u N:=
 ⟨h.head,⟨h.rest.now,h.rest.kept,h.rest.row,h.rest.many,fun i c v l j=>(h.rest.wait i c v l j).keep a (fun _ _=>rfl) (fun _ _ _ _=>rfl),h.rest.file,h.rest.psn,h.rest.vsn,h.rest.nk,a _ h.rest.fn,a _ h.rest.fk,fun g e=>a g (h.rest.fw g e),fun i b=>a _ (h.rest.fp i b),fun i b g e=>a g (h.rest.fv i b g e)⟩,a _ h.fh,f⟩
theorem Xd.more {L:Lay} (h:Xd F w p L d u N) (a:Below w.heap.size w w'):Xd (Gr F w w') w' p L d u N:=
 (h.keep (fun k b=>a.block k (h.lt k b)) a.size).widen (fun _ b=>.inl b) (Gr.lt a.size h.lt)
theorem ZyI (h:ZtN m c) {f:Nat} (e:chOf c=some f):f<m:=by
 cases c with
 | give n g=>obtain rfl:=zak e;exact h.2
 | move n g x=>obtain rfl:=zak e;exact h.2.2.2
 | take n=>cases e
theorem Xd.addFile {L:Lay} (h:Xd F w p L d u N) (A:OkD d):
 Xd (Gr F w (w.alloc (.cells #[.slice none 0 0,.int .i64 0] 117))) (w.alloc (.cells #[.slice none 0 0,.int .i64 0] 117)) p { L with ps:=fun i=>if i=d.files.length then w.heap.size else L.ps i,vs:=fun i=>if i=d.files.length then .slice none 0 0 else L.vs i } { d with files:=d.files++[⟨[],0⟩] } u N:=by
 have B:Below w.heap.size w (w.alloc (.cells #[.slice none 0 0,.int .i64 0] 117)):=(zac _ w).alloc zL _;have D:Bk 117 (w.alloc (.cells #[.slice none 0 0,.int .i64 0] 117)) w.heap.size #[.slice none 0 0,.int .i64 0]:=zaf w _;have J:(w.alloc (.cells #[.slice none 0 0,.int .i64 0] 117)).heap.size=w.heap.size+1:=by simp
 obtain⟨W,I⟩:=zgy (w.alloc (.cells #[.slice none 0 0,.int .i64 0] 117));rw[<-I] at B D J ⊢;have q:=h.more B;have b:=q.rest;have K:(d.files++[(⟨[],0⟩:Fl)]).length=d.files.length+1:=by simp
 refine⟨q.head,⟨?_,?_,b.row,b.many,?_,?_,?_,?_,b.nk,b.fn,b.fk,b.fw,?_,?_⟩,q.fh,q.lt⟩
 ·refine b.now.fun fun n _=>?_
  show(look (Qm d) n).map L.ps=(look (Qm d) n).map _
  cases e:look (Qm d) n with
  | none=>rfl
  | some f=>
   have:=(A.dir.mayOf e).2;show some (L.ps f)=some (if f=d.files.length then w.heap.size else L.ps f)
   rw[zaa (by omega)]
 ·refine b.kept.fun fun n _=>?_
  show(look d.kept n).map L.ps=(look d.kept n).map _
  cases e:look d.kept n with
  | none=>rfl
  | some f=>
   have:=(A.kept.mayOf e).2;show some (L.ps f)=some (if f=d.files.length then w.heap.size else L.ps f)
   rw[zaa (by omega)]
 ·intro i c v a H
  refine(b.wait i c v a H).keep (fun _ t=>t) (fun f t=>?_) (fun _ _ _ _=>rfl)
  have:=ZyI (A.chs c (List.mem_of_getElem? a)) t;show(if f=d.files.length then w.heap.size else L.ps f)=L.ps f
  rw[zaa (by omega)]
 ·intro i a
  show ZmQ W (if i=d.files.length then w.heap.size else L.ps i) (if i=d.files.length then .slice none 0 0 else L.vs i) (fl (d.files++[⟨[],0⟩]) i)
  by_cases e:i=d.files.length
  ·rw[zab e,zab e,e,ZhS]
   exact⟨D,zcb _ _ _ _⟩
  ·have C:i<d.files.length:=by have:i<(d.files++[(⟨[],0⟩:Fl)]).length:=a;omega
   rw[zaa e,zaa e,ZeB C];exact b.file i C
 ·intro i j a y z
  have x:i<(d.files++[(⟨[],0⟩:Fl)]).length:=a;have G:j<(d.files++[(⟨[],0⟩:Fl)]).length:=y;show(if i=d.files.length then w.heap.size else L.ps i)≠(if j=d.files.length then w.heap.size else L.ps j)
  have E:∀ i,i<d.files.length->L.ps i<w.heap.size:=fun i a=>h.lt _ (h.rest.fp i a)
  by_cases l:i=d.files.length
  ·rw[zab l,zaa (by omega)]
   have:=E j (by omega)
   omega
  ·rw[zaa l]
   by_cases m:j=d.files.length
   ·rw[zab m]
    have:=E i (by omega)
    omega
   ·rw[zaa m]
    exact b.psn i j (by show i<d.files.length;omega) (by show j<d.files.length;omega) z
 ·intro i j a y z g
  have x:i<(d.files++[(⟨[],0⟩:Fl)]).length:=a;have G:j<(d.files++[(⟨[],0⟩:Fl)]).length:=y;show(if i=d.files.length then Value.slice none 0 0 else L.vs i).ownBlock=some g->(if j=d.files.length then Value.slice none 0 0 else L.vs j).ownBlock≠some g
  by_cases l:i=d.files.length
  ·rw[zab l]
   intro k
   cases k
  ·rw[zaa l]
   by_cases m:j=d.files.length
   ·rw[zab m]
    intro _ k
    cases k
   ·rw[zaa m]
    exact b.vsn i j (by show i<d.files.length;omega) (by show j<d.files.length;omega) z g
 ·intro i a
  have x:i<(d.files++[(⟨[],0⟩:Fl)]).length:=a;show Gr F w W (if i=d.files.length then w.heap.size else L.ps i)
  by_cases e:i=d.files.length
  ·rw[zab e]
   exact .inr ⟨zat _,by omega⟩
  ·rw[zaa e]
   exact b.fp i (by show i<d.files.length;omega)
 ·intro i a g
  have x:i<(d.files++[(⟨[],0⟩:Fl)]).length:=a;show(if i=d.files.length then Value.slice none 0 0 else L.vs i).ownBlock=some g->Gr F w W g
  by_cases e:i=d.files.length
  ·rw[zab e]
   intro k
   cases k
  ·rw[zaa e]
   exact b.fv i (by show i<d.files.length;omega) g
theorem ZjG (w:World) (ty:TypeId) (v:Value) (b:List UInt8) (c:Own w 0 v b) (f:Value) (l:List UInt8) (n:Rd w f l)
 (A:b.length+l.length<=70368744177664):
 ∃ v' w',(Builtin.append_ #[53,53] ty #[v,f]).run prog w=.ok v' w'∧Own w' 0 v' (b++l)∧w.grownBy w' v.ownBlock∧(v'.ownBlock=v.ownBlock∨v'.ownBlock=some w.heap.size):=by
 obtain⟨i,g,j,k,x⟩:=zbo Zlf;obtain⟨ao,cap,rfl,y,z,p,q⟩:=n
 cases ao with
 | none=>
  have t:=p rfl;subst t;have d:l=[]:=zaj (by omega)
  subst d;have e:=zc5 (P:=prog) w 0 53 ty 5 i 1 underlying53 g v b.length (Lib.byteCells b) c;exact⟨v,w,e,by rw[zcx];exact c,⟨rfl,rfl,rfl,zat _,fun _ _ _=>rfl⟩,.inl rfl⟩
 | some a=>
  obtain⟨v',w',e,u,m,_,d⟩:=zdx (P:=prog) w 0 53 ty 5 i (.int .u8 0) 1 1 underlying53 g j k x rfl (by decide) v b.length (Lib.byteCells b) c a l.length cap (Lib.byteCells l)
   (by rw[Y0,zch]) (Rd.cells q a rfl) (ZaJ l) (by unfold maxLen;omega) (by omega) (zai _)
  exact⟨v',w',e,Own.mk' u (by simp) (by simp[Lib.byteCells]),m,d⟩
theorem ZbO (w:World) {d:Array Oper} {rest:List Oper} {o:Oper} {a:Act} {Q:Exit->Act->World->Prop} (f:o.guard=none) (s x:Operand)
 (p:o.op=.call { callee:=.builtin .append,args:=#[s,x],argTypes:=#[53,53] })
 (v:Value) (b:List UInt8) (q:a.eval s=v) (k:Own w 0 v b) (c:Value) (l:List UInt8) (u:a.eval x=c) (j:Rd w c l)
 (g:b.length+l.length<=70368744177664)
 (h:∀ v' w',Own w' 0 v' (b++l)->w.grownBy w' v.ownBlock->(v'.ownBlock=v.ownBlock∨v'.ownBlock=some w.heap.size)->wpList prog d Q rest (a.put o.dst v') w'):wpList prog d Q (o::rest) a w:=
 zbr f fun _ t=>by
  obtain⟨v',w',n,i,e,m⟩:=ZjG w o.type v b k c l j g;unfold Oper.wp execOp;simp only [p,resolve,invoke,builtin,zbk,zbn,za7,map_toArray,map_cons,map_nil,q,u,n];exact t _ _ (h v' w' i e m)
theorem Xd.grow {c:World} {L:Lay} {f:Nat} {x:List UInt8} (h:Xd F w p L d u N) (j:f<d.files.length)
 (v:Own c 0 v' ((fl d.files f).b++x)) (n:w.grownBy c (L.vs f).ownBlock) (hl:v'.ownBlock=(L.vs f).ownBlock∨v'.ownBlock=some w.heap.size):
 Xd (Gr F w c) (c.setCell ⟨L.ps f,0,none⟩ v') p { L with vs:=fun i=>if i=f then v' else L.vs i } { d with files:=Yr d.files f x } u N∧Ql F w (c.setCell ⟨L.ps f,0,none⟩ v'):=by
 have m:=h.rest;have t:=(m.file f j).box
 have A:(L.vs f).ownBlock≠some (L.ps f):=fun e=>by
  obtain⟨D,q⟩:=Dc (m.file f j).own e;exact(t.ne q (by decide)) rfl
 have y:Bk 117 c (L.ps f) #[L.vs f,.int .i64 ((fl d.files f).k:Int)]:=t.keep (n.block _ t.lt (fun e=>A e.symm))
 have C:(c.setCell ⟨L.ps f,0,none⟩ v').heap.size=c.heap.size:=by simp
 refine⟨h.setFile (F':=Gr F w c) j (fun k l E B=>?_) ⟨y.set 0 v',?_⟩ ?_ (fun _ l=>.inl l) (fun g a=>?_) (fun k l=>by rw[C];exact Gr.lt n.size h.lt k l),?_⟩
 ·rw[zal _ _ _ _ E,n.block k (h.lt k l) (fun e=>B e.symm)]
 ·refine Qh v fun g a=>zal _ _ _ _ ?_
  obtain⟨D,q⟩:=Dc v a;exact q.ne y (by decide)
 ·rcases hl with hl | hl
  ·exact .inl hl
  ·exact .inr fun g a=>by rw[hl] at a;exact Nat.le_of_eq (zak a)
 ·rcases hl with hl | hl
  ·exact .inl (m.fv f j g (by rw[<-hl];exact a))
  ·have z:=(zar v g a).2
   rw[hl] at a;obtain rfl:=zak a;exact .inr ⟨zat _,z⟩
 ·exact(Ql.ofGrown n fun k e _=>m.fv f j k e).setCell 0 (fun _=>m.fp f j) v'
theorem Bnd.grow (h:Bnd d N T) (f:Nat) (b:List UInt8) (q:Int):Bnd { d with files:=Yr d.files f b,power:=q } (N+1) (T+b.length):=by
 refine⟨by show(Yr d.files f b).length<=_;have:=h.files;simp[Yr];omega,by have:=h.names;show d.kept.length+d.waits.length<=_;omega,fun x a=>?_⟩
 rcases zcg a with a | rfl
 ·have:=h.bytes x a;omega
 ·simp only [length_append]
  by_cases c:f<d.files.length
  ·have:=h.bytes _ (ZbH c);omega
  ·unfold fl
   rw[List.getD,zbw (by omega)]
   simp only [Option.getD_none,zcr];omega
theorem Bnd.fresh (h:Bnd d N T) (n:Int):Bnd (Jd d n) (N+1) T:=by
 refine⟨by show(d.files++[_]).length<=_;have:=h.files;simp;omega,by have:=h.names;show d.kept.length+(d.waits++[_]).length<=_;simp;omega,fun x hx=>?_⟩
 rcases zaw.1 hx with hx | hx
 ·exact h.bytes x hx
 ·rw[zaq.1 hx]
  exact zai _
theorem Bnd.mono (h:Bnd d N T) (a:N<=N') (c:T<=T'):Bnd d N' T':=
 ⟨zas h.files a,zas h.names a,fun x b=>zas (h.bytes x b) c⟩
theorem Xd.mono {L:Lay} (h:Xd F w p L d u N) (a:N<=N'):Xd F w p L d u N':=⟨h.head,h.rest.mono a,h.fh,h.lt⟩
theorem Dsk.mono (h:Dsk F w p d N T) (a:N<=N') (e:T<=T'):Dsk F w p d N' T':=by
 obtain⟨L,f,g,b,c⟩:=h;exact⟨L,f.mono a,g,b.mono a e,c⟩
def Zgk (F:Nat->Prop) (w:World) (p:Nat) (d:Dk) (code:Int) (N T:Nat) (e:Ending) (w':World):Prop:=
 e=.returned (.int .i64 code)∧∃ F',Dsk F' w' p d N T∧Ql F w w'∧∀ k,F' k->F k∨w.heap.size<=k
theorem Zgk.same {a:Int} (h:Dsk F w p d N T) (c:N<=N') (e:T<=T'):Zgk F w p d a N' T' (.returned (.int .i64 a)) w:=
 ⟨rfl,F,h.mono c e,Ql.refl _ _,fun _ b=>.inl b⟩
theorem Zgk.drew {a:Int} (h:Dsk F w p d N T) (c:N<=N') (e:T<=T') (q:Nat):Zgk F w p d a N' T' (.returned (.int .i64 a)) (w.drewN q):=
 ⟨rfl,F,(h.below (Xo (zac _ _) q)).mono c e,(Ql.refl _ _).drewN q,fun _ b=>.inl b⟩
theorem Zdf {q:Int} (h:I64 q):I64 (Y5 q):=by
 obtain⟨b,a⟩:=h;unfold Y5 I64;split <;> omega
theorem ZoZ (h:OkD d) {N T:Nat} (a:Bnd d N T) (b:N<=1000000) (c:T<=1000000000):Jb d<=1000000000000000:=by
 have e:=ZwX h a.names a.bytes;have f:N*T<=1000000*1000000000:=zf5 b c;omega
theorem Zgk.appended {c:Nat->Prop} {d:World} {a:Dk} {e f:Nat} {n:Int} {b:List UInt8} {i:Lay} (j:OkD a) (l:Bnd a e T) (g:I64 a.room∧I64 a.power) (t:look (Qm a) n=some f)
 (h:Xd c d p i (appendTo a f b) ((Jb a:Int)+b.length) e) (u:Ql F w d) (m:∀ k,c k->F k∨w.heap.size<=k) (q:e+1<=N'):Zgk F w p (appendTo a f b) 0 N' (T+b.length) (.returned (.int .i64 0)) d:=by
 refine⟨rfl,c,⟨i,?_,j.appendTo f b,(l.grow f b _).mono q zL,g.1,Zdf g.2⟩,u,m⟩;rw[ZrT j t b];exact h.mono (by omega)
theorem Rd.blockLt (h:Rd w v l):l=[]∨∀ k,v.ownBlock=some k->k<w.heap.size:=by
 obtain⟨ao,cap,rfl,j,g,i,a⟩:=h;rcases a with a | ⟨b,d,rfl,f⟩
 ·exact .inl a
 ·by_cases e:l=[]
  ·exact .inl e
  ·right
   intro k c;obtain rfl:b=k:=by simpa[Value.ownBlock] using c
   exact zau w ⟨b,d+0,none⟩ (f 0 (zeh.2 e))
theorem Rd.onlyN (h:Rd w v l) {F G:Nat->Prop} {B:Nat} (g:Ql G w w') (i:∀ k,G k->F k∨B<=k) (hv:l=[]∨∀ k,v.ownBlock=some k->¬ F k) (hlt:l=[]∨∀ k,v.ownBlock=some k->k<B):Rd w' v l:=by
 rcases hv with rfl | hv
 ·obtain⟨ao,cap,rfl,c,a,b,f⟩:=h
  exact⟨ao,cap,rfl,c,a,b,.inl rfl⟩
 rcases hlt with rfl | hlt
 ·obtain⟨ao,cap,rfl,c,a,b,f⟩:=h
  exact⟨ao,cap,rfl,c,a,b,.inl rfl⟩
 ·exact h.only g fun k d e=>by
   rcases i k e with hf | hf
   ·exact hv k d hf
   ·have:=hlt k d;omega
theorem Zkj (n:Int) (hn:I64 n) (vb:Value) (b:List UInt8) (w:World) (h:Dsk F w p d N T) (hr:Rd w vb b) (hv:b=[]∨∀ k,vb.ownBlock=some k->¬ F k) (hN:N<=1000000) (hT:T<=1000000000) (bl:b.length<=1000000000):
 Calls prog 52 #[ptr p,.int .i64 n,vb] w fun e w'=>Zgk F w p (Qy d n b).1 (Qy d n b).2 (N+2) (T+b.length) e w':=by
 have HD:=ZZ h;obtain⟨L,h,aE,aA,bf,a7⟩:=h;have H:=ZZ h;have t:=ZZ aE;have aw:=ZZ aA;have HI:=ZZ (And.intro bf a7);have ay:=ZZ hr;have bi:=ZZ hr.blockLt;have HV:=ZZ hv;have l:=ZZ (ZmR w h);have E:=ZZ (ZmS n w);have j:=h.rest.now.look hn;obtain⟨⟨c0,c1,c2,-,-,-⟩,-⟩:=h.cells;have be:=ZoZ aE aA hN hT;obtain⟨U,hU⟩:∃ U:Int,U=(Jb d:Int):=⟨_,rfl⟩;have bj:0<=U∧U<=1000000000000000:=by omega
 rw[<-hU] at c1;obtain⟨ao,cap,rfl,-⟩:=hr;obtain⟨R,hR⟩:=zgy d.room;rw[<-hR] at c0;unfold Qy;rw[<-hU,<-hR];have HU:=ZZ hU;clear hU be hR;clear aE aA a7 hv h;by_cases Z:d.power=0
 ·rw[zab Z]
  rw[Z] at l;clear j Z
  go_enter func52,ntmps52
  go_wp2_with fail
  refine l.o.mono ?_;rintro e w' ⟨rfl,rfl⟩;go_wp2;go_ret;exact Zgk.same HD.o (by omega) (by omega)
 rw[zaa Z];have e0:(d.power != 0)=true:=by simpa using Z
 rw[e0] at l;clear Z e0
 cases hmn:ZdE n with
 | false=>
  rw[zab rfl];rw[hmn] at E;clear j hmn
  go_enter func52,ntmps52
  go_wp2_with fail
  refine l.o.mono ?_;rintro e w' ⟨rfl,rfl⟩
  go_wp2_with fail
  refine E.o.mono ?_;rintro e w' ⟨rfl,rfl⟩;go_wp2;go_ret;exact Zgk.same HD.o (by omega) (by omega)
 | true=>
 rw[zaa (by simp)]
 have aM:=ZZ hmn;rw[hmn] at E;clear hmn;by_cases an:U+(b.length:Int)>R
 ·rw[zab an]
  clear j
  go_enter func52,ntmps52
  go_wp2_with fail
  refine l.o.mono ?_;rintro e w' ⟨rfl,rfl⟩
  go_wp2_with fail
  refine E.o.mono ?_;rintro e w' ⟨rfl,rfl⟩
  go_upto_region 5 with fail
  go_quiet(fail)
  go_wp2;go_ret;exact Zgk.drew HD.o (by omega) (by omega) _
 rw[zaa an];have a1:decide (U+(b.length:Int)>R)=false:=zae an;have bk:U+(b.length:Int)<=R:=by omega
 cases ho:look (Qm d) n with
 | some f=>
  clear j
  dsimp only
  have ab:=ZZ ho;clear ho
  go_enter func52,ntmps52
  go_wp2_with fail
  refine l.o.mono ?_;rintro e w' ⟨rfl,rfl⟩
  go_wp2_with fail
  refine E.o.mono ?_;rintro e w' ⟨rfl,rfl⟩
  go_upto_region 5 with fail
  go_cut[17] (fun v wc=>v=.bool false∧Hid (∃ q,wc=w'.drewN q))
  case first=>
   go_quiet(fail)
   go_wp2
   go_meet
   exact⟨rfl,ZZ ⟨_,rfl⟩⟩
  case rest=>
   obtain⟨W,rfl⟩:=zgy wc;obtain⟨rfl,hw⟩:=hcut;obtain⟨w,rfl⟩:=zgy w';obtain⟨q,D⟩:=hw.out;have y:Hid (Xd F W p L d U N):=ZZ (by rw[D,HU.o];exact H.out.keep (fun _ _=>rfl) zL)
   have aa:Hid (Ql F w W):=ZZ (by rw[D];exact(Ql.refl _ _).drewN q)
   have ad:Hid (Rd W (.slice ao b.length cap) b):=ZZ (by rw[D];exact ay.o.below (Xo (zac _ _) q) zL)
   clear hw D c0 c1 c2 an a1 H ay l E HD;obtain⟨⟨-,-,c2,-,-,-⟩,-⟩:=y.o.cells;have j:=y.o.rest.now.look hn;rw[ab.o] at j;have aN:(Instr.lookup 65 (.map (some L.now)) (.int .i64 n) true).run prog W=.ok (.tuple #[.pointer (some ⟨L.ps f,0,none⟩),.bool true]) W:=j;have hf:f<d.files.length:=(t.o.dir.mayOf ab.o).2;have aB:=ab;have g:=y;have aJ:=HU;have aR:=t;have ae:=aw;have ar:=HI;have z:Hid (∀ k,F k->F k∨w.heap.size<=k):=ZZ (fun k hk=>.inl hk)
   have I:=aa;have aV:=ad;clear j y aa ad
   go_upto_region 11 with fail
   clear aN c2;obtain⟨g0,y0⟩:=(g.o.rest.file f hf).box.cell 0 rfl;have ai:=ZZ (g.o.rest.file f hf).own;have P:=ZZ (g.o.rest.file f hf).box;obtain⟨va,vc,V⟩:=(g.o.rest.file f hf).own.shape;rw[V] at g0;have aj:=ZZ V;have aG:Hid ((fl d.files f).b.length+b.length<=70368744177664):=ZZ (by have:=ae.o.bytes _ (ZbH hf);omega)
   clear V
   go_wp2_with(at_builtin;refine(fun(h:True->_)=>h trivial) ?_)
   intro _;rw[<-aj.o];refine ZbO W rfl _ _ rfl (L.vs f) _ rfl ai.o _ b rfl aV.o aG.o ?_;intro v' w2 Y O af;obtain⟨ag,ap⟩:=g.o.grow hf Y O af;have A:=ZZ ag;have S:=ZZ ap
   have al:(L.vs f).ownBlock≠some (L.ps f):=fun e=>by
    obtain⟨bg,aT⟩:=Dc ai.o e;exact(P.out.ne aT (by decide)) rfl
   obtain⟨g2,y2⟩:=(P.out.keep (O.block _ P.out.lt (fun e=>al e.symm))).cell 0 rfl
   rw[aj.o] at g2;obtain⟨aK,aS,au⟩:=Y.shape;rw[au] at A S ⊢;obtain⟨Q,X⟩:=zgy (w2.setCell ⟨L.ps f,0,none⟩ (.slice aK ((fl d.files f).b++b).length aS));have J:=ZZ X;obtain⟨M,K⟩:=zgy (((fl d.files f).b++b).length);rw[<-X] at A S;rw[<-K];rw[<-K] at J;clear Y O af ag ap al au X K g0 y0
   go_upto_region 12 with fail
   rw[<-J.o];clear J g2 y2;obtain⟨⟨-,k1,-,-,-,-⟩,j1,-⟩:=A.o.cells;obtain⟨u,C⟩:=zgy (Q.setCell ⟨p,1,none⟩ (.int .i64 (U+(b.length:Int))));have ak:=ZZ (A.o.setHead 1 (.int .i64 (U+(b.length:Int))) (d':={ d with files:=Yr d.files f b }) (u':=U+(b.length:Int)) ⟨rfl,rfl,rfl⟩ rfl)
   have aI:Hid (Ql F w u):=ZZ (by
    rw[C]
    exact(I.o.trans S.o (fun k hk hf=>(z.o k hf).resolve_right (by omega))).setCell 1 (fun bc=>((z.o p g.o.fh).resolve_right (by omega))) _)
   rw[<-C] at ak;have aq:=ZZ C;clear C
   go_upto_region 13 with fail
   rw[<-aq.o];clear aq k1 j1
   go_wp2_with fail
   refine(Zcc u ak.o ar.o.2).mono ?_;rintro e W5 ⟨rfl,aP,aC⟩;go_wp2;go_ret;refine Zgk.appended aR.o ae.o ar.o aB.o (by rw[<-aJ.o];exact aP) ((aI.o.trans aC (fun k hk hf=>?_))) (fun k hk=>?_) (by omega)
   ·rcases hf with hf | hf
    ·exact(z.o k hf).resolve_right (by omega)
    ·have:=I.o.size;omega
   ·rcases hk with hk | hk
    ·exact z.o k hk
    ·have:=I.o.size;exact .inr (by omega)
 | none=>
  clear j
  dsimp only
  have ab:=ZZ ho;clear ho
  go_enter func52,ntmps52
  go_wp2_with fail
  refine l.o.mono ?_;rintro e w' ⟨rfl,rfl⟩
  go_wp2_with fail
  refine E.o.mono ?_;rintro e w' ⟨rfl,rfl⟩
  go_upto_region 5 with fail
  go_cut[17] (fun v wc=>v=.bool false∧Hid (∃ q,wc=w'.drewN q))
  case first=>
   go_quiet(fail)
   go_wp2
   go_meet
   exact⟨rfl,ZZ ⟨_,rfl⟩⟩
  case rest=>
   obtain⟨W,rfl⟩:=zgy wc;obtain⟨rfl,hw⟩:=hcut;obtain⟨w,rfl⟩:=zgy w';obtain⟨q,D⟩:=hw.out;have y:Hid (Xd F W p L d U N):=ZZ (by rw[D,HU.o];exact H.out.keep (fun _ _=>rfl) zL)
   have aa:Hid (Ql F w W):=ZZ (by rw[D];exact(Ql.refl _ _).drewN q)
   have ad:Hid (Rd W (.slice ao b.length cap) b):=ZZ (by rw[D];exact ay.o.below (Xo (zac _ _) q) zL)
   clear hw D c0 c1 c2 an a1 H ay l E HD;obtain⟨⟨-,-,c2,-,-,-⟩,-⟩:=y.o.cells;have j:=y.o.rest.now.look hn;rw[ab.o] at j;have aN:(Instr.lookup 65 (.map (some L.now)) (.int .i64 n) true).run prog W=.ok (.tuple #[.pointer none,.bool false]) W:=j;have aL:=ZZ (y.o.addFile t.o);have aO:=ZZ (aa.o.alloc (.cells #[.slice none 0 0,.int .i64 0] 117));have aQ:Hid (Rd (W.alloc (.cells #[.slice none 0 0,.int .i64 0] 117)) (.slice ao b.length cap) b):=ZZ (ad.o.below ((zac _ _).alloc zL _) zL);have aY:Hid (w.heap.size<=W.heap.size):=ZZ aa.o.size;have aX:Hid (W.heap.size<(W.alloc (.cells #[.slice none 0 0,.int .i64 0] 117)).heap.size):=ZZ (by simp)
   obtain⟨a,aF⟩:=zgy (W.alloc (.cells #[.slice none 0 0,.int .i64 0] 117));rw[<-aF] at aL aO aQ aX;have ba:=ZZ aF;have l:=ab;clear aF j
   go_upto_region 10 with fail
   rw[<-ba.o];clear ba aN c2
   go_wp2_with fail
   refine(ZwV n W.heap.size a).mono ?_;rintro e m ⟨rfl,am⟩;have av:Below a.heap.size a m:=by rw[am];exact((zac _ _).alloc zL _).alloc (by simp) _
   have bd:m.heap.size=a.heap.size+1+1:=by rw[am];simp
   have a4:Bk 3 m a.heap.size #[.int .i64 n]:=by rw[am];exact(zao _ _ _ (by simp)).trans (zaf a _)
   have a2:Bk 115 m (a.heap.size+1) #[ptr W.heap.size]:=by
    have e1:a.heap.size+1=(a.alloc (.cells #[.int .i64 n] 3)).heap.size:=by simp
    rw[am,e1];exact zaf _ _
   have az:=ZZ (aL.o.more av);obtain⟨FB,ac⟩:=zgy (Gr (Gr F W a) a m);rw[<-ac] at az;obtain⟨LB,aD⟩:∃ LB:Lay,LB={ L with ps:=fun i=>if i=d.files.length then W.heap.size else L.ps i,vs:=fun i=>if i=d.files.length then .slice none 0 0 else L.vs i }:=⟨_,rfl⟩
   have aH:LB.ps d.files.length=W.heap.size:=by rw[aD];exact zab rfl
   rw[<-aD] at az;have a9:Hid (ChV FB m LB.ps (.give n d.files.length) (.func (.func 139) #[] #[ptr (a.heap.size+1),ptr a.heap.size])):=ZZ ⟨_,_,rfl,a4,by rw[aH];exact a2,by rw[ac];exact .inr ⟨zat _,by omega⟩,by rw[ac];exact .inr ⟨by omega,by omega⟩⟩
   have ax:Hid (∀ k,FB k->F k∨w.heap.size<=k):=ZZ (fun k hk=>by
    rw[ac] at hk;have h1:=aY.o;have h2:=aX.o;rcases hk with (hk | hk) | hk
    ·exact .inl hk
    ·exact .inr (by omega)
    ·exact .inr (by omega))
   have aU:Hid (Ql F w m):=ZZ (aO.o.trans (G:=fun _=>False) (Ql.ofBelow av) (fun _ _ hf=>hf.elim))
   have a8:Hid (Rd m (.slice ao b.length cap) b):=ZZ (aQ.o.below av zL);have a5:=ZZ aH
   have a6:Hid (OkD { d with files:=d.files++[⟨[],0⟩] }):=ZZ ⟨fun k=>(t.o.dirs k).more (by simp),fun c hc=>(t.o.chs c hc).more (by simp),fun x hx=>by
    rcases zaw.1 hx with hx | hx
    ·exact t.o.keep x hx
    ·rw[zaq.1 hx];exact zat _⟩
   have a0:=ZZ (ZhP m az.o a9.o a6.o ⟨aM.o,by simp⟩ hN (by have:=aw.o.names;show d.waits.length<=1000000;omega))
   clear av bd a4 a2 ac aD aH am
   go_wp2_with fail
   refine a0.o.mono ?_;rintro e WC ⟨rfl,LC,a3,bb,-,aW⟩;have aB:Hid (look (Qm (Jd d n)) n=some d.files.length):=ZZ (Zru t.o n);have g:Hid (Xd (Gr FB m WC) WC p LC (Jd d n) U (N+1)):=ZZ a3;have aJ:Hid (U=(Jb (Jd d n):Int)):=ZZ (by rw[ZoX t.o l.o];exact HU.o)
   have aR:Hid (OkD (Jd d n)):=ZZ (t.o.fresh aM.o);have ae:Hid (Bnd (Jd d n) (N+1) T):=ZZ (aw.o.fresh n);have ar:Hid (I64 (Jd d n).room∧I64 (Jd d n).power):=ZZ HI.o
   have z:Hid (∀ k,Gr FB m WC k->F k∨w.heap.size<=k):=ZZ (fun k hk=>by
    rcases hk with hk | hk
    ·exact ax.o k hk
    ·have:=aU.o.size;exact .inr (by omega))
   have I:Hid (Ql F w WC):=ZZ (aU.o.trans aW (fun k hk hf=>(ax.o k hf).resolve_right (by omega)))
   have aV:Hid (Rd WC (.slice ao b.length cap) b):=ZZ (a8.o.onlyN (B:=w.heap.size) aW ax.o HV.o bi.o);have hf:d.files.length<(Jd d n).files.length:=by simp[Jd]
   have aZ:LC.ps d.files.length=W.heap.size:=by rw[bb];exact a5.o
   rw[<-aZ];clear a3 bb aW aZ a0 a9 az ax aU a8 a5 a6 aL aO aQ aY aX l y aa ad t aw HI HU hn aM
   go_upto_region 11 with fail
   obtain⟨g0,y0⟩:=(g.o.rest.file d.files.length hf).box.cell 0 rfl;have ai:=ZZ (g.o.rest.file d.files.length hf).own;have P:=ZZ (g.o.rest.file d.files.length hf).box;obtain⟨va,vc,V⟩:=(g.o.rest.file d.files.length hf).own.shape;rw[V] at g0;have aj:=ZZ V;have aG:Hid ((fl (Jd d n).files d.files.length).b.length+b.length<=70368744177664):=ZZ (by have:=ae.o.bytes _ (ZbH hf);omega)
   clear V
   go_wp2_with(at_builtin;refine(fun(h:True->_)=>h trivial) ?_)
   intro _;rw[<-aj.o];refine ZbO WC rfl _ _ rfl (LC.vs d.files.length) _ rfl ai.o _ b rfl aV.o aG.o ?_;intro v' w2 Y O af;obtain⟨ag,ap⟩:=g.o.grow hf Y O af;have A:=ZZ ag;have S:=ZZ ap
   have al:(LC.vs d.files.length).ownBlock≠some (LC.ps d.files.length):=fun e=>by
    obtain⟨bg,aT⟩:=Dc ai.o e;exact(P.out.ne aT (by decide)) rfl
   obtain⟨g2,y2⟩:=(P.out.keep (O.block _ P.out.lt (fun e=>al e.symm))).cell 0 rfl
   rw[aj.o] at g2;obtain⟨aK,aS,au⟩:=Y.shape;rw[au] at A S ⊢;obtain⟨Q,X⟩:=zgy (w2.setCell ⟨LC.ps d.files.length,0,none⟩ (.slice aK ((fl (Jd d n).files d.files.length).b++b).length aS));have J:=ZZ X;obtain⟨M,K⟩:=zgy (((fl (Jd d n).files d.files.length).b++b).length);rw[<-X] at A S;rw[<-K];rw[<-K] at J;clear Y O af ag ap al au X K g0 y0
   go_upto_region 12 with fail
   rw[<-J.o];clear J g2 y2;obtain⟨⟨-,k1,-,-,-,-⟩,j1,-⟩:=A.o.cells;obtain⟨u,C⟩:=zgy (Q.setCell ⟨p,1,none⟩ (.int .i64 (U+(b.length:Int))));have ak:=ZZ (A.o.setHead 1 (.int .i64 (U+(b.length:Int))) (d':={ (Jd d n) with files:=Yr (Jd d n).files d.files.length b }) (u':=U+(b.length:Int)) ⟨rfl,rfl,rfl⟩ rfl)
   have aI:Hid (Ql F w u):=ZZ (by
    rw[C]
    exact(I.o.trans S.o (fun k hk hf=>(z.o k hf).resolve_right (by omega))).setCell 1 (fun bc=>((z.o p g.o.fh).resolve_right (by omega))) _)
   rw[<-C] at ak;have aq:=ZZ C;clear C
   go_upto_region 13 with fail
   rw[<-aq.o];clear aq k1 j1
   go_wp2_with fail
   refine(Zcc u ak.o ar.o.2).mono ?_;rintro e W5 ⟨rfl,aP,aC⟩;go_wp2;go_ret;refine Zgk.appended aR.o ae.o ar.o aB.o (by rw[<-aJ.o];exact aP) ((aI.o.trans aC (fun k hk hf=>?_))) (fun k hk=>?_) (by omega)
   ·rcases hf with hf | hf
    ·exact(z.o k hf).resolve_right (by omega)
    ·have:=I.o.size;omega
   ·rcases hk with hk | hk
    ·exact z.o k hk
    ·have:=I.o.size;exact .inr (by omega)
theorem Own.nil (w:World) (B:Nat):Own w B (.slice none 0 0) []:=zcb w B 5 1
theorem Zls (w:World) (ty:TypeId) (B:Nat) (v:Value) (b:List UInt8) (c:Own w B v b) (f:Value) (l:List UInt8) (q:Rd w f l)
 (E:b.length+l.length<=70368744177664) (e:B<=w.heap.size):
 ∃ v' w',(Builtin.append_ #[53,53] ty #[v,f]).run prog w=.ok v' w'∧Own w' B v' (b++l)∧Below B w w':=by
 obtain⟨g,i,j,m,A⟩:=zbo Zlf;obtain⟨ao,cap,rfl,C,D,u,x⟩:=q
 cases ao with
 | none=>
  have y:=u rfl;subst y;have t:l=[]:=zaj (by omega)
  subst t;have d:=zc5 (P:=prog) w B 53 ty 5 g 1 underlying53 i v b.length (Lib.byteCells b) c;exact⟨v,w,d,by rw[zcx];exact c,zac _ _⟩
 | some a=>
  obtain⟨v',w',d,z,p,_⟩:=zdc (P:=prog) w B 53 ty 5 g (.int .u8 0) 1 1 underlying53 i j m A rfl (by decide) v b.length (Lib.byteCells b) c a l.length cap (Lib.byteCells l)
   (by rw[Y0,zch]) (Rd.cells x a rfl) (ZaJ l) (by unfold maxLen;omega) (by omega) e
  refine⟨v',w',d,Own.mk' z (by simp) (by simp[Lib.byteCells]),?_⟩
  exact(zac _ _).grown p e (fun k n=>(zar c k n).1)
theorem ZmZ {o:Oper} {a:Act} {K:Act->World->Prop} {Q:Exit->Act->World->Prop} (w:World) (s x:Operand)
 (m:o.op=.call { callee:=.builtin .append,args:=#[s,x],argTypes:=#[53,53] })
 (B:Nat) (v:Value) (b:List UInt8) (n:a.eval s=v) (j:Own w B v b) (c:Value) (l:List UInt8) (p:a.eval x=c) (i:Rd w c l)
 (f:b.length+l.length<=70368744177664) (e:B<=w.heap.size)
 (h:∀ v' w',Own w' B v' (b++l)->Below B w w'->K (a.put o.dst v') w'):o.wp prog a w K Q:=by
 obtain⟨v',w',k,g,d⟩:=Zls w o.type B v b j c l i f e;unfold Oper.wp execOp;simp only [m,resolve,invoke,builtin,zbk,zbn,za7,map_toArray,map_cons,map_nil,n,p,k];exact h v' w' g d
theorem Xw (w:World) {d:Array Oper} {rest:List Oper} {o:Oper} {a:Act} {Q:Exit->Act->World->Prop} (g:o.guard=none) (s x:Operand)
 (n:o.op=.call { callee:=.builtin .append,args:=#[s,x],argTypes:=#[53,53] })
 (B:Nat) (v:Value) (b:List UInt8) (p:a.eval s=v) (m:Own w B v b) (c:Value) (l:List UInt8) (t:a.eval x=c) (k:Rd w c l)
 (i:b.length+l.length<=70368744177664) (f:B<=w.heap.size)
 (h:∀ v' w',Own w' B v' (b++l)->Below B w w'->wpList prog d Q rest (a.put o.dst v') w'):wpList prog d Q (o::rest) a w:=
 zbr g fun _ q=>ZmZ w s x n B v b p m c l t k i f fun v' w' j e=>q _ _ (h v' w' j e)
end Go.Proofs.YtnahjngbneicaaaGreatDoor
