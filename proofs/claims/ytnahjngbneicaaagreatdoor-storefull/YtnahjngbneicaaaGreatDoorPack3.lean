import Derived.Test.YtnahjngbneicaaaGreatDoorPack1
import Derived.Shelf.SlMaps.Clone
import Derived.Shelf.SlMaps.Copy
import Derived.Shelf.Sort.Plain
import Derived.Shelf.Slices.In.SortNone
import Derived.Deep.RegionLaw
namespace Go.Proofs.YtnahjngbneicaaaGreatDoor
set_option linter.unusedSimpArgs false
open _root_.Go.Proofs.Tryz
open List (foldl_append length_append map_cons map_nil map_toArray)
set_option maxHeartbeats 2000000
set_option maxRecDepth 100000
open Go.RowKit Go.Shelf
variable {B N N' T T' b base m n p s x:Nat} {v v':Value} {f:Int->Option Nat} {a w w':World} {F F' G:Nat->Prop} {c:Ch} {l:List UInt8} {t:TypeId} {cs:Array Value} {d:Dk} {xs:List Value} {u:Int} {fs:List Fl}
abbrev zbk:=@Go.heap_setCell_same
abbrev zb5:=@List.length_take
abbrev zcb:=@List.length_cons
abbrev zct:=@Nat.mul_one
abbrev zc0:=@List.length_nil
abbrev zc6:=@Go.run_append_owned_none
abbrev zc8:=@List.append_nil
abbrev zdt:=@Nat.le_succ
abbrev zep:=@Nat.le_of_eq
abbrev zew:=@Bool.false_eq_true
abbrev ze5:=@Go.run_underlying
abbrev zfh:=@Go.Maps.keyOf_int_mk
abbrev zfl:=@List.take_take
abbrev zf4:=@List.getElem?_append
abbrev zf5:=@Nat.mul_le_mul_right
abbrev zgi:=@Nat.mul_le_mul
def Zxj:Go.Shelf.Ren:=⟨fun | 5=>145 | 7=>192 | n=>n,fun | 23=>65 | 25=>3 | 3=>115 | 4=>4 | 20=>20 | n=>n,fun | n=>n⟩
theorem layW:Go.Proofs.SlLaysW.n5 prog Zxj:={
 mixed:=by kernel_rfl
 f5:=⟨f145.name,by decide,func145.trans (congrArg some (by kernel_rfl))⟩
 f7:=func192.trans (congrArg some (by kernel_rfl))
 t4:=underlying4
 a4:=Tryz.isAgg4
 z4:=Tryz.sizeOf4
 v4:=Tryz.zeroValue4
 t20:=underlying20
 a20:=Tryz.isAgg20
 z20:=Tryz.sizeOf20
 v20:=Tryz.zeroValue20
 t23:=underlying65
 a23:=Tryz.isAgg65
 z23:=Tryz.sizeOf65
 v23:=Tryz.zeroValue65 }
def Zxk:Go.Shelf.Ren:=⟨fun | 5=>73 | n=>n,fun | 23=>65 | 24=>65 | 26=>3 | 27=>115 | 0=>0 | 4=>4 | n=>n,fun | n=>n⟩
theorem layX:Go.Proofs.SlLaysX.n5 prog Zxk:={
 mixed:=by kernel_rfl
 f5:=⟨f73.name,by decide,func73.trans (congrArg some (by kernel_rfl))⟩
 t0:=underlying0
 a0:=Tryz.isAgg0
 z0:=Tryz.sizeOf0
 v0:=Tryz.zeroValue0
 t4:=underlying4
 a4:=Tryz.isAgg4
 z4:=Tryz.sizeOf4
 v4:=Tryz.zeroValue4
 t23:=underlying65
 a23:=Tryz.isAgg65
 z23:=Tryz.sizeOf65
 v23:=Tryz.zeroValue65
 t24:=underlying65
 a24:=Tryz.isAgg65
 z24:=Tryz.sizeOf65
 v24:=Tryz.zeroValue65
 a26:=Tryz.isAgg3
 z26:=Tryz.sizeOf3
 a27:=Tryz.isAgg115
 z27:=Tryz.sizeOf115 }
def Zxl:Go.Shelf.Ren:=⟨fun | 189=>67 | 125=>109 | 257=>108 | 128=>155 | 129=>156 | 294=>146 | 295=>147 | 296=>148 | 297=>149 | 298=>150 | 299=>151 | 216=>152 | 300=>153 | 301=>154 | 328=>193 | 329=>194 | 330=>195 | 331=>196 | 332=>197 | 215=>198 | 343=>216 | n=>n,fun | 28=>23 | 3=>3 | 46=>157 | 0=>0 | 51=>145 | 53=>202 | 4=>4 | 183=>194 | 182=>193 | 131=>170 | 5=>5 | 9=>9 | 218=>239 | 222=>208 | 228=>268 | 229=>247 | n=>n,fun | n=>n⟩
theorem ZAP:Go.Proofs.Lays.n189 prog Zxl:={
 mixed:=by kernel_rfl
 f125:=func109.trans (congrArg some (by kernel_rfl))
 f128:=func155.trans (congrArg some (by kernel_rfl))
 f129:=func156.trans (congrArg some (by kernel_rfl))
 f189:=func67.trans (congrArg some (by kernel_rfl))
 f215:=func198.trans (congrArg some (by kernel_rfl))
 f216:=func152.trans (congrArg some (by kernel_rfl))
 f257:=func108.trans (congrArg some (by kernel_rfl))
 f294:=func146.trans (congrArg some (by kernel_rfl))
 f295:=func147.trans (congrArg some (by kernel_rfl))
 f296:=func148.trans (congrArg some (by kernel_rfl))
 f297:=func149.trans (congrArg some (by kernel_rfl))
 f298:=func150.trans (congrArg some (by kernel_rfl))
 f299:=func151.trans (congrArg some (by kernel_rfl))
 f300:=func153.trans (congrArg some (by kernel_rfl))
 f301:=func154.trans (congrArg some (by kernel_rfl))
 f328:=func193.trans (congrArg some (by kernel_rfl))
 f329:=func194.trans (congrArg some (by kernel_rfl))
 f330:=func195.trans (congrArg some (by kernel_rfl))
 f331:=func196.trans (congrArg some (by kernel_rfl))
 f332:=func197.trans (congrArg some (by kernel_rfl))
 f343:=func216.trans (congrArg some (by kernel_rfl))
 t0:=underlying0
 a0:=Tryz.isAgg0
 z0:=Tryz.sizeOf0
 v0:=Tryz.zeroValue0
 t3:=underlying3
 a3:=Tryz.isAgg3
 z3:=Tryz.sizeOf3
 v3:=Tryz.zeroValue3
 t4:=underlying4
 a4:=Tryz.isAgg4
 z4:=Tryz.sizeOf4
 v4:=Tryz.zeroValue4
 t5:=underlying5
 a5:=Tryz.isAgg5
 z5:=Tryz.sizeOf5
 v5:=Tryz.zeroValue5
 t9:=underlying9
 a9:=Tryz.isAgg9
 z9:=Tryz.sizeOf9
 v9:=Tryz.zeroValue9
 t28:=underlying23
 a28:=Tryz.isAgg23
 z28:=Tryz.sizeOf23
 v28:=Tryz.zeroValue23
 t46:=underlying157
 a46:=Tryz.isAgg157
 z46:=Tryz.sizeOf157
 v46:=Tryz.zeroValue157
 t51:=underlying145
 a51:=Tryz.isAgg145
 z51:=Tryz.sizeOf145
 v51:=Tryz.zeroValue145
 t53:=underlying202
 a53:=Tryz.isAgg202
 z53:=Tryz.sizeOf202
 v53:=Tryz.zeroValue202
 t131:=underlying170
 a131:=Tryz.isAgg170
 z131:=Tryz.sizeOf170
 v131:=Tryz.zeroValue170
 t182:=underlying193
 a182:=Tryz.isAgg193
 z182:=Tryz.sizeOf193
 v182:=Tryz.zeroValue193
 t183:=underlying194
 a183:=Tryz.isAgg194
 z183:=Tryz.sizeOf194
 v183:=Tryz.zeroValue194
 t218:=underlying239
 a218:=Tryz.isAgg239
 z218:=Tryz.sizeOf239
 v218:=Tryz.zeroValue239
 t222:=underlying208
 a222:=Tryz.isAgg208
 z222:=Tryz.sizeOf208
 v222:=Tryz.zeroValue208
 t228:=underlying268
 a228:=Tryz.isAgg268
 z228:=Tryz.sizeOf268
 v228:=Tryz.zeroValue268
 t229:=underlying247
 a229:=Tryz.isAgg247
 z229:=Tryz.sizeOf247
 v229:=Tryz.zeroValue247 }
open Go.RowKit Go.Maps Go.Shelf
open Go.ChangeMaps Go.MapKept
open Go.WideElems (Fit rd rg pl rd_val elemAt)
theorem ZbB:Keyed prog 3:=int_keyed underlying3
theorem ZuH (w:World):(zeroValue 115).run prog w=.ok (.pointer none) w:=by kernel_rfl
theorem Zxm {n:Int} (h:I64 n):(Lit.int .i64 n).wf=true:=WalkArith.wf_i64 (by obtain⟨b,a⟩:=h;omega)
def ZaG (v:Value):Option (DataW Unit × List MemPlace):=
 match v with
 | .pointer (some ⟨b,0,none⟩)=>some (.lit (.int .i64 (b:Int)),[])
 | _=>none
theorem Zsk (b:Nat):ZaG (.pointer (some ⟨b,0,none⟩))=some (.lit (.int .i64 (b:Int)),[]):=rfl
theorem ZdX {z:DataW Unit × List MemPlace} (h:ZaG v=some z):∃ b:Nat,v=.pointer (some ⟨b,0,none⟩)∧z=(.lit (.int .i64 (b:Int)),[]):=by
 unfold ZaG at h;split at h
 ·cases h
  exact⟨_,rfl,rfl⟩
 ·cases h
def ZAQ (z:DataW Unit):Option Nat->DataW Unit
 | some x=>.lit (.int .i64 (x:Int))
 | none=>z
def ZuI (D:DataW Unit) (f:Int->Option Nat):Prop:=
 ∀ p,I64 p->∀ z,D.atKey (.int .i64 p) z=ZAQ z (f p)
def Yn (w:World) (b n:Nat) (f:Int->Option Nat):Prop:=
 ∃ D:DataW Unit,w.ownsMap prog 3 ZaG b n D∧ZuI D f
def Zrf:Option Nat->Value
 | some x=>.pointer (some ⟨x,0,none⟩)
 | none=>.pointer none
theorem ZuI.has {D:DataW Unit} (h:ZuI D f) {p:Int} (a:I64 p):Maps.has D (.int .i64 p)=(f p).isSome:=by
 cases e:f p with
 | none=>
  refine has_false_of_atKey fun z=>?_
  rw[h p a z,e];rfl
 | some x=>
  refine has_true_of_atKey (y:=.lit (.int .i64 (x:Int))) fun z=>?_
  rw[h p a z,e];rfl
theorem Yn.made (w:World):Yn (w.alloc (.map #[] 0)) w.heap.size 0 (fun _=>none):=
 ⟨.map [],World.ownsMap_made _ _ _ _,fun _ _ _=>rfl⟩
theorem Yn.lt (h:Yn w b n f):b<w.heap.size:=by
 obtain⟨D,a,_⟩:=h;exact a.lt
theorem Yn.mono {n':Nat} (h:Yn w b n f) (a:n<=n'):Yn w b n' f:=by
 obtain⟨D,d,c⟩:=h;exact⟨D,d.mono a,c⟩
theorem Yn.keep (h:Yn w b n f) (e:w'.heap[b]?=w.heap[b]?):Yn w' b n f:=by
 obtain⟨D,⟨d,c,a,r⟩,g⟩:=h;exact⟨D,⟨d,c,e.trans a,r⟩,g⟩
theorem Yn.fun {w:World} {b n:Nat} {f g:Int->Option Nat} (h:Yn w b n f) (e:∀ p,I64 p->f p=g p):Yn w b n g:=by
 obtain⟨D,d,c⟩:=h;exact⟨D,d,fun p a z=>by rw[c p a z,e p a]⟩
theorem Yn.apart (h:Yn w b n f) {cs:Array Value} {t:TypeId} {z:Nat × Nat} {g:Nat} (a:w.heap[g]?=some (.cells cs t z)):g≠b:=by
 obtain⟨D,⟨i,d,c,_⟩,_⟩:=h;intro e;rw[e,c] at a
 cases a
theorem ZuJ (h:∀ z:DataW Unit,DataW.lit (.int .i64 (x:Int))=z):False:=by
 have:=h (.map [])
 cases this
theorem Zxn {y:Nat} (h:DataW.lit (H:=Unit) (.int .i64 (x:Int))=.lit (.int .i64 (y:Int))):x=y:=by
 simp only [DataW.lit.injEq,Lit.int.injEq,true_and] at h;omega
theorem Yn.lookC (h:Yn w b n f) {p:Int} (g:I64 p) (c:Bool):(Instr.lookup 65 (.map (some b)) (.int .i64 p) c).run prog w=.ok (if c then .tuple #[Zrf (f p),.bool (f p).isSome] else Zrf (f p)) w:=by
 obtain⟨D,⟨q,t,k,F,_,rfl⟩,j⟩:=h;rcases Maps.fit_look c ZbB underlying65 (ZuH w) k F (zfh underlying3 (Zxm g)) with ⟨i,_,d⟩ | ⟨u,y,_,_,i,m,d,_⟩
 ·have e:f p=none:=by
   cases e:f p with
   | none=>rfl
   | some x=>
    refine(ZuJ (x:=x) fun z=>?_).elim
    rw[<-d z,j p g z,e];rfl
  rw[i,e];rfl
 ·obtain⟨x,l,rfl⟩:=ZdX m
  have e:f p=some x:=by
   cases e:f p with
   | none=>
    refine(ZuJ (x:=x) fun z=>?_).elim
    have a:=d z;rw[j p g z,e] at a;exact a.symm
   | some x'=>
    have a:=d (.map []);rw[j p g,e] at a;rw[Zxn a]
  rw[i,e,l];rfl
theorem Yn.look (h:Yn w b n f) {p:Int} (a:I64 p):(Instr.lookup 65 (.map (some b)) (.int .i64 p) true).run prog w=.ok (.tuple #[Zrf (f p),.bool (f p).isSome]) w:=h.lookC a true
theorem Yn.look1 (h:Yn w b n f) {p:Int} (a:I64 p):(Instr.lookup 65 (.map (some b)) (.int .i64 p) false).run prog w=.ok (Zrf (f p)) w:=h.lookC a false
theorem Yn.put (h:Yn w b n f) {p:Int} (x:Nat) (l:I64 p) (y:n<=10000000):
 ∃ w',(Instr.mapUpdate 65 (.map (some b)) (.int .i64 p) (.pointer (some ⟨x,0,none⟩))).run prog w=.ok () w'∧Yn w' b (n+1) (fun m=>if m=p then some x else f m)∧w.grownBy w' (some b):=by
 obtain⟨D,a,t⟩:=h;have k:IsMap D:=by obtain⟨v,A,B,F,u,g⟩:=a;exact⟨_,g⟩
 obtain⟨w',d,i,j⟩:=a.update ZbB underlying65 (by unfold maxLen;omega) (zfh underlying3 (Zxm l)) (Zsk x)
 refine⟨w',d,⟨_,i,fun q c z=>?_⟩,j⟩
 show _=ZAQ z (if q=p then some x else f q)
 by_cases e:q=p
 ·rw[zab e,e,atKey_put_same k (by first | exact trivial | simp[WideAt.IsKeyLit])]
  rfl
 ·rw[zaa e,atKey_put_other (by intro h;injection h with _ h;exact e h),t q c z]
theorem Yn.del (h:Yn w b n f) {p:Int} (v:I64 p) (ty:TypeId):
 ∃ w',(Builtin.delete_ #[65,3] ty #[.map (some b),.int .i64 p]).run prog w=.ok (.tuple #[]) w'∧Yn w' b n (fun m=>if m=p then none else f m)∧w.grownBy w' (some b):=by
 obtain⟨D,⟨j,l,a,F,c,rfl⟩,y⟩:=h;obtain⟨t,k,F',x,d,_⟩:=Maps.fit_drop (ty:=ty) ZbB underlying65 a F (zfh underlying3 (Zxm v));refine⟨_,k,⟨_,⟨t,l,heap_setBlock_same a _,F',zau x c,rfl⟩,fun q g z=>?_⟩,⟨rfl,rfl,rfl,by simp[setBlock],fun i _ u=>heap_setBlock_other a _ (fun e=>u (by rw[e]))⟩⟩
 rw[d];show((DataW.map ((j.toList.map (rg prog 3 ZaG)).foldr DataW.insert [])).del (.int .i64 p)).atKey (.int .i64 q) z=_;show _=ZAQ z (if q=p then none else f q)
 by_cases e:q=p
 ·rw[zab e,e,atKey_del_same]
  rfl
 ·rw[zaa e,atKey_del_other (by intro h;injection h with _ h;exact e h),y q g z]
theorem Yn.clear (h:Yn w b n f) (ty:TypeId):
 ∃ w',(Builtin.clear_ #[65] ty #[.map (some b)]).run prog w=.ok (.tuple #[]) w'∧Yn w' b 0 (fun _=>none)∧w.grownBy w' (some b):=by
 obtain⟨D,⟨j,c,a,F,g,rfl⟩,k⟩:=h;refine⟨setBlock w b (.map #[] c),?_,⟨.map [],⟨#[],c,heap_setBlock_same a _,⟨by simp,stamped_empty c,by simp⟩,za0 _,rfl⟩,fun _ _ _=>rfl⟩,⟨rfl,rfl,rfl,by simp[setBlock],fun i _ d=>heap_setBlock_other a _ (fun e=>d (by rw[e]))⟩⟩
 simp[Builtin.clear_,ze5 underlying65,MapKept.run_getObj_map a,MapKept.run_setObj_map _ a,Result.andThen,setBlock]
theorem Zng {D:DataW Unit} (c:Maps.CanonK (Maps.KeysOf prog 3) D):Lib.mergeD (.map []) D=D:=by
 refine(merged_eq ZbB.one (left:=fun _=>false) ⟨fun k=>?_,fun k z=>?_⟩ (fun _=>rfl) (c.canon ZbB.one) ⟨[],rfl,List.Pairwise.nil,fun p a=>by cases a⟩ c).symm
 ·show Maps.has D k=(false || (Maps.has D k && true))
  cases Maps.has D k <;> rfl
 ·cases e:Maps.has D k with
  | true=>rfl
  | false=>
   rw[atKey_of_not_has e];rfl
theorem Zsl (h:Yn w b n f):
 Calls prog 145 #[.map (some b)] w fun e w'=>e=.returned (.map (some w.heap.size))∧Yn w' w.heap.size n f∧w'.heap.size=w.heap.size+1∧Below w.heap.size w w':=by
 obtain⟨D,⟨c,a,d,r⟩,g⟩:=h;refine(AnyW.maps_Clone layW b c a w d).mono fun e w' ⟨he,hw⟩=>?_
 subst hw;exact⟨he,⟨D,⟨c,a,(MapKept.heap_alloc w _).1,r⟩,g⟩,by simp,(zac _ w).alloc zL _⟩
theorem Zxo {a bs:Nat} (j:Yn w a 0 (fun _=>none)) (b:Yn w bs n f) (k:a≠bs) (u:n<=10000000):
 Calls prog 73 #[.map (some a),.map (some bs)] w fun e w'=>e=.returned (.tuple #[])∧Yn w' a n f∧w.grownBy w' (some a):=by
 obtain⟨l,i,x⟩:=j;obtain⟨d,c,m⟩:=b
 have v:Maps.size d<=n:=by
  obtain⟨g,p,t,F,b,rfl⟩:=c;rw[size_eq,length_sorted];simpa using b
 have q:l=.map []:=by
  obtain⟨g,p,t,F,b,rfl⟩:=i;have:g=#[]:=by simpa using b
  subst this;rfl
 subst q;refine(AnyX.maps_Copy layX ZbB ZaG a bs 0 n (.map []) d w i c k (by unfold maxLen;omega)).mono fun e w' ⟨he,ho,_,hg⟩=>?_
 rw[Zng (c.canonK ZbB)] at ho;exact⟨he,⟨d,ho.mono (by omega),m⟩,hg⟩
open Go.RowKit
structure Ql (F:Nat->Prop) (w w':World):Prop where
 os:w'.os=w.os
 tape:w'.tape=w.tape
 output:w'.output=w.output
 size:w.heap.size<=w'.heap.size
 block:∀ k,k<w.heap.size->¬ F k->w'.heap[k]?=w.heap[k]?
theorem Ql.refl (F:Nat->Prop) (w:World):Ql F w w:=⟨rfl,rfl,rfl,za0 _,fun _ _ _=>rfl⟩
theorem Ql.trans {b c:World} (h:Ql F a b) (k:Ql G b c) (g:∀ x,x<a.heap.size->G x->F x):Ql F a c:=
 ⟨k.os.trans h.os,k.tape.trans h.tape,k.output.trans h.output,zau h.size k.size,fun i d e=>(k.block i (zay d h.size) (fun f=>e (g i d f))).trans (h.block i d e)⟩
theorem Ql.mono (h:Ql F w w') (c:∀ k,F k->G k):Ql G w w':=⟨h.os,h.tape,h.output,h.size,fun k b d=>h.block k b fun a=>d (c k a)⟩
theorem Ql.ofGrown {row:Option Nat} (h:w.grownBy w' row) (b:∀ k,row=some k->k<w.heap.size->F k):Ql F w w':=
 ⟨h.os,h.tape,h.output,h.size,fun k a c=>h.block k a fun e=>c (b k e.symm a)⟩
theorem Ql.ofBelow (h:Below w.heap.size w w'):Ql F w w':=⟨h.os,h.tape,h.output,h.size,fun k a _=>h.block k a⟩
theorem Ql.below (h:Ql F w w') (a:B<=w.heap.size) (d:∀ k,F k->B<=k):Below B w w':=
 ⟨h.os,h.tape,h.output,h.size,fun k c=>h.block k (zay c a) fun b=>by have:=d k b;omega⟩
theorem Ql.setCell (h:Ql F a w) {b:Nat} (i:Nat) (f:b<a.heap.size->F b) (x:Value):Ql F a (w.setCell ⟨b,i,none⟩ x):=by
 have c:=(zac 0 w).setCell (p:=⟨b,i,none⟩) (zap _) x;refine⟨c.os.trans h.os,c.tape.trans h.tape,c.output.trans h.output,zau h.size c.size,fun k d e=>?_⟩
 rw[zat _ _ _ _ (show k≠b by rintro rfl;exact e (f d))]
 exact h.block k d e
theorem Ql.alloc (h:Ql F a w) (o:Obj):Ql F a (w.alloc o):=
 h.trans (G:=fun _=>False) (Ql.ofBelow ((zac _ _).alloc zL o)) (fun _ _ b=>b.elim)
theorem Ql.drewN (h:Ql F a w) (n:Nat):Ql F a (w.drewN n):=⟨h.os,h.tape,h.output,h.size,h.block⟩
theorem RdI.only {l:List Int} (h:RdI w v l) {F:Nat->Prop} (i:Ql F w w') (t:∀ k,v.ownBlock=some k->¬ F k):RdI w' v l:=by
 obtain⟨ao,cap,rfl,u,n,g,p,c⟩:=h;refine⟨ao,cap,rfl,u,n,g,p,?_⟩;rcases c with c | ⟨b,d,rfl,m⟩
 ·exact .inl c
 ·refine .inr ⟨b,d,rfl,fun j f=>?_⟩
  have e:=m j f;have q:b<w.heap.size:=za1 w ⟨b,d+j,none⟩ e;rw[zb4 (a:=⟨b,d+j,none⟩) (i.block b q (t b rfl))];exact e
theorem RdI.onlyE {l:List Int} (h:RdI w v l) {F:Nat->Prop} (a:Ql F w w') (hv:l=[]∨∀ k,v.ownBlock=some k->¬ F k):RdI w' v l:=by
 rcases hv with rfl | hv
 ·obtain⟨ao,cap,rfl,e,d,b,c,f⟩:=h
  exact⟨ao,cap,rfl,e,d,b,c,.inl rfl⟩
 ·exact h.only a hv
def Bk (t:TypeId) (w:World) (b:Nat) (cs:Array Value):Prop:=w.heap[b]?=some (.cells cs t (0,0))
theorem Bk.lt (h:Bk t w b cs):b<w.heap.size:=(zar.1 h).1
theorem Bk.keep (h:Bk t w b cs) (a:w'.heap[b]?=w.heap[b]?):Bk t w' b cs:=a.trans h
theorem Bk.cell (h:Bk t w b cs) (j:Nat) {x:Value} (a:cs[j]?=some x):w.cell? ⟨b,j,none⟩=some x∧w.frozen? ⟨b,j,none⟩=false:=
 ⟨(zas w b j _ _ _ h).trans a,zbc w b j _ _ h⟩
theorem Bk.set (h:Bk t w b cs) (j:Nat) (x:Value):Bk t (w.setCell ⟨b,j,none⟩ x) b (cs.setIfInBounds j x):=by
 have:=zbk w b j _ _ x h;unfold Bk;simpa using this
theorem Bk.other (h:Bk t w b cs) (c j:Nat) (x:Value) (a:b≠c):Bk t (w.setCell ⟨c,j,none⟩ x) b cs:=
 (zat _ _ _ _ a).trans h
theorem Bk.ne {c:TypeId} {b':Nat} {d:Array Value} (h:Bk t w b cs) (a:Bk c w b' d) (e:t≠c):b≠b':=by
 rintro rfl;unfold Bk at h a;rw[h] at a;simp only [zb6,Obj.cells.injEq] at a;exact e a.2.1
theorem Di (h:w.ownsRow base t 1 v n xs) {g:Nat} (a:v.ownBlock=some g):∃ cs,Bk t w g cs:=by
 rcases h.2 with ⟨b,_⟩ | ⟨g',cap,cur,b,_,c,_⟩
 ·rw[b] at a;cases a
 ·rw[b] at a
  obtain rfl:g'=g:=by simpa[Value.ownBlock] using a
  exact⟨cur,c⟩
theorem Qh (h:w.ownsRow base t s v n xs) (d:∀ g,v.ownBlock=some g->w'.heap[g]?=w.heap[g]?):w'.ownsRow base t s v n xs:=by
 obtain⟨e,a⟩:=h;refine⟨e,?_⟩;rcases a with a | ⟨g,cap,cur,b,c,f,r⟩
 ·exact .inl a
 ·exact .inr ⟨g,cap,cur,b,c,(d g (by rw[b];rfl)).trans f,r⟩
abbrev ptr (b:Nat):Value:=.pointer (some ⟨b,0,none⟩)
theorem Rd.only (h:Rd w v l) {F:Nat->Prop} (i:Ql F w w') (q:∀ k,v.ownBlock=some k->¬ F k):Rd w' v l:=by
 obtain⟨ao,cap,rfl,t,n,g,c⟩:=h;refine⟨ao,cap,rfl,t,n,g,?_⟩;rcases c with c | ⟨b,d,rfl,m⟩
 ·exact .inl c
 ·refine .inr ⟨b,d,rfl,fun j f=>?_⟩
  have e:=m j f;have p:b<w.heap.size:=za1 w ⟨b,d+j,none⟩ e;rw[zb4 (a:=⟨b,d+j,none⟩) (i.block b p (q b rfl))];exact e
theorem Bk.neMap (h:Bk t w b cs) (a:Yn w m n f):b≠m:=a.apart h
theorem Own.shape (h:Own w B v l):∃ ao cap,v=.slice ao l.length cap:=by
 obtain⟨ao,cap,a,_⟩:=h.rd;exact⟨ao,cap,a⟩
theorem Own.front {ao:Option Addr} {cap:Nat} (h:Own w B (.slice ao n cap) l) (k:Nat) (i:k<=l.length):Own w B (.slice ao k cap) (l.take k):=by
 obtain⟨x,p⟩:=h;have b:(l.take k).length=k:=by simp;omega
 refine⟨by rw[Y4,zct],?_⟩
 rcases p with ⟨a,v⟩ | ⟨g,t,cur,a,d,j,u,f,m,c⟩
 ·left
  simp only [zbb] at a;obtain⟨rfl,rfl,rfl⟩:=a;have:k=0:=by omega
  subst this;exact⟨rfl,by rw[b]⟩
 ·right
  simp only [zbb] at a;obtain⟨rfl,q,rfl⟩:=a;refine⟨g,cap,cur,by rw[b],d,j,by rw[b];omega,f,m,?_⟩
  rw[zct] at c ⊢;rw[b];have e:Lib.byteCells (l.take k)=(Lib.byteCells l).take k:=by simp[Lib.byteCells]
  rw[e,<-c,zfl,zcy i]
structure Znh (w:World) (b:Nat) (v:Value) (x:Fl):Prop where
 box:Bk 117 w b #[v,.int .i64 (x.k:Int)]
 own:Own w 0 v x.b
theorem Znh.keep {x:Fl} (h:Znh w b v x) (c:w'.heap[b]?=w.heap[b]?) (a:∀ g,v.ownBlock=some g->w'.heap[g]?=w.heap[g]?):Znh w' b v x:=
 ⟨h.box.keep c,Qh h.own a⟩
def ChV (F:Nat->Prop) (w:World) (ps:Nat->Nat):Ch->Value->Prop
 | .give n f,v=>∃ b1 b2,v=.func (.func 139) #[] #[ptr b2,ptr b1]∧Bk 3 w b1 #[.int .i64 n]∧Bk 115 w b2 #[ptr (ps f)]∧F b1∧F b2
 | .move n tz f,v=>∃ b1 b2 b3,v=.func (.func 143) #[] #[ptr b3,ptr b2,ptr b1]∧Bk 3 w b1 #[.int .i64 n]∧Bk 3 w b2 #[.int .i64 tz]∧Bk 115 w b3 #[ptr (ps f)]∧F b1∧F b2∧F b3
 | .take n,v=>∃ b1,v=.func (.func 157) #[] #[ptr b1]∧Bk 3 w b1 #[.int .i64 n]∧F b1
def chOf:Ch->Option Nat
 | .give _ f=>some f
 | .move _ _ f=>some f
 | .take _=>none
theorem ChV.keep {ps q:Nat->Nat} (h:ChV F w ps c v) (e:∀ k,F k->F' k) (t:∀ f,chOf c=some f->q f=ps f)
 (d:∀ k cs,F k->(Bk 3 w k cs∨Bk 115 w k cs)->w'.heap[k]?=w.heap[k]?):ChV F' w' q c v:=by
 cases c with
 | give n f=>
  obtain⟨g,l,rfl,b,j,a,i⟩:=h;exact⟨g,l,rfl,b.keep (d _ _ a (.inl b)),by rw[t f rfl];exact j.keep (d _ _ i (.inr j)),e _ a,e _ i⟩
 | move n tz f=>
  obtain⟨g,l,u,rfl,b,j,p,a,i,m⟩:=h;exact⟨g,l,u,rfl,b.keep (d _ _ a (.inl b)),j.keep (d _ _ i (.inl j)),by rw[t f rfl];exact p.keep (d _ _ m (.inr p)),e _ a,e _ i,e _ m⟩
 | take n=>
  obtain⟨g,rfl,b,a⟩:=h;exact⟨g,rfl,b.keep (d _ _ a (.inl b)),e _ a⟩
structure Lay where
 now:Nat
 kept:Nat
 wv:Value
 cs:List Value
 ps:Nat->Nat
 vs:Nat->Value
structure Zpn (F:Nat->Prop) (w:World) (L:Lay) (d:Dk) (N:Nat):Prop where
 now:Yn w L.now N (fun n=>(look (Qm d) n).map L.ps)
 kept:Yn w L.kept N (fun n=>(look d.kept n).map L.ps)
 row:w.ownsRow 0 113 1 L.wv L.cs.length L.cs
 many:L.cs.length=d.waits.length
 wait:∀ (i:Nat) c v,d.waits[i]?=some c->L.cs[i]?=some v->ChV F w L.ps c v
 file:∀ i,i<d.files.length->Znh w (L.ps i) (L.vs i) (fl d.files i)
 psn:∀ i j,i<d.files.length->j<d.files.length->i≠j->L.ps i≠L.ps j
 vsn:∀ i j,i<d.files.length->j<d.files.length->i≠j->∀ g,(L.vs i).ownBlock=some g->(L.vs j).ownBlock≠some g
 nk:L.now≠L.kept
 fn:F L.now
 fk:F L.kept
 fw:∀ g,L.wv.ownBlock=some g->F g
 fp:∀ i,i<d.files.length->F (L.ps i)
 fv:∀ i,i<d.files.length->∀ g,(L.vs i).ownBlock=some g->F g
def ZfL (L:Lay) (d:Dk) (u:Int):Array Value:=#[.int .i64 d.room,.int .i64 u,.map (some L.now),.map (some L.kept),L.wv,.int .i64 d.power]
structure Xf (F:Nat->Prop) (w:World) (p:Nat) (L:Lay) (d:Dk) (u:Int) (N:Nat):Prop where
 head:Bk 69 w p (ZfL L d u)
 rest:Zpn F w L d N
 fh:F p
 lt:∀ k,F k->k<w.heap.size
theorem Zpn.keep {L:Lay} (h:Zpn F w L d N) (b:Bk 69 w p cs) (a:∀ k,F k->k≠p->w'.heap[k]?=w.heap[k]?):Zpn F w' L d N where
 now:=h.now.keep (a _ h.fn (b.neMap h.now).symm)
 kept:=h.kept.keep (a _ h.fk (b.neMap h.kept).symm)
 row:=Qh h.row fun g e=>a g (h.fw g e) (by obtain⟨l,hb⟩:=Di h.row e;exact hb.ne b (by decide))
 many:=h.many
 wait:=fun i c v m n=>(h.wait i c v m n).keep (fun _ j=>j) (fun _ _=>rfl) (fun k l j hb=>a k j (by rcases hb with hb | hb <;> exact hb.ne b (by decide)))
 file:=fun i f=>(h.file i f).keep (a _ (h.fp i f) ((h.file i f).box.ne b (by decide))) fun g e=>a g (h.fv i f g e) (by obtain⟨l,hb⟩:=Di (h.file i f).own e;exact hb.ne b (by decide))
 psn:=h.psn
 vsn:=h.vsn
 nk:=h.nk
 fn:=h.fn
 fk:=h.fk
 fw:=h.fw
 fp:=h.fp
 fv:=h.fv
theorem Zpn.mono {L:Lay} (h:Zpn F w L d N) (a:N<=N'):Zpn F w L d N':=
 ⟨h.now.mono a,h.kept.mono a,h.row,h.many,h.wait,h.file,h.psn,h.vsn,h.nk,h.fn,h.fk,h.fw,h.fp,h.fv⟩
theorem Xf.setHead {L:Lay} (h:Xf F w p L d u N) (j:Nat) (x:Value) {d':Dk} {u':Int} (b:d'.files=d.files∧d'.kept=d.kept∧d'.waits=d.waits)
 (f:(ZfL L d u).setIfInBounds j x=ZfL L d' u'):Xf F (w.setCell ⟨p,j,none⟩ x) p L d' u' N:=by
 refine⟨by rw[<-f];exact h.head.set j x,?_,h.fh,fun k e=>?_⟩
 ·have a:=h.rest.keep h.head (w':=w.setCell ⟨p,j,none⟩ x) (fun k _ c=>zat _ _ _ _ c)
  obtain⟨n,fs,kp,v,m⟩:=d;obtain⟨t,i,q,l,y⟩:=d';obtain⟨rfl,rfl,rfl⟩:=b;exact⟨a.now,a.kept,a.row,a.many,a.wait,a.file,a.psn,a.vsn,a.nk,a.fn,a.fk,a.fw,a.fp,a.fv⟩
 ·have:=h.lt k e
  have g:=((zac 0 w).setCell (p:=⟨p,j,none⟩) (zap _) x).size;omega
theorem Xf.keep {L:Lay} (h:Xf F w p L d u N) (b:∀ k,F k->w'.heap[k]?=w.heap[k]?) (c:w.heap.size<=w'.heap.size):Xf F w' p L d u N:=
 ⟨h.head.keep (b p h.fh),h.rest.keep h.head (fun k a _=>b k a),h.fh,fun k a=>by have:=h.lt k a;omega⟩
theorem Xf.only {L:Lay} (h:Xf F w p L d u N) (a:Ql G w w') (c:∀ k,F k->¬ G k):Xf F w' p L d u N:=
 h.keep (fun k b=>a.block k (h.lt k b) (c k b)) a.size
theorem Xf.cells {L:Lay} (h:Xf F w p L d u N):
 (w.cell? ⟨p,0,none⟩=some (.int .i64 d.room)∧w.cell? ⟨p,1,none⟩=some (.int .i64 u)∧w.cell? ⟨p,2,none⟩=some (.map (some L.now))∧w.cell? ⟨p,3,none⟩=some (.map (some L.kept))∧w.cell? ⟨p,4,none⟩=some L.wv∧w.cell? ⟨p,5,none⟩=some (.int .i64 d.power))∧
 w.frozen? ⟨p,1,none⟩=false∧w.frozen? ⟨p,3,none⟩=false∧w.frozen? ⟨p,4,none⟩=false∧w.frozen? ⟨p,5,none⟩=false:=
 ⟨⟨(h.head.cell 0 rfl).1,(h.head.cell 1 rfl).1,(h.head.cell 2 rfl).1,(h.head.cell 3 rfl).1,(h.head.cell 4 rfl).1,(h.head.cell 5 rfl).1⟩,(h.head.cell 1 rfl).2,(h.head.cell 3 rfl).2,(h.head.cell 4 rfl).2,(h.head.cell 5 rfl).2⟩
theorem Xf.setFile {L:Lay} {f:Nat} (h:Xf F w p L d u N) (m:f<d.files.length) {v':Value} {x':Fl}
 (G:∀ k,F k->k≠L.ps f->(L.vs f).ownBlock≠some k->w'.heap[k]?=w.heap[k]?)
 (U:Znh w' (L.ps f) v' x') (hr:v'.ownBlock=(L.vs f).ownBlock∨∀ g,v'.ownBlock=some g->w.heap.size<=g)
 (y:∀ k,F k->F' k) (S:∀ g,v'.ownBlock=some g->F' g) (T:∀ k,F' k->k<w'.heap.size):
 Xf F' w' p { L with vs:=fun i=>if i=f then v' else L.vs i } { d with files:=d.files.set f x' } u N:=by
 have a:=h.rest;have M:=(a.file f m).box
 have J:∀ {t:TypeId} {k:Nat} {cs:Array Value},Bk t w k cs->F k->t≠117->t≠5->w'.heap[k]?=w.heap[k]?:=fun {t k cs} hb E H I=>G k E (hb.ne M H) fun b=>by
  obtain⟨C,q⟩:=Di (a.file f m).own b;exact(hb.ne q I) rfl
 have Q:∀ {k n:Nat} {g:Int->Option Nat},Yn w k n g->F k->w'.heap[k]?=w.heap[k]?:=fun {k n g} hm E=>G k E (M.neMap hm).symm fun b=>by
  obtain⟨C,q⟩:=Di (a.file f m).own b;exact(q.neMap hm) rfl
 have B:(d.files.set f x').length=d.files.length:=zd4 ..;refine⟨h.head.keep (J h.head h.fh (by decide) (by decide)),?_,y _ h.fh,T⟩
 refine⟨a.now.keep (Q a.now a.fn),a.kept.keep (Q a.kept a.fk),Qh a.row fun g b=>?_,a.many,fun i c v H I=>?_,fun i l=>?_,fun i j l z=>?_,fun i j l z K=>?_,a.nk,y _ a.fn,y _ a.fk,fun g b=>y g (a.fw g b),fun i l=>y _ (a.fp i (by rw[<-B];exact l)),fun i l=>?_⟩
 ·obtain⟨C,hb⟩:=Di a.row b
  exact J hb (a.fw g b) (by decide) (by decide)
 ·exact(a.wait i c v H I).keep y (fun _ _=>rfl) fun k C E hb=>by rcases hb with hb | hb <;> exact J hb E (by decide) (by decide)
 ·have x:i<d.files.length:=by rw[<-B];exact l
  show Znh w' (L.ps i) (if i=f then v' else L.vs i) (fl (d.files.set f x') i)
  by_cases e:i=f
  ·rw[zab e,e,Zao m]
   exact U
  ·rw[zaa e,Jk (fun V=>e V.symm)]
   refine(a.file i x).keep (G _ (a.fp i x) (a.psn i f x m e) fun b=>?_) fun g b=>G g (a.fv i x g b) ?_ (fun A=>a.vsn i f x m e g b A)
   ·obtain⟨C,q⟩:=Di (a.file f m).own b
    exact((a.file i x).box.ne q (by decide)) rfl
   ·obtain⟨C,q⟩:=Di (a.file i x).own b
    exact q.ne M (by decide)
 ·rw[B] at l z
  exact a.psn i j l z
 ·rw[B] at l z
  have O:∀ i,i<d.files.length->i≠f->∀ g,(L.vs i).ownBlock=some g->v'.ownBlock≠some g:=fun i l R g b A=>by
   rcases hr with hr | hr
   ·exact a.vsn i f l m R g b (by rw[<-hr];exact A)
   ·have H:=hr g A
    have I:=h.lt g (a.fv i l g b);omega
  show ∀ g,(if i=f then v' else L.vs i).ownBlock=some g->(if j=f then v' else L.vs j).ownBlock≠some g
  intro g;by_cases D:i=f
  ·rw[zab D,zaa (by rw[<-D];exact Ne.symm K)]
   exact fun b A=>O j z (by rw[<-D];exact Ne.symm K) g A b
  ·rw[zaa D]
   by_cases P:j=f
   ·rw[zab P]
    exact O i l D g
   ·rw[zaa P]
    exact a.vsn i j l z K g
 ·rw[B] at l
  show ∀ g,(if i=f then v' else L.vs i).ownBlock=some g->F' g
  intro g;by_cases e:i=f
  ·rw[zab e]
   exact S g
  ·rw[zaa e]
   exact fun b=>y g (a.fv i l g b)
structure Bnd (d:Dk) (N T:Nat):Prop where
 files:d.files.length<=N
 names:d.kept.length+d.waits.length<=N
 bytes:∀ x ∈ d.files,x.b.length<=T
def Dsk (F:Nat->Prop) (w:World) (p:Nat) (d:Dk) (N T:Nat):Prop:=
 ∃ L,Xf F w p L d (Jh d) N∧OkD d∧Bnd d N T∧I64 d.room∧I64 d.power
theorem Dsk.only (h:Dsk F w p d N T) (a:Ql G w w') (b:∀ k,F k->¬ G k):Dsk F w' p d N T:=by
 obtain⟨L,e,c⟩:=h;exact⟨L,e.only a b,c⟩
theorem Dsk.below (h:Dsk F w p d N T) (a:Below w.heap.size w w'):Dsk F w' p d N T:=
 h.only (G:=fun _=>False) (Ql.ofBelow a) (fun _ _ b=>b)
theorem Zni {L:Lay} (w:World) (h:Xf F w p L d u N):
 Calls prog 33 #[ptr p] w fun e w'=>e=.returned (.bool (d.power != 0))∧w'=w:=by
 obtain⟨⟨-,-,-,-,-,a⟩,-⟩:=h.cells
 go_enter func33,ntmps33
 go_wp2;go_ret;exact⟨rfl,rfl⟩
theorem Znj (n:Int) (w:World):
 Calls prog 94 #[.int .i64 n] w fun e w'=>e=.returned (.bool (ZdM n))∧w'=w:=by
 by_cases a:0<=n
 ·by_cases b:n<1048576
  ·have e:ZdM n=true:=by simp[ZdM,a,b]
   rw[e]
   go_enter func94,ntmps94
   go_wp2;go_ret;exact⟨Zeq (by simp),rfl⟩
  ·have e:ZdM n=false:=by simp[ZdM,a,b]
   rw[e]
   go_enter func94,ntmps94
   go_wp2;go_ret;exact⟨Zeq (by simp),rfl⟩
 ·have e:ZdM n=false:=by simp[ZdM,a]
  rw[e]
  go_enter func94,ntmps94
  go_wp2;go_ret;exact⟨rfl,rfl⟩
theorem Znk (a:Int) (n:Nat) (d:n<=1000000000000000) (w:World):
 Calls prog 72 #[.int .i64 a,.int .i64 (n:Int)] w fun e w'=>e=.returned (.int .i64 (Zf a n:Int))∧w'=w:=by
 obtain⟨M,b⟩:∃ M:Int,M=(n:Int):=⟨_,rfl⟩;by_cases h:a<0
 ·have e:Zf a n=0:=by simp[Zf,h]
  rw[e,<-b];clear b
  go_enter func72,ntmps72
  go_wp2;go_ret;exact⟨rfl,rfl⟩
 ·have c:=Int.emod_nonneg a (show M+1≠0 by omega)
  have e:((Zf a n:Nat):Int)=a % (M+1):=by
   rw[b] at c ⊢;rw[Zf,zaa h];omega
  rw[e,<-b];have f:0<=M∧M<=1000000000000000:=by omega
  clear e c b d n
  go_enter func72,ntmps72
  go_wp2;go_ret;exact⟨rfl,rfl⟩
theorem Znl (q n:Int) (w:World):
 Calls prog 71 #[.int .i64 q,.int .i64 n] w fun e w'=>e=.returned (.int .i64 (if q=0 then 0 else max n 0))∧w'=w:=by
 by_cases h:q=0
 ·rw[zab h]
  subst h
  go_enter func71,ntmps71
  go_wp2;go_ret;exact⟨rfl,rfl⟩
 ·rw[zaa h]
  have e:(q == 0)=false:=by simpa using h
  clear h
  go_enter func71,ntmps71
  go_wp2;go_ret;exact⟨rfl,rfl⟩
theorem Zcb {L:Lay} (w:World) (h:Xf F w p L d u N) (k:I64 d.power):
 Calls prog 97 #[ptr p] w fun e w'=>e=.returned (.int .i64 0)∧Xf F w' p L { d with power:=Ye d.power } u N∧Ql F w w':=by
 have H:=ZZ h;obtain⟨⟨-,-,-,-,-,i⟩,-,-,-,l⟩:=h.cells;obtain⟨j,g⟩:=k;obtain⟨q,a⟩:=zg7 d.power;rw[<-a] at i j g ⊢;by_cases f:q>0
 ·have b:Hid (Ye q=q-1):=zab f
  have c:=ZZ a;clear h a
  go_enter func97,ntmps97
  go_wp2;go_ret;refine⟨rfl,?_,(Ql.refl _ _).setCell 5 (fun _=>H.out.fh) _⟩
  refine H.out.setHead 5 _ ⟨rfl,rfl,rfl⟩ ?_;rw[b.o];rfl
 ·have b:Hid (Ye q=q):=zaa f
  have c:=ZZ a;clear h a
  go_enter func97,ntmps97
  go_wp2;go_ret;rw[b.o,c.o];exact⟨rfl,H.out,Ql.refl _ _⟩
theorem Zxp (n:Int) (i:I64 n) (w:World) (h:Dsk F w p d N T):
 Calls prog 30 #[ptr p,.int .i64 n] w fun e w'=>e=.returned (.tuple #[])∧Dsk F w' p (ZqS d n) N T∧Ql F w w':=by
 obtain⟨L,h,l,k,f,j⟩:=h;have H:=ZZ h;have a:=ZZ (And.intro l (And.intro k (And.intro f j)));have m:=ZZ i;obtain⟨⟨-,-,-,-,-,u⟩,-,-,-,y⟩:=h.cells;obtain⟨q,b⟩:=zg7 d.power;have t:=ZZ b;rw[<-b] at u;clear h l k f j b i;have g:=ZZ (Znl q n w);obtain⟨r,c⟩:=zg7 ((if q=0 then(0:Int) else max n 0))
 rw[<-c] at g;have v:=ZZ c;clear c
 go_enter func30,ntmps30
 go_wp2_with fail
 refine g.o.mono ?_;rintro e w' ⟨rfl,rfl⟩;go_wp2;go_end0;refine⟨rfl,⟨L,?_,OkD.cut a.o.1 n,⟨a.o.2.1.files,a.o.2.1.names,a.o.2.1.bytes⟩,a.o.2.2.1,?_⟩,(Ql.refl _ _).setCell 5 (fun _=>H.out.fh) _⟩
 ·refine H.out.setHead 5 _ ⟨rfl,rfl,rfl⟩ ?_
  rw[v.o,t.o];rfl
 ·obtain⟨x,z⟩:=m.o
  unfold ZqS I64
  dsimp only
  split <;> omega
theorem Zzl (w:World) (room:Int) (D:I64 room):Dsk (fun k=>w.heap.size<=k∧k<(((w.alloc (.map #[] 0)).alloc (.map #[] 0)).alloc (.cells #[.int .i64 room,.int .i64 0,.map (some w.heap.size),.map (some (w.heap.size+1)),.slice none 0 0,.int .i64 (-1)] 69)).heap.size)
 (((w.alloc (.map #[] 0)).alloc (.map #[] 0)).alloc (.cells #[.int .i64 room,.int .i64 0,.map (some w.heap.size),.map (some (w.heap.size+1)),.slice none 0 0,.int .i64 (-1)] 69)) (w.heap.size+1+1) (Zhe room) 0 0:=by
 have u:=Yn.made w;obtain⟨d,q⟩:=zg7 (w.alloc (.map #[] 0));have n:d.heap.size=w.heap.size+1:=by rw[q];simp
 rw[<-q] at u ⊢;have f:=Yn.made d;have p:=u.keep (w':=d.alloc (.map #[] 0)) (zav _ _ _ (by omega))
 obtain⟨a,B⟩:=zg7 (d.alloc (.map #[] 0));have l:a.heap.size=w.heap.size+1+1:=by rw[B];simp[n]
 rw[<-B] at f p ⊢;rw[n] at f;obtain⟨A,y⟩:∃ A:Array Value,A=#[.int .i64 room,.int .i64 0,.map (some w.heap.size),.map (some (w.heap.size+1)),.slice none 0 0,.int .i64 (-1)]:=⟨_,rfl⟩;rw[<-y];have z:=f.keep (w':=a.alloc (.cells A 69)) (zav _ _ _ (by omega))
 have t:=p.keep (w':=a.alloc (.cells A 69)) (zav _ _ _ (by omega))
 have e:Bk 69 (a.alloc (.cells A 69)) a.heap.size A:=zak a _;rw[l] at e;have C:(a.alloc (.cells A 69)).heap.size=w.heap.size+1+1+1:=by simp[l]
 obtain⟨m,G⟩:=zg7 (a.alloc (.cells A 69));rw[<-G] at z t e C ⊢;refine⟨⟨w.heap.size,w.heap.size+1,.slice none 0 0,[],fun _=>0,fun _=>.slice none 0 0⟩,⟨by rw[y] at e;exact e,?_,⟨by omega,by omega⟩,fun k E=>E.2⟩,Zuo room,⟨za0 _,za0 _,(fun x H=>by cases H)⟩,D,⟨by show(-9223372036854775808:Int)<=-1;omega,by show(-1:Int)<=9223372036854775807;omega⟩⟩
 refine⟨t,z,zck _ _ _ _,rfl,(fun i c v h=>by simp[Zhe] at h),(fun i b=>absurd b (Nat.not_lt_zero _)),(fun i j b=>absurd b (Nat.not_lt_zero _)),(fun i j b=>absurd b (Nat.not_lt_zero _)),(by show w.heap.size≠w.heap.size+1;omega),⟨by show w.heap.size<=w.heap.size;omega,by show w.heap.size<_;omega⟩,⟨by show w.heap.size<=w.heap.size+1;omega,by show w.heap.size+1<_;omega⟩,(fun g F=>by cases F),(fun i b=>absurd b (Nat.not_lt_zero _)),(fun i b=>absurd b (Nat.not_lt_zero _))⟩
theorem Zzm (room:Int) (a:I64 room) (w:World):
 Calls prog 9 #[.int .i64 room] w fun e w'=>∃ p,e=.returned (ptr p)∧Dsk (fun k=>w.heap.size<=k∧k<w'.heap.size) w' p (Zhe room) 0 0∧Below w.heap.size w w':=by
 have b:=ZZ a;clear a;have c:=@run_makeMap prog
 go_enter func9,ntmps9
 go_wp2;go_ret;exact⟨_,rfl,Zzl w room b.o,(((zac _ w).alloc zL _).alloc (by simp) _).alloc (by simp;omega) _⟩
theorem Zhj {L:Lay} (n:Int) (k:I64 n) (w:World) (h:Xf F w p L d u N):
 Calls prog 103 #[ptr p,.int .i64 n] w fun e w'=>e=.returned (.tuple #[Zrf (if d.power=0 then none else(look (Qm d) n).map L.ps),.int .i64 (if d.power=0 then 11 else if(look (Qm d) n).isSome then 0 else 8)])∧w'=w:=by
 have a:=ZZ (Zni w h);obtain⟨⟨-,-,v,-,-,-⟩,-⟩:=h.cells;have b:=h.rest.now.look k;obtain⟨q,g⟩:=zg7 d.power;obtain⟨o,i⟩:=zg7 (look (Qm d) n);rw[<-i] at b;rw[<-g] at a;rw[<-g,<-i];clear h g i k;by_cases c:q=0
 ·subst c
  go_enter func103,ntmps103
  go_wp2_with fail
  refine a.o.mono ?_;rintro e w' ⟨rfl,rfl⟩;go_wp2;go_ret2;exact⟨rfl,rfl⟩
 ·rw[zaa c,zaa c]
  have l:(q != 0)=true:=by simpa using c
  rw[l] at a;clear c l
  cases o with
  | none=>
   have t:(Instr.lookup 65 (.map (some L.now)) (.int .i64 n) true).run prog w=.ok (.tuple #[.pointer none,.bool false]) w:=b;clear b
   go_enter func103,ntmps103
   go_wp2_with fail
   refine a.o.mono ?_;rintro e w' ⟨rfl,rfl⟩;go_wp2;go_ret2;exact⟨rfl,rfl⟩
  | some f=>
   have t:(Instr.lookup 65 (.map (some L.now)) (.int .i64 n) true).run prog w=.ok (.tuple #[.pointer (some ⟨L.ps f,0,none⟩),.bool true]) w:=b;clear b;obtain⟨x,j⟩:=zg7 (L.ps f);have m:Zrf (Option.map L.ps (some f))=.pointer (some ⟨x,0,none⟩):=by rw[j];rfl
   rw[<-j] at t;rw[m];clear j m
   go_enter func103,ntmps103
   go_wp2_with fail
   refine a.o.mono ?_;rintro e w' ⟨rfl,rfl⟩;go_wp2;go_ret2;exact⟨rfl,rfl⟩
def Gr (F:Nat->Prop) (w w':World) (k:Nat):Prop:=F k∨(w.heap.size<=k∧k<w'.heap.size)
theorem Gr.lt (b:w.heap.size<=w'.heap.size) (a:∀ k,F k->k<w.heap.size):∀ k,Gr F w w' k->k<w'.heap.size:=by
 rintro k (h | h)
 ·have:=a k h;omega
 ·exact h.2
theorem Zxq (n:Int) (x:Nat) (w:World):
 Calls prog 96 #[.int .i64 n,ptr x] w fun e w'=>e=.returned (.func (.func 139) #[] #[ptr (w.heap.size+1),ptr w.heap.size])∧w'=(w.alloc (.cells #[.int .i64 n] 3)).alloc (.cells #[ptr x] 115):=by
 have a:∀ (fn:Fn) (first cap:Array Value) (w:World),(Instr.makeFunc fn first cap).run prog w=.ok (.func fn first cap) w:=fun _ _ _ _=>rfl
 go_enter func96,ntmps96
 go_wp2;go_ret;exact⟨rfl,rfl⟩
theorem ZuK (n a:Int) (x:Nat) (w:World):
 Calls prog 105 #[.int .i64 n,.int .i64 a,ptr x] w fun e w'=>e=.returned (.func (.func 143) #[] #[ptr (w.heap.size+1+1),ptr (w.heap.size+1),ptr w.heap.size])∧w'=((w.alloc (.cells #[.int .i64 n] 3)).alloc (.cells #[.int .i64 a] 3)).alloc (.cells #[ptr x] 115):=by
 have b:∀ (fn:Fn) (first cap:Array Value) (w:World),(Instr.makeFunc fn first cap).run prog w=.ok (.func fn first cap) w:=fun _ _ _ _=>rfl
 go_enter func105,ntmps105
 go_wp2;go_ret;exact⟨rfl,rfl⟩
theorem Zxr (n:Int) (w:World):
 Calls prog 110 #[.int .i64 n] w fun e w'=>e=.returned (.func (.func 157) #[] #[ptr w.heap.size])∧w'=w.alloc (.cells #[.int .i64 n] 3):=by
 have a:∀ (fn:Fn) (first cap:Array Value) (w:World),(Instr.makeFunc fn first cap).run prog w=.ok (.func fn first cap) w:=fun _ _ _ _=>rfl
 go_enter func110,ntmps110
 go_wp2;go_ret;exact⟨rfl,rfl⟩
theorem Zcc {n:Int} (h:ZdM n=true):I64 n:=by
 simp only [ZdM,zgx,zdp] at h;exact⟨by omega,by omega⟩
def ZlF (w:World) (b N:Nat) (ps:Nat->Nat) (g:Int->Option Nat) (c:Ch) (e:Ending) (w':World):Prop:=
 e=.returned (.tuple #[])∧Yn w' b (N+1) (fun n=>(chF g c n).map ps)∧w.grownBy w' (some b)
theorem ZcF (w:World) {c:Array Oper} {rest:List Oper} {o:Oper} {a:Act} {Q:Exit->Act->World->Prop} (g:o.guard=none) (m x:Operand)
 (i:o.op=.call { callee:=.builtin .delete,args:=#[m,x],argTypes:=#[65,3] })
 (b N:Nat) (f:Int->Option Nat) (p:Int) (l:a.eval m=.map (some b)) (q:a.eval x=.int .i64 p) (j:Yn w b N f) (n:I64 p)
 (h:∀ w',Yn w' b N (fun m=>if m=p then none else f m)->w.grownBy w' (some b)->wpList prog c Q rest (a.put o.dst (.tuple #[])) w'):wpList prog c Q (o::rest) a w:=
 zb0 g fun _ d=>by
  obtain⟨w',e,t,k⟩:=j.del n o.type;unfold Oper.wp execOp;simp only [i,resolve,invoke,builtin,zbt,zbv,zbe,map_toArray,map_cons,map_nil,l,q,e];exact d _ _ (h w' t k)
theorem ZjS (w:World) {c:Array Oper} {rest:List Oper} {o:Oper} {a:Act} {Q:Exit->Act->World->Prop} (g:o.guard=none) (m:Operand)
 (i:o.op=.call { callee:=.builtin .clear,args:=#[m],argTypes:=#[65] })
 (b N:Nat) (f:Int->Option Nat) (l:a.eval m=.map (some b)) (j:Yn w b N f)
 (h:∀ w',Yn w' b 0 (fun _=>none)->w.grownBy w' (some b)->wpList prog c Q rest (a.put o.dst (.tuple #[])) w'):wpList prog c Q (o::rest) a w:=
 zb0 g fun _ e=>by
  obtain⟨w',d,n,k⟩:=j.clear o.type;unfold Oper.wp execOp;simp only [i,resolve,invoke,builtin,zbt,zbv,zbe,map_toArray,map_cons,map_nil,l,d];exact e _ _ (h w' n k)
theorem Zib {b c:World} {r:Nat} (h:a.grownBy b (some r)) (k:b.grownBy c (some r)):a.grownBy c (some r):=h.andThen k (fun _ d=>.inr d)
theorem Znm {n:Int} {f:Nat} (c:ZdM n=true) {a d b N:Nat} {ps:Nat->Nat} {g:Int->Option Nat} (w:World) (i:Bk 3 w a #[.int .i64 n]) (u:Bk 115 w d #[ptr (ps f)]) (l:Yn w b N (fun n=>(g n).map ps)) (m:N<=10000000):
 Calls prog 139 #[.map (some b),ptr d,ptr a] w fun e w'=>ZlF w b N ps g (.give n f) e w':=by
 obtain⟨z,y,k,j⟩:=l.put (p:=n) (ps f) (Zcc c) m
 have A:Hid (Yn z b (N+1) (fun n'=>(chF g (.give n f) n').map ps)):=ZZ (k.fun fun q _=>by
  show(if q=n then some (ps f) else(g q).map ps)=(if q=n then some f else g q).map ps
  split <;> rfl)
 have B:=ZZ j;obtain⟨C,-⟩:=i.cell 0 rfl;obtain⟨v,-⟩:=u.cell 0 rfl;obtain⟨x,t⟩:=zg7 (ps f);rw[<-t] at y v;clear k j l i u t c m
 go_enter func139,ntmps139
 go_wp2;go_end0;exact⟨rfl,A.o,B.o⟩
theorem Znn {n a:Int} {f:Nat} (u:ZdM n=true) (y:ZdM a=true) {i v A b N:Nat} {ps:Nat->Nat} {g:Int->Option Nat} (w:World) (d:Bk 3 w i #[.int .i64 n]) (E:Bk 3 w v #[.int .i64 a]) (z:Bk 115 w A #[ptr (ps f)]) (t:Yn w b N (fun n=>(g n).map ps)) (C:N<=10000000):
 Calls prog 143 #[.map (some b),ptr A,ptr v,ptr i] w fun e w'=>ZlF w b N ps g (.move n a f) e w':=by
 obtain⟨I,H,B,k⟩:=t.put (p:=a) (ps f) (Zcc y) C;obtain⟨L,-⟩:=E.cell 0 rfl;obtain⟨G,-⟩:=z.cell 0 rfl;obtain⟨M,-⟩:=(d.keep (k.block i d.lt (by intro e;exact(d.neMap t) (zaq e)))).cell 0 rfl
 have K:=ZZ B;have F:=ZZ u
 have J:Hid (∀ c,Yn c b (N+1) (fun m=>if m=n then none else if m=a then some (ps f) else(g m).map ps)->I.grownBy c (some b)->ZlF w b N ps g (.move n a f) (.returned (.tuple #[])) c):=ZZ (fun c j l=>by
  refine⟨rfl,j.fun fun q _=>?_,Zib k l⟩
  show(if q=n then none else if q=a then some (ps f) else(g q).map ps)=(if q=n then none else if q=a then some f else g q).map ps
  split
  ·rfl
  ·split <;> rfl)
 obtain⟨x,D⟩:=zg7 (ps f);rw[<-D] at H G;clear B k t d E z D u y C
 go_enter func143,ntmps143
 go_wp2_with(first | (at_delete;refine ZcF _ rfl _ _ rfl b _ _ n rfl rfl K.o (Zcc F.o) ?_;intro c j l))
 go_end0;exact J.o _ j l
theorem Zno {n:Int} (c:ZdM n=true) {a b N:Nat} {ps:Nat->Nat} {g:Int->Option Nat} (w:World) (d:Bk 3 w a #[.int .i64 n]) (f:Yn w b N (fun n=>(g n).map ps)):
 Calls prog 157 #[.map (some b),ptr a] w fun e w'=>ZlF w b N ps g (.take n) e w':=by
 obtain⟨p,-⟩:=d.cell 0 rfl;have l:=ZZ f;have i:=ZZ c;clear f c d
 go_enter func157,ntmps157
 go_wp2_with(first | (at_delete;refine ZcF _ rfl _ _ rfl b _ _ n rfl rfl l.o (Zcc i.o) ?_;intro m j k))
 go_end0;refine⟨rfl,(j.mono (zdt _)).fun fun q _=>?_,k⟩
 show(if q=n then none else(g q).map ps)=(if q=n then none else g q).map ps
 split <;> rfl
theorem Zzn:(prog.info? 113).map (fun i=>(i.zero,i.size,i.bytes))=some (some .nilFunc,1,8):=by kernel_rfl
theorem ZlG (w:World) (ty:TypeId) (v:Value) (cs:List Value) (h:w.ownsRow 0 113 1 v cs.length cs) (fn:Fn) (a b:Array Value) (p:cs.length<=10000000):
 ∃ v' w',(Builtin.append_ #[67,67] ty #[v,.slice (some ⟨w.heap.size,0,none⟩) 1 1]).run prog (w.alloc (.cells #[.func fn a b] 113))=.ok v' w'∧
  w'.ownsRow 0 113 1 v' (cs++[Value.func fn a b]).length (cs++[Value.func fn a b])∧(w.alloc (.cells #[.func fn a b] 113)).grownBy w' v.ownBlock∧(v'.ownBlock=v.ownBlock∨v'.ownBlock=some (w.heap.size+1)):=by
 obtain⟨k,n,f,e,m⟩:=zbx Zzn
 obtain⟨v',w',g,i,l,_,hl⟩:=zdf (P:=prog) (w.alloc (.cells #[.func fn a b] 113)) 0 67 ty 113 k .nilFunc 1 8 underlying67 n f e m rfl (by decide) v cs.length cs (zb3 h _)
  ⟨w.heap.size,0,none⟩ 1 1 [.func fn a b] rfl (fun j u c=>by
   match j,c with
   | 0,c=>simp at c;subst c;simp[Addr.add]) (fun u d=>by simp at d;subst d;rfl) (by unfold maxLen;omega) (by omega) (zap _)
 refine⟨v',w',g,?_,l,?_⟩
 ·rw[length_append]
  exact i
 ·rcases hl with hl | hl
  ·exact .inl hl
  ·exact .inr (by rw[hl];simp)
theorem ZaH (w:World) {d:Array Oper} {rest:List Oper} {o:Oper} {a:Act} {Q:Exit->Act->World->Prop} (j:o.guard=none) (s x:Operand)
 (l:o.op=.call { callee:=.builtin .append,args:=#[s,x],argTypes:=#[67,67] })
 (v:Value) (cs:List Value) (e:a.eval s=v) (h:w.ownsRow 0 113 1 v cs.length cs) (fn:Fn) (b c:Array Value) (p:a.eval x=.slice (some ⟨w.heap.size,0,none⟩) 1 1) (f:cs.length<=10000000)
 (g:∀ v' w',w'.ownsRow 0 113 1 v' (cs++[Value.func fn b c]).length (cs++[Value.func fn b c])->(w.alloc (.cells #[.func fn b c] 113)).grownBy w' v.ownBlock->(v'.ownBlock=v.ownBlock∨v'.ownBlock=some (w.heap.size+1))->
  wpList prog d Q rest (a.put o.dst v') w'):wpList prog d Q (o::rest) a (w.alloc (.cells #[.func fn b c] 113)):=
 zb0 j fun _ m=>by
  obtain⟨v',w',i,q,n,k⟩:=ZlG w o.type v cs h fn b c f;unfold Oper.wp execOp;simp only [l,resolve,invoke,builtin,zbt,zbv,zbe,map_toArray,map_cons,map_nil,e,p,i];exact m _ _ (g v' w' q n k)
theorem Znp (h:Zuh m c):∀ n a f,c=.move n a f->n≠a:=by
 rintro n a f rfl;exact h.2.2.1
theorem ZuL (d:Dk) (c:Ch):Qm { d with waits:=d.waits++[c] }=chD (Qm d) c:=by
 show(d.waits++[c]).foldl chD d.kept=_;rw[foldl_append];rfl
theorem Xf.addWait {q f:World} {L:Lay} {fn:Fn} {x y:Array Value} (h:Xf F w p L d u N) (U:ChV F w L.ps c (.func fn x y)) (ab:OkD d) (ac:Zuh d.files.length c)
 (K:w.grownBy q (some L.now)) (A:Yn q L.now (N+1) (fun n=>(chF (look (Qm d)) c n).map L.ps))
 (I:f.ownsRow 0 113 1 v' (L.cs++[Value.func fn x y]).length (L.cs++[Value.func fn x y])) (D:(q.alloc (.cells #[.func fn x y] 113)).grownBy f L.wv.ownBlock) (hv:v'.ownBlock=L.wv.ownBlock∨v'.ownBlock=some (q.heap.size+1)):
 Xf (Gr F w f) (f.setCell ⟨p,4,none⟩ v') p { L with wv:=v',cs:=L.cs++[Value.func fn x y] } { d with waits:=d.waits++[c] } u (N+1)∧Ql F w (f.setCell ⟨p,4,none⟩ v'):=by
 have a:=h.rest;have ad:=K.size;have ae:q.heap.size+1<=f.heap.size:=by have:=D.size;simpa using this
 have T:(f.setCell ⟨p,4,none⟩ v').heap.size=f.heap.size:=by simp
 have M:∀ k,F k->k≠L.now->L.wv.ownBlock≠some k->f.heap[k]?=w.heap[k]?:=fun k l H J=>by
  have E:=h.lt k l;rw[D.block k (by simp;omega) (fun e=>J e.symm),zav _ _ _ (by omega),K.block k E (fun e=>H (zaq e))]
 have B:∀ k,F k->k≠L.now->L.wv.ownBlock≠some k->k≠p->(f.setCell ⟨p,4,none⟩ v').heap[k]?=w.heap[k]?:=fun k l H J hp=>by
  rw[zat _ _ _ _ hp,M k l H J]
 have S:∀ {t:TypeId} {k:Nat} {cs:Array Value},Bk t w k cs->t≠113->L.wv.ownBlock≠some k:=fun hb Z j=>by
  obtain⟨C,z⟩:=Di a.row j;exact(hb.ne z Z) rfl
 have P:∀ {k n:Nat} {g:Int->Option Nat},Yn w k n g->L.wv.ownBlock≠some k:=fun A j=>by
  obtain⟨C,z⟩:=Di a.row j;exact(z.neMap A) rfl
 have G:∀ {t:TypeId} {k:Nat} {cs:Array Value},Bk t w k cs->F k->t≠113->t≠69->(f.setCell ⟨p,4,none⟩ v').heap[k]?=w.heap[k]?:=fun hb l W h2=>
  B _ l (hb.neMap a.now) (S hb W) (hb.ne h.head h2)
 have R:L.now≠p:=(h.head.neMap a.now).symm;have Q:Bk 69 f p (ZfL L d u):=h.head.keep (M p h.fh R.symm (S h.head (by decide)))
 have aa:∀ g,v'.ownBlock=some g->Gr F w f g:=fun g j=>by
  rcases hv with hv | hv
  ·exact .inl (a.fw g (by rw[<-hv];exact j))
  ·rw[hv] at j
   obtain rfl:=zaq j;exact .inr ⟨by omega,by have:=(zaz I _ hv).2;omega⟩
 refine⟨⟨Q.set 4 v',?_,.inl h.fh,fun k B=>?_⟩,?_⟩
 ·refine⟨?_,?_,?_,?_,?_,?_,a.psn,a.vsn,a.nk,.inl a.fn,.inl a.fk,aa,fun i b=>.inl (a.fp i b),fun i b g j=>.inl (a.fv i b g j)⟩
  ·have e:∀ n,(look (Qm { d with waits:=d.waits++[c] }) n).map L.ps=(chF (look (Qm d)) c n).map L.ps:=fun n=>by rw[ZuL,Zdf ab.dir.rise c (Znp ac)]
   refine(A.keep (w':=f.setCell ⟨p,4,none⟩ v') ?_).fun fun n _=>(e n).symm
   rw[zat _ _ _ _ R,D.block L.now (by simp;have:=A.lt;omega) (fun e=>P a.now e.symm),zav _ _ _ A.lt]
  ·exact(a.kept.mono (zdt N)).keep (B _ a.fk (Ne.symm a.nk) (P a.kept) (h.head.neMap a.kept).symm)
  ·exact Qh I fun g j=>zat _ _ _ _ (by
    obtain⟨C,z⟩:=Di I j
    exact z.ne Q (by decide))
  ·rw[length_append,length_append,a.many]
   rfl
  ·intro i c' v b m
   have O:∀ c v,ChV F w L.ps c v->ChV (Gr F w f) (f.setCell ⟨p,4,none⟩ v') L.ps c v:=fun c v X=>X.keep (fun _ l=>.inl l) (fun _ _=>rfl) fun k C l hb=>by
    rcases hb with hb | hb <;> exact G hb l (by decide) (by decide)
   rw[zf4] at b m;rw[a.many] at m;by_cases E:i<d.waits.length
   ·rw[zab E] at b m
    exact O _ _ (a.wait i c' v b m)
   ·rw[zaa E] at b m
    have V:i-d.waits.length=0:=by
     have:=(zbr.1 b).1;simp at this;omega
    rw[V] at b m;simp only [List.getElem?_cons_zero,zb6] at b m;rw[<-b,<-m];exact O _ _ U
  ·intro i b
   refine(a.file i b).keep (G (a.file i b).box (a.fp i b) (by decide) (by decide)) fun g j=>?_
   obtain⟨C,hb⟩:=Di (a.file i b).own j;exact G hb (a.fv i b g j) (by decide) (by decide)
 ·rw[T]
  exact Gr.lt (by omega) h.lt k B
 ·have o1:Ql F w q:=Ql.ofGrown K fun k e _=>by obtain rfl:=zaq e;exact a.fn
  have Y:Ql F (q.alloc (.cells #[.func fn x y] 113)) f:=Ql.ofGrown D fun k e _=>a.fw k e
  exact((o1.alloc _).trans Y (fun _ _ l=>l)).setCell 4 (fun _=>h.fh) v'
theorem ZeJ (h:w.ownsRow base t s v n xs):∃ ao m b,v=.slice ao m b:=by
 rcases h.2 with ⟨a,_⟩ | ⟨g,cap,cur,a,_⟩
 ·exact⟨_,_,_,a⟩
 ·exact⟨_,_,_,a⟩
theorem ZuM (F:Nat->Prop) (w b:World) (a:Addr) (v:Value):Gr F w (b.setCell a v)=Gr F w b:=by
 funext k
 simp[Gr]
def Zzo (F:Nat->Prop) (w:World) (p:Nat) (L:Lay) (d:Dk) (u:Int) (N:Nat) (c:Ch) (e:Ending) (w':World):Prop:=
 e=.returned (.tuple #[])∧∃ L',Xf (Gr F w w') w' p L' { d with waits:=d.waits++[c] } u (N+1)∧L'.ps=L.ps∧L'.vs=L.vs∧Ql F w w'
theorem Zic {L:Lay} {cv:Value} (w:World) (h:Xf F w p L d u N) (Z:ChV F w L.ps c cv) (ad:OkD d) (ae:Zuh d.files.length c) (hN:N<=1000000) (hW:d.waits.length<=1000000):
 Calls prog 95 #[ptr p,cv] w fun e w'=>Zzo F w p L d u N c e w':=by
 have H:=ZZ h;have aa:=ZZ ad;have G:=ZZ ae;obtain⟨⟨-,-,c2,-,-,-⟩,-⟩:=h.cells;have q:Hid (L.now≠p):=ZZ (h.head.neMap h.rest.now).symm
 have ac:Hid (∀ g,L.wv.ownBlock=some g->g≠L.now):=ZZ (fun g l=>by
  obtain⟨ab,I⟩:=Di h.rest.row l
  exact I.neMap h.rest.now)
 clear h ad ae
 cases c with
 | give n f=>
  obtain⟨y,O,rfl,C,V,J,f2⟩:=Z;have R:Hid (ChV F w L.ps (.give n f) (.func (.func 139) #[] #[ptr O,ptr y])):=ZZ ⟨y,O,rfl,C,V,J,f2⟩;have T:=ZZ (Znm (f:=f) G.o.1 w C V H.out.rest.now (by omega))
  go_enter func95,ntmps95
  go_wp2_with fail
  refine T.o.mono ?_;rintro e i ⟨rfl,E,b⟩;have S:=ZZ E;have a:=ZZ b;have B:=H.out.head.keep (b.block p H.out.head.lt (fun e=>q.o (zaq e).symm))
  obtain⟨K,W⟩:=B.cell 4 rfl;have v:Hid (i.ownsRow 0 113 1 L.wv L.cs.length L.cs):=ZZ (Qh H.out.rest.row fun g l=>b.block g (zaz H.out.rest.row g l).2 (fun e=>ac.o g l (zaq e)))
  clear E b B;have t:Hid (p<i.heap.size):=ZZ (zay H.out.head.lt a.o.size)
  go_wp2_with(at_builtin;refine(fun(h:True->_)=>h trivial) ?_)
  intro _;refine ZaH i rfl _ _ rfl L.wv L.cs rfl v.o _ _ _ rfl (by have:=H.out.rest.many;omega) ?_
  intro v' A k j D;have U:=ZZ k;have P:=ZZ j;have Y:=ZZ D
  have z:Bk 69 A p (ZfL L d u):=(H.out.head.keep (a.o.block p H.out.head.lt (fun e=>q.o (zaq e).symm))).keep ((j.block p (by simp;have:=t.o;omega) (fun e=>by
   obtain⟨ab,I⟩:=Di v.o e.symm
   exact(I.ne (H.out.head.keep (a.o.block p H.out.head.lt (fun e=>q.o (zaq e).symm))) (by decide)) rfl)).trans (zav _ _ _ t.o))
  obtain⟨d4,g4⟩:=z.cell 4 rfl;obtain⟨ao,Q,M,rfl⟩:=ZeJ k;clear k j D z K W;go_wp2;go_end0;obtain⟨x,X⟩:=H.out.addWait R.o aa.o G.o a.o S.o U.o P.o Y.o;rw[<-ZuM F w A ⟨p,4,none⟩ (.slice ao Q M)] at x;exact⟨rfl,_,x,rfl,rfl,X⟩
 | move n m f=>
  obtain⟨y,O,b3,rfl,C,V,h3,J,f2,f3⟩:=Z;have R:Hid (ChV F w L.ps (.move n m f) (.func (.func 143) #[] #[ptr b3,ptr O,ptr y])):=ZZ ⟨y,O,b3,rfl,C,V,h3,J,f2,f3⟩;have T:=ZZ (Znn (f:=f) G.o.1 G.o.2.1 w C V h3 H.out.rest.now (by omega))
  go_enter func95,ntmps95
  go_wp2_with fail
  refine T.o.mono ?_;rintro e i ⟨rfl,E,b⟩;have S:=ZZ E;have a:=ZZ b;have B:=H.out.head.keep (b.block p H.out.head.lt (fun e=>q.o (zaq e).symm))
  obtain⟨K,W⟩:=B.cell 4 rfl;have v:Hid (i.ownsRow 0 113 1 L.wv L.cs.length L.cs):=ZZ (Qh H.out.rest.row fun g l=>b.block g (zaz H.out.rest.row g l).2 (fun e=>ac.o g l (zaq e)))
  clear E b B;have t:Hid (p<i.heap.size):=ZZ (zay H.out.head.lt a.o.size)
  go_wp2_with(at_builtin;refine(fun(h:True->_)=>h trivial) ?_)
  intro _;refine ZaH i rfl _ _ rfl L.wv L.cs rfl v.o _ _ _ rfl (by have:=H.out.rest.many;omega) ?_
  intro v' A k j D;have U:=ZZ k;have P:=ZZ j;have Y:=ZZ D
  have z:Bk 69 A p (ZfL L d u):=(H.out.head.keep (a.o.block p H.out.head.lt (fun e=>q.o (zaq e).symm))).keep ((j.block p (by simp;have:=t.o;omega) (fun e=>by
   obtain⟨ab,I⟩:=Di v.o e.symm
   exact(I.ne (H.out.head.keep (a.o.block p H.out.head.lt (fun e=>q.o (zaq e).symm))) (by decide)) rfl)).trans (zav _ _ _ t.o))
  obtain⟨d4,g4⟩:=z.cell 4 rfl;obtain⟨ao,Q,M,rfl⟩:=ZeJ k;clear k j D z K W;go_wp2;go_end0;obtain⟨x,X⟩:=H.out.addWait R.o aa.o G.o a.o S.o U.o P.o Y.o;rw[<-ZuM F w A ⟨p,4,none⟩ (.slice ao Q M)] at x;exact⟨rfl,_,x,rfl,rfl,X⟩
 | take n=>
  obtain⟨y,rfl,C,J⟩:=Z;have R:Hid (ChV F w L.ps (.take n) (.func (.func 157) #[] #[ptr y])):=ZZ ⟨y,rfl,C,J⟩;have T:=ZZ (Zno G.o w C H.out.rest.now)
  go_enter func95,ntmps95
  go_wp2_with fail
  refine T.o.mono ?_;rintro e i ⟨rfl,E,b⟩;have S:=ZZ E;have a:=ZZ b;have B:=H.out.head.keep (b.block p H.out.head.lt (fun e=>q.o (zaq e).symm))
  obtain⟨K,W⟩:=B.cell 4 rfl;have v:Hid (i.ownsRow 0 113 1 L.wv L.cs.length L.cs):=ZZ (Qh H.out.rest.row fun g l=>b.block g (zaz H.out.rest.row g l).2 (fun e=>ac.o g l (zaq e)))
  clear E b B;have t:Hid (p<i.heap.size):=ZZ (zay H.out.head.lt a.o.size)
  go_wp2_with(at_builtin;refine(fun(h:True->_)=>h trivial) ?_)
  intro _;refine ZaH i rfl _ _ rfl L.wv L.cs rfl v.o _ _ _ rfl (by have:=H.out.rest.many;omega) ?_
  intro v' A k j D;have U:=ZZ k;have P:=ZZ j;have Y:=ZZ D
  have z:Bk 69 A p (ZfL L d u):=(H.out.head.keep (a.o.block p H.out.head.lt (fun e=>q.o (zaq e).symm))).keep ((j.block p (by simp;have:=t.o;omega) (fun e=>by
   obtain⟨ab,I⟩:=Di v.o e.symm
   exact(I.ne (H.out.head.keep (a.o.block p H.out.head.lt (fun e=>q.o (zaq e).symm))) (by decide)) rfl)).trans (zav _ _ _ t.o))
  obtain⟨d4,g4⟩:=z.cell 4 rfl;obtain⟨ao,Q,M,rfl⟩:=ZeJ k;clear k j D z K W;go_wp2;go_end0;obtain⟨x,X⟩:=H.out.addWait R.o aa.o G.o a.o S.o U.o P.o Y.o;rw[<-ZuM F w A ⟨p,4,none⟩ (.slice ao Q M)] at x;exact⟨rfl,_,x,rfl,rfl,X⟩
def Zsm (fs:List Fl):Option Nat->Nat
 | some f=>(fl fs f).b.length
 | none=>0
theorem Zaj (fs:List Fl) (p:Int × Nat) (l:Dir):Zy fs (p::l)=(fl fs p.2).b.length+Zy fs l:=by simp[Zy]
theorem Zhk (fs:List Fl):Zy fs []=0:=rfl
theorem ZdY (fs:List Fl) (a b:Dir):Zy fs (a++b)=Zy fs a+Zy fs b:=by simp[Zy]
theorem Zid (fs:List Fl) (n:Int) (f:Nat):∀ (l:Dir) (done:Bool),Zy fs (ZjM n f done l)=Zy fs (l.filter fun p=>decide (p.1≠n))+(if done then 0 else(fl fs f).b.length)
 | [],done=>by cases done <;> simp[ZjM,Zy]
 | q::l,done=>by
  have d:=Zid fs n f l (done || decide (q.1>n));rw[ZjM,ZdY,ZdY,d,zdi];by_cases c:q.1>n
  ·have a:q.1≠n:=by omega
   cases done <;> simp[c,a,Zaj,Zhk] <;> omega
  ·by_cases a:q.1=n
   ·cases done <;> simp[a,Zhk]
   ·cases done <;> simp[c,a,Zaj,Zhk] <;> omega
theorem Zie (fs:List Fl) (n:Int):∀ l:Dir,Xb l->Zy fs (l.filter fun p=>decide (p.1≠n))+Zsm fs (look l n)=Zy fs l
 | [],_=>rfl
 | q::l,h=>by
  unfold Xb at h;rw[zcd] at h;rw[zdi,look];by_cases e:q.1=n
  ·have c:∀ p ∈ l,p.1≠n:=fun p a=>by have:=h.1 p a;omega
   rw[zab e,zaa (by simp[e]),Zaj,List.filter_eq_self.2 (fun p a=>by simpa using c p a)]
   show _+(fl fs q.2).b.length=_;omega
  ·rw[zaa e,zab (by simp[e]),Zaj,Zaj]
   have:=Zie fs n l h.2;omega
theorem ZeK (fs:List Fl) {l:Dir} (h:Xb l) (n:Int) (o:Option Nat):Zy fs (Yv l n o)+Zsm fs (look l n)=Zy fs l+Zsm fs o:=by
 have a:=Zie fs n l h
 cases o with
 | none=>rw[Yv,Zid];show _=_+0;simp only [zeu];omega
 | some f=>rw[Yv,Zid];simp only [zew,zfv];show _=_+(fl fs f).b.length;omega
theorem ZeL {f:Nat} (h:f<fs.length) (x:Fl):fl (fs++[x]) f=fl fs f:=by
 unfold fl;simp[List.getD,zf4,h]
theorem Zif (fs:List Fl) (x:Fl):fl (fs++[x]) fs.length=x:=by
 unfold fl;simp[List.getD]
theorem ZlH {a:List Fl} {l:Dir} (h:∀ p ∈ l,(fl a p.2).b.length=(fl fs p.2).b.length):Zy a l=Zy fs l:=by
 unfold Zy;rw[List.map_congr_left h]
theorem ZuN {l:Dir} (h:∀ p ∈ l,p.2<fs.length) (x:Fl):Zy (fs++[x]) l=Zy fs l:=
 ZlH fun p a=>by rw[ZeL (h p a)]
theorem ZlI {fs:List Fl} {f:Nat} (a:f<fs.length) (x:Fl):∀ {l:Dir},Dc l->(∃ n,(n,f) ∈ l)->Zy (fs.set f x) l+(fl fs f).b.length=Zy fs l+x.b.length
 | [],_,⟨_,h⟩=>by cases h
 | q::l,ha,⟨n,h⟩=>by
  unfold Dc at ha;rw[zcd] at ha;rw[Zaj,Zaj];by_cases e:q.2=f
  ·have g:Zy (fs.set f x) l=Zy fs l:=ZlH fun p d=>by rw[Jk (by rw[<-e];exact ha.1 p d)]
   rw[e,g,Zao a];omega
  ·rw[Jk (fun c=>e c.symm)]
   rcases zbd.1 h with h | h
   ·exact absurd (by rw[<-h]) e
   ·have:=ZlI a x (l:=l) ha.2 ⟨n,h⟩
    omega
theorem Zsn (h:OkD d) {n:Int} {f:Nat} (e:look (Qm d) n=some f) (b:List UInt8):Jh (appendTo d f b)=Jh d+b.length:=by
 have a:=(Y2 h.dir.rise n f).1 e;have:=ZlI (h.dir.may _ a).2 ⟨(fl d.files f).b++b,(fl d.files f).k⟩ h.dir.apart ⟨n,a⟩;simp only [length_append] at this;show Zy (Yt d.files f b) (Qm d)=Zy d.files (Qm d)+b.length;unfold Yt;omega
theorem Zso (h:OkD d) {n:Int} {f:Nat} (e:look (Qm d) n=some f) (q:Int):Jh { d with files:=Gi d.files f,power:=q }=Jh d:=by
 have a:=(Y2 h.dir.rise n f).1 e;have:=ZlI (h.dir.may _ a).2 ⟨(fl d.files f).b,(fl d.files f).b.length⟩ h.dir.apart ⟨n,a⟩;show Zy (Gi d.files f) (Qm d)=Zy d.files (Qm d);unfold Gi
 dsimp only at this
 omega
theorem Zpo (h:OkD d) {n:Int} (e:look (Qm d) n=none):Jh (Ji d n)=Jh d:=by
 have a:=ZeK (d.files++[⟨[],0⟩]) h.dir.rise n (some d.files.length);have g:Zy (d.files++[⟨[],0⟩]) (Qm d)=Zy d.files (Qm d):=ZuN (fun p f=>(h.dir.may p f).2) _
 have c:Zsm (d.files++[⟨[],0⟩]) (some d.files.length)=0:=by show(fl _ _).b.length=0;rw[Zif];rfl
 rw[e,g,c] at a;unfold Jh;rw[Zkr,chD];show Zy (d.files++[⟨[],0⟩]) (Yv (Qm d) n (some d.files.length))=_;simpa[Zsm] using a
theorem Zsp (h:OkD d) {n m:Int} {f:Nat} (g:n≠m) (e:look (Qm d) n=some f) (q:Int):Jh { d with waits:=d.waits++[.move n m f],power:=q }+Zsm d.files (look (Qm d) m)=Jh d:=by
 have b:=ZeK d.files h.dir.rise n none;have a:=ZeK d.files (Yq h.dir.rise n none) m (some f);rw[Zax h.dir.rise,zaa (fun e=>g e.symm)] at a
 rw[e] at b
 have c:Jh { d with waits:=d.waits++[.move n m f],power:=q }=Zy d.files (Yv (Yv (Qm d) n none) m (some f)):=by
  show Zy d.files ((d.waits++[Ch.move n m f]).foldl chD d.kept)=_;rw[foldl_append];rfl
 rw[c];show _=Zy d.files (Qm d);simp only [Zsm] at b a ⊢;omega
theorem Zsq (h:OkD d) {n:Int} {f:Nat} (e:look (Qm d) n=some f) (q:Int):Jh { d with waits:=d.waits++[.take n],power:=q }+(fl d.files f).b.length=Jh d:=by
 have a:=ZeK d.files h.dir.rise n none;rw[e] at a
 have c:Jh { d with waits:=d.waits++[.take n],power:=q }=Zy d.files (Yv (Qm d) n none):=by
  show Zy d.files ((d.waits++[Ch.take n]).foldl chD d.kept)=_;rw[foldl_append];rfl
 rw[c];show _=Zy d.files (Qm d);simp only [Zsm] at a;omega
theorem Zpp {fs:List Fl} {T:Nat} (h:∀ x ∈ fs,x.b.length<=T):∀ l:Dir,(∀ p ∈ l,p.2<fs.length)->Zy fs l<=l.length*T
 | [],_=>zap _
 | p::l,hl=>by
  have c:=Zpp h l fun q a=>hl q (List.mem_cons_of_mem _ a)
  have d:=h _ (ZbI (hl p (List.mem_cons_self ..)));rw[Zaj,zcb,Nat.add_mul];omega
theorem Zgu (l:List Ch):∀ k:Dir,(l.foldl chD k).length<=k.length+l.length:=by
 induction l with
 | nil=>intro k;exact za0 _
 | cons c l a=>
  intro k;have d:=a (chD k c);have b:=ZrO k c;rw[List.foldl_cons,zcb];omega
theorem Zxs (h:OkD d) {N T:Nat} (i:d.kept.length+d.waits.length<=N) (a:∀ x ∈ d.files,x.b.length<=T):Jh d<=N*T:=by
 have f:=Zpp a (Qm d) fun p c=>(h.dir.may p c).2
 have e:=Zgu d.waits d.kept;have g:(Qm d).length*T<=N*T:=zf5 T (by unfold Qm;omega)
 unfold Jh;omega
theorem Zbq (d:Dk) (k:Nat):(Yo d k).length<=d.kept.length+d.waits.length:=by
 have h:=Zgu (d.waits.take k) d.kept;have a:(d.waits.take k).length<=d.waits.length:=by rw[zb5];omega
 unfold Yo;omega
theorem Xf.widen {L:Lay} (h:Xf F w p L d u N) (a:∀ k,F k->F' k) (j:∀ k,F' k->k<w.heap.size):Xf F' w p L d u N:=
 ⟨h.head,⟨h.rest.now,h.rest.kept,h.rest.row,h.rest.many,fun i c v f l=>(h.rest.wait i c v f l).keep a (fun _ _=>rfl) (fun _ _ _ _=>rfl),h.rest.file,h.rest.psn,h.rest.vsn,h.rest.nk,a _ h.rest.fn,a _ h.rest.fk,fun g b=>a g (h.rest.fw g b),fun i e=>a _ (h.rest.fp i e),fun i e g b=>a g (h.rest.fv i e g b)⟩,a _ h.fh,j⟩
theorem Xf.more {L:Lay} (h:Xf F w p L d u N) (a:Below w.heap.size w w'):Xf (Gr F w w') w' p L d u N:=
 (h.keep (fun k b=>a.block k (h.lt k b)) a.size).widen (fun _ b=>.inl b) (Gr.lt a.size h.lt)
theorem Zzp (h:Zuh m c) {f:Nat} (e:chOf c=some f):f<m:=by
 cases c with
 | give n g=>obtain rfl:=zaq e;exact h.2
 | move n g x=>obtain rfl:=zaq e;exact h.2.2.2
 | take n=>cases e
theorem Xf.addFile {L:Lay} (h:Xf F w p L d u N) (A:OkD d):
 Xf (Gr F w (w.alloc (.cells #[.slice none 0 0,.int .i64 0] 117))) (w.alloc (.cells #[.slice none 0 0,.int .i64 0] 117)) p { L with ps:=fun i=>if i=d.files.length then w.heap.size else L.ps i,vs:=fun i=>if i=d.files.length then .slice none 0 0 else L.vs i } { d with files:=d.files++[⟨[],0⟩] } u N:=by
 have E:Below w.heap.size w (w.alloc (.cells #[.slice none 0 0,.int .i64 0] 117)):=(zac _ w).alloc zL _;have D:Bk 117 (w.alloc (.cells #[.slice none 0 0,.int .i64 0] 117)) w.heap.size #[.slice none 0 0,.int .i64 0]:=zak w _;have G:(w.alloc (.cells #[.slice none 0 0,.int .i64 0] 117)).heap.size=w.heap.size+1:=by simp
 obtain⟨W,J⟩:=zg7 (w.alloc (.cells #[.slice none 0 0,.int .i64 0] 117));rw[<-J] at E D G ⊢;have q:=h.more E;have b:=q.rest;have K:(d.files++[(⟨[],0⟩:Fl)]).length=d.files.length+1:=by simp
 refine⟨q.head,⟨?_,?_,b.row,b.many,?_,?_,?_,?_,b.nk,b.fn,b.fk,b.fw,?_,?_⟩,q.fh,q.lt⟩
 ·refine b.now.fun fun n _=>?_
  show(look (Qm d) n).map L.ps=(look (Qm d) n).map _
  cases e:look (Qm d) n with
  | none=>rfl
  | some f=>
   have:=(A.dir.mayOf e).2;show some (L.ps f)=some (if f=d.files.length then w.heap.size else L.ps f)
   rw[zaa (by omega)]
 ·refine b.kept.fun fun n _=>?_
  show(look d.kept n).map L.ps=(look d.kept n).map _
  cases e:look d.kept n with
  | none=>rfl
  | some f=>
   have:=(A.kept.mayOf e).2;show some (L.ps f)=some (if f=d.files.length then w.heap.size else L.ps f)
   rw[zaa (by omega)]
 ·intro i c v a I
  refine(b.wait i c v a I).keep (fun _ z=>z) (fun f z=>?_) (fun _ _ _ _=>rfl)
  have:=Zzp (A.chs c (List.mem_of_getElem? a)) z;show(if f=d.files.length then w.heap.size else L.ps f)=L.ps f
  rw[zaa (by omega)]
 ·intro i a
  show Znh W (if i=d.files.length then w.heap.size else L.ps i) (if i=d.files.length then .slice none 0 0 else L.vs i) (fl (d.files++[⟨[],0⟩]) i)
  by_cases e:i=d.files.length
  ·rw[zab e,zab e,e,Zif]
   exact⟨D,zck _ _ _ _⟩
  ·have C:i<d.files.length:=by have:i<(d.files++[(⟨[],0⟩:Fl)]).length:=a;omega
   rw[zaa e,zaa e,ZeL C];exact b.file i C
 ·intro i j a t y
  have x:i<(d.files++[(⟨[],0⟩:Fl)]).length:=a;have H:j<(d.files++[(⟨[],0⟩:Fl)]).length:=t;show(if i=d.files.length then w.heap.size else L.ps i)≠(if j=d.files.length then w.heap.size else L.ps j)
  have B:∀ i,i<d.files.length->L.ps i<w.heap.size:=fun i a=>h.lt _ (h.rest.fp i a)
  by_cases m:i=d.files.length
  ·rw[zab m,zaa (by omega)]
   have:=B j (by omega)
   omega
  ·rw[zaa m]
   by_cases k:j=d.files.length
   ·rw[zab k]
    have:=B i (by omega)
    omega
   ·rw[zaa k]
    exact b.psn i j (by show i<d.files.length;omega) (by show j<d.files.length;omega) y
 ·intro i j a t y g
  have x:i<(d.files++[(⟨[],0⟩:Fl)]).length:=a;have H:j<(d.files++[(⟨[],0⟩:Fl)]).length:=t;show(if i=d.files.length then Value.slice none 0 0 else L.vs i).ownBlock=some g->(if j=d.files.length then Value.slice none 0 0 else L.vs j).ownBlock≠some g
  by_cases m:i=d.files.length
  ·rw[zab m]
   intro l
   cases l
  ·rw[zaa m]
   by_cases k:j=d.files.length
   ·rw[zab k]
    intro _ l
    cases l
   ·rw[zaa k]
    exact b.vsn i j (by show i<d.files.length;omega) (by show j<d.files.length;omega) y g
 ·intro i a
  have x:i<(d.files++[(⟨[],0⟩:Fl)]).length:=a;show Gr F w W (if i=d.files.length then w.heap.size else L.ps i)
  by_cases e:i=d.files.length
  ·rw[zab e]
   exact .inr ⟨za0 _,by omega⟩
  ·rw[zaa e]
   exact b.fp i (by show i<d.files.length;omega)
 ·intro i a g
  have x:i<(d.files++[(⟨[],0⟩:Fl)]).length:=a;show(if i=d.files.length then Value.slice none 0 0 else L.vs i).ownBlock=some g->Gr F w W g
  by_cases e:i=d.files.length
  ·rw[zab e]
   intro l
   cases l
  ·rw[zaa e]
   exact b.fv i (by show i<d.files.length;omega) g
theorem ZjT (w:World) (ty:TypeId) (v:Value) (b:List UInt8) (d:Own w 0 v b) (f:Value) (l:List UInt8) (p:Rd w f l)
 (y:b.length+l.length<=70368744177664):
 ∃ v' w',(Builtin.append_ #[53,53] ty #[v,f]).run prog w=.ok v' w'∧Own w' 0 v' (b++l)∧w.grownBy w' v.ownBlock∧(v'.ownBlock=v.ownBlock∨v'.ownBlock=some w.heap.size):=by
 obtain⟨g,i,m,k,x⟩:=zbx Zlw;obtain⟨ao,cap,rfl,z,A,n,u⟩:=p
 cases ao with
 | none=>
  have j:=n rfl;subst j;have e:l=[]:=zao (by omega)
  subst e;have c:=zc6 (P:=prog) w 0 53 ty 5 g 1 underlying53 i v b.length (Lib.byteCells b) d;exact⟨v,w,c,by rw[zc8];exact d,⟨rfl,rfl,rfl,za0 _,fun _ _ _=>rfl⟩,.inl rfl⟩
 | some a=>
  obtain⟨v',w',c,q,t,_,e⟩:=zdf (P:=prog) w 0 53 ty 5 g (.int .u8 0) 1 1 underlying53 i m k x rfl (by decide) v b.length (Lib.byteCells b) d a l.length cap (Lib.byteCells l)
   (by rw[Y4,zct]) (Rd.cells u a rfl) (ZaK l) (by unfold maxLen;omega) (by omega) (zap _)
  exact⟨v',w',c,Own.mk' q (by simp) (by simp[Lib.byteCells]),t,e⟩
theorem ZbP (w:World) {d:Array Oper} {rest:List Oper} {o:Oper} {a:Act} {Q:Exit->Act->World->Prop} (j:o.guard=none) (s x:Operand)
 (n:o.op=.call { callee:=.builtin .append,args:=#[s,x],argTypes:=#[53,53] })
 (v:Value) (b:List UInt8) (e:a.eval s=v) (p:Own w 0 v b) (c:Value) (l:List UInt8) (t:a.eval x=c) (m:Rd w c l)
 (f:b.length+l.length<=70368744177664)
 (h:∀ v' w',Own w' 0 v' (b++l)->w.grownBy w' v.ownBlock->(v'.ownBlock=v.ownBlock∨v'.ownBlock=some w.heap.size)->wpList prog d Q rest (a.put o.dst v') w'):wpList prog d Q (o::rest) a w:=
 zb0 j fun _ g=>by
  obtain⟨v',w',i,u,q,k⟩:=ZjT w o.type v b p c l m f;unfold Oper.wp execOp;simp only [n,resolve,invoke,builtin,zbt,zbv,zbe,map_toArray,map_cons,map_nil,e,t,i];exact g _ _ (h v' w' u q k)
theorem Xf.grow {L:Lay} {f:Nat} {x:List UInt8} (h:Xf F w p L d u N) (j:f<d.files.length)
 (q:Own a 0 v' ((fl d.files f).b++x)) (n:w.grownBy a (L.vs f).ownBlock) (hl:v'.ownBlock=(L.vs f).ownBlock∨v'.ownBlock=some w.heap.size):
 Xf (Gr F w a) (a.setCell ⟨L.ps f,0,none⟩ v') p { L with vs:=fun i=>if i=f then v' else L.vs i } { d with files:=Yt d.files f x } u N∧Ql F w (a.setCell ⟨L.ps f,0,none⟩ v'):=by
 have m:=h.rest;have v:=(m.file f j).box
 have A:(L.vs f).ownBlock≠some (L.ps f):=fun e=>by
  obtain⟨C,t⟩:=Di (m.file f j).own e;exact(v.ne t (by decide)) rfl
 have y:Bk 117 a (L.ps f) #[L.vs f,.int .i64 ((fl d.files f).k:Int)]:=v.keep (n.block _ v.lt (fun e=>A e.symm))
 have z:(a.setCell ⟨L.ps f,0,none⟩ v').heap.size=a.heap.size:=by simp
 refine⟨h.setFile (F':=Gr F w a) j (fun k l B E=>?_) ⟨y.set 0 v',?_⟩ ?_ (fun _ l=>.inl l) (fun g c=>?_) (fun k l=>by rw[z];exact Gr.lt n.size h.lt k l),?_⟩
 ·rw[zat _ _ _ _ B,n.block k (h.lt k l) (fun e=>E e.symm)]
 ·refine Qh q fun g c=>zat _ _ _ _ ?_
  obtain⟨C,t⟩:=Di q c;exact t.ne y (by decide)
 ·rcases hl with hl | hl
  ·exact .inl hl
  ·exact .inr fun g c=>by rw[hl] at c;exact zep (zaq c)
 ·rcases hl with hl | hl
  ·exact .inl (m.fv f j g (by rw[<-hl];exact c))
  ·have D:=(zaz q g c).2
   rw[hl] at c;obtain rfl:=zaq c;exact .inr ⟨za0 _,D⟩
 ·exact(Ql.ofGrown n fun k e _=>m.fv f j k e).setCell 0 (fun _=>m.fp f j) v'
theorem Bnd.grow (h:Bnd d N T) (f:Nat) (b:List UInt8) (q:Int):Bnd { d with files:=Yt d.files f b,power:=q } (N+1) (T+b.length):=by
 refine⟨by show(Yt d.files f b).length<=_;have:=h.files;simp[Yt];omega,by have:=h.names;show d.kept.length+d.waits.length<=_;omega,fun x a=>?_⟩
 rcases zcs a with a | rfl
 ·have:=h.bytes x a;omega
 ·simp only [length_append]
  by_cases c:f<d.files.length
  ·have:=h.bytes _ (ZbI c);omega
  ·unfold fl
   rw[List.getD,zbw (by omega)]
   simp only [Option.getD_none,zc0];omega
theorem Bnd.fresh (h:Bnd d N T) (n:Int):Bnd (Ji d n) (N+1) T:=by
 refine⟨by show(d.files++[_]).length<=_;have:=h.files;simp;omega,by have:=h.names;show d.kept.length+(d.waits++[_]).length<=_;simp;omega,fun x hx=>?_⟩
 rcases za2.1 hx with hx | hx
 ·exact h.bytes x hx
 ·rw[zaw.1 hx]
  exact zap _
theorem Bnd.mono (h:Bnd d N T) (a:N<=N') (b:T<=T'):Bnd d N' T':=
 ⟨zau h.files a,zau h.names a,fun x c=>zau (h.bytes x c) b⟩
theorem Xf.mono {L:Lay} (h:Xf F w p L d u N) (a:N<=N'):Xf F w p L d u N':=⟨h.head,h.rest.mono a,h.fh,h.lt⟩
theorem Dsk.mono (h:Dsk F w p d N T) (a:N<=N') (b:T<=T'):Dsk F w p d N' T':=by
 obtain⟨L,g,f,e,c⟩:=h;exact⟨L,g.mono a,f,e.mono a b,c⟩
def Zgv (F:Nat->Prop) (w:World) (p:Nat) (d:Dk) (code:Int) (N T:Nat) (e:Ending) (w':World):Prop:=
 e=.returned (.int .i64 code)∧∃ F',Dsk F' w' p d N T∧Ql F w w'∧∀ k,F' k->F k∨w.heap.size<=k
theorem Zgv.same {a:Int} (h:Dsk F w p d N T) (c:N<=N') (b:T<=T'):Zgv F w p d a N' T' (.returned (.int .i64 a)) w:=
 ⟨rfl,F,h.mono c b,Ql.refl _ _,fun _ e=>.inl e⟩
theorem Zgv.drew {a:Int} (h:Dsk F w p d N T) (c:N<=N') (b:T<=T') (q:Nat):Zgv F w p d a N' T' (.returned (.int .i64 a)) (w.drewN q):=
 ⟨rfl,F,(h.below (X6 (zac _ _) q)).mono c b,(Ql.refl _ _).drewN q,fun _ e=>.inl e⟩
theorem Zdj {q:Int} (h:I64 q):I64 (Ye q):=by
 obtain⟨b,a⟩:=h;unfold Ye I64;split <;> omega
theorem Zpq (h:OkD d) {N T:Nat} (a:Bnd d N T) (c:N<=1000000) (b:T<=1000000000):Jh d<=1000000000000000:=by
 have f:=Zxs h a.names a.bytes;have e:N*T<=1000000*1000000000:=zgi c b;omega
theorem Zgv.appended {c:Nat->Prop} {e:World} {a:Dk} {d f:Nat} {n:Int} {b:List UInt8} {g:Lay} (j:OkD a) (q:Bnd a d T) (i:I64 a.room∧I64 a.power) (u:look (Qm a) n=some f)
 (h:Xf c e p g (appendTo a f b) ((Jh a:Int)+b.length) d) (l:Ql F w e) (m:∀ k,c k->F k∨w.heap.size<=k) (t:d+1<=N'):Zgv F w p (appendTo a f b) 0 N' (T+b.length) (.returned (.int .i64 0)) e:=by
 refine⟨rfl,c,⟨g,?_,j.appendTo f b,(q.grow f b _).mono t zL,i.1,Zdj i.2⟩,l,m⟩;rw[Zsn j u b];exact h.mono (by omega)
theorem Rd.blockLt (h:Rd w v l):l=[]∨∀ k,v.ownBlock=some k->k<w.heap.size:=by
 obtain⟨ao,cap,rfl,j,g,i,a⟩:=h;rcases a with a | ⟨b,f,rfl,c⟩
 ·exact .inl a
 ·by_cases e:l=[]
  ·exact .inl e
  ·right
   intro k d;obtain rfl:b=k:=by simpa[Value.ownBlock] using d
   exact za1 w ⟨b,f+0,none⟩ (c 0 (zes.2 e))
theorem Rd.onlyN (h:Rd w v l) {F G:Nat->Prop} {B:Nat} (g:Ql G w w') (e:∀ k,G k->F k∨B<=k) (hv:l=[]∨∀ k,v.ownBlock=some k->¬ F k) (hlt:l=[]∨∀ k,v.ownBlock=some k->k<B):Rd w' v l:=by
 rcases hv with rfl | hv
 ·obtain⟨ao,cap,rfl,c,b,a,f⟩:=h
  exact⟨ao,cap,rfl,c,b,a,.inl rfl⟩
 rcases hlt with rfl | hlt
 ·obtain⟨ao,cap,rfl,c,b,a,f⟩:=h
  exact⟨ao,cap,rfl,c,b,a,.inl rfl⟩
 ·exact h.only g fun k d i=>by
   rcases e k i with hf | hf
   ·exact hv k d hf
   ·have:=hlt k d;omega
theorem Zkx (n:Int) (hn:I64 n) (vb:Value) (b:List UInt8) (w:World) (h:Dsk F w p d N T) (hr:Rd w vb b) (hv:b=[]∨∀ k,vb.ownBlock=some k->¬ F k) (hN:N<=1000000) (hT:T<=1000000000) (bl:b.length<=1000000000):
 Calls prog 52 #[ptr p,.int .i64 n,vb] w fun e w'=>Zgv F w p (Qy d n b).1 (Qy d n b).2 (N+2) (T+b.length) e w':=by
 have HD:=ZZ h;obtain⟨L,h,aJ,aG,bc,a8⟩:=h;have H:=ZZ h;have t:=ZZ aJ;have aw:=ZZ aG;have HI:=ZZ (And.intro bc a8);have ay:=ZZ hr;have bg:=ZZ hr.blockLt;have HV:=ZZ hv;have l:=ZZ (Zni w h);have E:=ZZ (Znj n w);have j:=h.rest.now.look hn;obtain⟨⟨c0,c1,c2,-,-,-⟩,-⟩:=h.cells;have bf:=Zpq aJ aG hN hT;obtain⟨U,hU⟩:∃ U:Int,U=(Jh d:Int):=⟨_,rfl⟩;have bj:0<=U∧U<=1000000000000000:=by omega
 rw[<-hU] at c1;obtain⟨ao,cap,rfl,-⟩:=hr;obtain⟨R,hR⟩:=zg7 d.room;rw[<-hR] at c0;unfold Qy;rw[<-hU,<-hR];have HU:=ZZ hU;clear hU bf hR;clear aJ aG a8 hv h;by_cases h0:d.power=0
 ·rw[zab h0]
  rw[h0] at l;clear j h0
  go_enter func52,ntmps52
  go_wp2_with fail
  refine l.o.mono ?_;rintro e w' ⟨rfl,rfl⟩;go_wp2;go_ret;exact Zgv.same HD.o (by omega) (by omega)
 rw[zaa h0];have e0:(d.power != 0)=true:=by simpa using h0
 rw[e0] at l;clear h0 e0
 cases hmn:ZdM n with
 | false=>
  rw[zab rfl];rw[hmn] at E;clear j hmn
  go_enter func52,ntmps52
  go_wp2_with fail
  refine l.o.mono ?_;rintro e w' ⟨rfl,rfl⟩
  go_wp2_with fail
  refine E.o.mono ?_;rintro e w' ⟨rfl,rfl⟩;go_wp2;go_ret;exact Zgv.same HD.o (by omega) (by omega)
 | true=>
 rw[zaa (by simp)]
 have aV:=ZZ hmn;rw[hmn] at E;clear hmn;by_cases am:U+(b.length:Int)>R
 ·rw[zab am]
  clear j
  go_enter func52,ntmps52
  go_wp2_with fail
  refine l.o.mono ?_;rintro e w' ⟨rfl,rfl⟩
  go_wp2_with fail
  refine E.o.mono ?_;rintro e w' ⟨rfl,rfl⟩
  go_upto_region 5 with fail
  go_quiet(fail)
  go_wp2;go_ret;exact Zgv.drew HD.o (by omega) (by omega) _
 rw[zaa am];have ba:decide (U+(b.length:Int)>R)=false:=zai am;have bk:U+(b.length:Int)<=R:=by omega
 cases ho:look (Qm d) n with
 | some f=>
  clear j
  dsimp only
  have aa:=ZZ ho;clear ho
  go_enter func52,ntmps52
  go_wp2_with fail
  refine l.o.mono ?_;rintro e w' ⟨rfl,rfl⟩
  go_wp2_with fail
  refine E.o.mono ?_;rintro e w' ⟨rfl,rfl⟩
  go_upto_region 5 with fail
  go_cut[17] (fun v wc=>v=.bool false∧Hid (∃ q,wc=w'.drewN q))
  case first=>
   go_quiet(fail)
   go_wp2
   go_meet
   exact⟨rfl,ZZ ⟨_,rfl⟩⟩
  case rest=>
   obtain⟨W,rfl⟩:=zg7 wc;obtain⟨rfl,hw⟩:=hcut;obtain⟨w,rfl⟩:=zg7 w';obtain⟨q,A⟩:=hw.out;have C:Hid (Xf F W p L d U N):=ZZ (by rw[A,HU.o];exact H.out.keep (fun _ _=>rfl) zL)
   have ab:Hid (Ql F w W):=ZZ (by rw[A];exact(Ql.refl _ _).drewN q)
   have ap:Hid (Rd W (.slice ao b.length cap) b):=ZZ (by rw[A];exact ay.o.below (X6 (zac _ _) q) zL)
   clear hw A c0 c1 c2 am ba H ay l E HD;obtain⟨⟨-,-,c2,-,-,-⟩,-⟩:=C.o.cells;have j:=C.o.rest.now.look hn;rw[aa.o] at j;have aX:(Instr.lookup 65 (.map (some L.now)) (.int .i64 n) true).run prog W=.ok (.tuple #[.pointer (some ⟨L.ps f,0,none⟩),.bool true]) W:=j;have hf:f<d.files.length:=(t.o.dir.mayOf aa.o).2;have aK:=aa;have g:=C;have aC:=HU;have aS:=t;have ar:=aw;have aj:=HI;have z:Hid (∀ k,F k->F k∨w.heap.size<=k):=ZZ (fun k hk=>.inl hk)
   have V:=ab;have aE:=ap;clear j C ab ap
   go_upto_region 11 with fail
   clear aX c2;obtain⟨g0,y0⟩:=(g.o.rest.file f hf).box.cell 0 rfl;have ae:=ZZ (g.o.rest.file f hf).own;have J:=ZZ (g.o.rest.file f hf).box;obtain⟨va,vc,X⟩:=(g.o.rest.file f hf).own.shape;rw[X] at g0;have ag:=ZZ X;have aL:Hid ((fl d.files f).b.length+b.length<=70368744177664):=ZZ (by have:=ar.o.bytes _ (ZbI hf);omega)
   clear X
   go_wp2_with(at_builtin;refine(fun(h:True->_)=>h trivial) ?_)
   intro _;rw[<-ag.o];refine ZbP W rfl _ _ rfl (L.vs f) _ rfl ae.o _ b rfl aE.o aL.o ?_;intro v' w2 K O ak;obtain⟨ai,af⟩:=g.o.grow hf K O ak;have D:=ZZ ai;have P:=ZZ af
   have ac:(L.vs f).ownBlock≠some (L.ps f):=fun e=>by
    obtain⟨bd,aT⟩:=Di ae.o e;exact(J.out.ne aT (by decide)) rfl
   obtain⟨g2,y2⟩:=(J.out.keep (O.block _ J.out.lt (fun e=>ac e.symm))).cell 0 rfl
   rw[ag.o] at g2;obtain⟨aM,aW,ad⟩:=K.shape;rw[ad] at D P ⊢;obtain⟨S,I⟩:=zg7 (w2.setCell ⟨L.ps f,0,none⟩ (.slice aM ((fl d.files f).b++b).length aW));have Y:=ZZ I;obtain⟨M,Q⟩:=zg7 (((fl d.files f).b++b).length);rw[<-I] at D P;rw[<-Q];rw[<-Q] at Y;clear K O ak ai af ac ad I Q g0 y0
   go_upto_region 12 with fail
   rw[<-Y.o];clear Y g2 y2;obtain⟨⟨-,k1,-,-,-,-⟩,j1,-⟩:=D.o.cells;obtain⟨u,y⟩:=zg7 (S.setCell ⟨p,1,none⟩ (.int .i64 (U+(b.length:Int))));have an:=ZZ (D.o.setHead 1 (.int .i64 (U+(b.length:Int))) (d':={ d with files:=Yt d.files f b }) (u':=U+(b.length:Int)) ⟨rfl,rfl,rfl⟩ rfl)
   have aF:Hid (Ql F w u):=ZZ (by
    rw[y]
    exact(V.o.trans P.o (fun k hk hf=>(z.o k hf).resolve_right (by omega))).setCell 1 (fun be=>((z.o p g.o.fh).resolve_right (by omega))) _)
   rw[<-y] at an;have au:=ZZ y;clear y
   go_upto_region 13 with fail
   rw[<-au.o];clear au k1 j1
   go_wp2_with fail
   refine(Zcb u an.o aj.o.2).mono ?_;rintro e W5 ⟨rfl,aP,aO⟩;go_wp2;go_ret;refine Zgv.appended aS.o ar.o aj.o aK.o (by rw[<-aC.o];exact aP) ((aF.o.trans aO (fun k hk hf=>?_))) (fun k hk=>?_) (by omega)
   ·rcases hf with hf | hf
    ·exact(z.o k hf).resolve_right (by omega)
    ·have:=V.o.size;omega
   ·rcases hk with hk | hk
    ·exact z.o k hk
    ·have:=V.o.size;exact .inr (by omega)
 | none=>
  clear j
  dsimp only
  have aa:=ZZ ho;clear ho
  go_enter func52,ntmps52
  go_wp2_with fail
  refine l.o.mono ?_;rintro e w' ⟨rfl,rfl⟩
  go_wp2_with fail
  refine E.o.mono ?_;rintro e w' ⟨rfl,rfl⟩
  go_upto_region 5 with fail
  go_cut[17] (fun v wc=>v=.bool false∧Hid (∃ q,wc=w'.drewN q))
  case first=>
   go_quiet(fail)
   go_wp2
   go_meet
   exact⟨rfl,ZZ ⟨_,rfl⟩⟩
  case rest=>
   obtain⟨W,rfl⟩:=zg7 wc;obtain⟨rfl,hw⟩:=hcut;obtain⟨w,rfl⟩:=zg7 w';obtain⟨q,A⟩:=hw.out;have C:Hid (Xf F W p L d U N):=ZZ (by rw[A,HU.o];exact H.out.keep (fun _ _=>rfl) zL)
   have ab:Hid (Ql F w W):=ZZ (by rw[A];exact(Ql.refl _ _).drewN q)
   have ap:Hid (Rd W (.slice ao b.length cap) b):=ZZ (by rw[A];exact ay.o.below (X6 (zac _ _) q) zL)
   clear hw A c0 c1 c2 am ba H ay l E HD;obtain⟨⟨-,-,c2,-,-,-⟩,-⟩:=C.o.cells;have j:=C.o.rest.now.look hn;rw[aa.o] at j;have aX:(Instr.lookup 65 (.map (some L.now)) (.int .i64 n) true).run prog W=.ok (.tuple #[.pointer none,.bool false]) W:=j;have aA:=ZZ (C.o.addFile t.o);have aB:=ZZ (ab.o.alloc (.cells #[.slice none 0 0,.int .i64 0] 117));have aR:Hid (Rd (W.alloc (.cells #[.slice none 0 0,.int .i64 0] 117)) (.slice ao b.length cap) b):=ZZ (ap.o.below ((zac _ _).alloc zL _) zL);have a4:Hid (w.heap.size<=W.heap.size):=ZZ ab.o.size;have aU:Hid (W.heap.size<(W.alloc (.cells #[.slice none 0 0,.int .i64 0] 117)).heap.size):=ZZ (by simp)
   obtain⟨a,aI⟩:=zg7 (W.alloc (.cells #[.slice none 0 0,.int .i64 0] 117));rw[<-aI] at aA aB aR aU;have aZ:=ZZ aI;have l:=aa;clear aI j
   go_upto_region 10 with fail
   rw[<-aZ.o];clear aZ aX c2
   go_wp2_with fail
   refine(Zxq n W.heap.size a).mono ?_;rintro e m ⟨rfl,al⟩;have av:Below a.heap.size a m:=by rw[al];exact((zac _ _).alloc zL _).alloc (by simp) _
   have bi:m.heap.size=a.heap.size+1+1:=by rw[al];simp
   have a3:Bk 3 m a.heap.size #[.int .i64 n]:=by rw[al];exact(zav _ _ _ (by simp)).trans (zak a _)
   have a9:Bk 115 m (a.heap.size+1) #[ptr W.heap.size]:=by
    have e1:a.heap.size+1=(a.alloc (.cells #[.int .i64 n] 3)).heap.size:=by simp
    rw[al,e1];exact zak _ _
   have az:=ZZ (aA.o.more av);obtain⟨Z,aq⟩:=zg7 (Gr (Gr F W a) a m);rw[<-aq] at az;obtain⟨LB,aN⟩:∃ LB:Lay,LB={ L with ps:=fun i=>if i=d.files.length then W.heap.size else L.ps i,vs:=fun i=>if i=d.files.length then .slice none 0 0 else L.vs i }:=⟨_,rfl⟩
   have aD:LB.ps d.files.length=W.heap.size:=by rw[aN];exact zab rfl
   rw[<-aN] at az;have a1:Hid (ChV Z m LB.ps (.give n d.files.length) (.func (.func 139) #[] #[ptr (a.heap.size+1),ptr a.heap.size])):=ZZ ⟨_,_,rfl,a3,by rw[aD];exact a9,by rw[aq];exact .inr ⟨za0 _,by omega⟩,by rw[aq];exact .inr ⟨by omega,by omega⟩⟩
   have ax:Hid (∀ k,Z k->F k∨w.heap.size<=k):=ZZ (fun k hk=>by
    rw[aq] at hk;have h1:=a4.o;have h2:=aU.o;rcases hk with (hk | hk) | hk
    ·exact .inl hk
    ·exact .inr (by omega)
    ·exact .inr (by omega))
   have aQ:Hid (Ql F w m):=ZZ (aB.o.trans (G:=fun _=>False) (Ql.ofBelow av) (fun _ _ hf=>hf.elim))
   have a6:Hid (Rd m (.slice ao b.length cap) b):=ZZ (aR.o.below av zL);have a7:=ZZ aD
   have bb:Hid (OkD { d with files:=d.files++[⟨[],0⟩] }):=ZZ ⟨fun k=>(t.o.dirs k).more (by simp),fun c hc=>(t.o.chs c hc).more (by simp),fun x hx=>by
    rcases za2.1 hx with hx | hx
    ·exact t.o.keep x hx
    ·rw[zaw.1 hx];exact za0 _⟩
   have a2:=ZZ (Zic m az.o a1.o bb.o ⟨aV.o,by simp⟩ hN (by have:=aw.o.names;show d.waits.length<=1000000;omega))
   clear av bi a3 a9 aq aN aD al
   go_wp2_with fail
   refine a2.o.mono ?_;rintro e WC ⟨rfl,LC,a0,a5,-,aH⟩;have aK:Hid (look (Qm (Ji d n)) n=some d.files.length):=ZZ (ZrP t.o n);have g:Hid (Xf (Gr Z m WC) WC p LC (Ji d n) U (N+1)):=ZZ a0;have aC:Hid (U=(Jh (Ji d n):Int)):=ZZ (by rw[Zpo t.o l.o];exact HU.o)
   have aS:Hid (OkD (Ji d n)):=ZZ (t.o.fresh aV.o);have ar:Hid (Bnd (Ji d n) (N+1) T):=ZZ (aw.o.fresh n);have aj:Hid (I64 (Ji d n).room∧I64 (Ji d n).power):=ZZ HI.o
   have z:Hid (∀ k,Gr Z m WC k->F k∨w.heap.size<=k):=ZZ (fun k hk=>by
    rcases hk with hk | hk
    ·exact ax.o k hk
    ·have:=aQ.o.size;exact .inr (by omega))
   have V:Hid (Ql F w WC):=ZZ (aQ.o.trans aH (fun k hk hf=>(ax.o k hf).resolve_right (by omega)))
   have aE:Hid (Rd WC (.slice ao b.length cap) b):=ZZ (a6.o.onlyN (B:=w.heap.size) aH ax.o HV.o bg.o);have hf:d.files.length<(Ji d n).files.length:=by simp[Ji]
   have aY:LC.ps d.files.length=W.heap.size:=by rw[a5];exact a7.o
   rw[<-aY];clear a0 a5 aH aY a2 a1 az ax aQ a6 a7 bb aA aB aR a4 aU l C ab ap t aw HI HU hn aV
   go_upto_region 11 with fail
   obtain⟨g0,y0⟩:=(g.o.rest.file d.files.length hf).box.cell 0 rfl;have ae:=ZZ (g.o.rest.file d.files.length hf).own;have J:=ZZ (g.o.rest.file d.files.length hf).box;obtain⟨va,vc,X⟩:=(g.o.rest.file d.files.length hf).own.shape;rw[X] at g0;have ag:=ZZ X;have aL:Hid ((fl (Ji d n).files d.files.length).b.length+b.length<=70368744177664):=ZZ (by have:=ar.o.bytes _ (ZbI hf);omega)
   clear X
   go_wp2_with(at_builtin;refine(fun(h:True->_)=>h trivial) ?_)
   intro _;rw[<-ag.o];refine ZbP WC rfl _ _ rfl (LC.vs d.files.length) _ rfl ae.o _ b rfl aE.o aL.o ?_;intro v' w2 K O ak;obtain⟨ai,af⟩:=g.o.grow hf K O ak;have D:=ZZ ai;have P:=ZZ af
   have ac:(LC.vs d.files.length).ownBlock≠some (LC.ps d.files.length):=fun e=>by
    obtain⟨bd,aT⟩:=Di ae.o e;exact(J.out.ne aT (by decide)) rfl
   obtain⟨g2,y2⟩:=(J.out.keep (O.block _ J.out.lt (fun e=>ac e.symm))).cell 0 rfl
   rw[ag.o] at g2;obtain⟨aM,aW,ad⟩:=K.shape;rw[ad] at D P ⊢;obtain⟨S,I⟩:=zg7 (w2.setCell ⟨LC.ps d.files.length,0,none⟩ (.slice aM ((fl (Ji d n).files d.files.length).b++b).length aW));have Y:=ZZ I;obtain⟨M,Q⟩:=zg7 (((fl (Ji d n).files d.files.length).b++b).length);rw[<-I] at D P;rw[<-Q];rw[<-Q] at Y;clear K O ak ai af ac ad I Q g0 y0
   go_upto_region 12 with fail
   rw[<-Y.o];clear Y g2 y2;obtain⟨⟨-,k1,-,-,-,-⟩,j1,-⟩:=D.o.cells;obtain⟨u,y⟩:=zg7 (S.setCell ⟨p,1,none⟩ (.int .i64 (U+(b.length:Int))));have an:=ZZ (D.o.setHead 1 (.int .i64 (U+(b.length:Int))) (d':={ (Ji d n) with files:=Yt (Ji d n).files d.files.length b }) (u':=U+(b.length:Int)) ⟨rfl,rfl,rfl⟩ rfl)
   have aF:Hid (Ql F w u):=ZZ (by
    rw[y]
    exact(V.o.trans P.o (fun k hk hf=>(z.o k hf).resolve_right (by omega))).setCell 1 (fun be=>((z.o p g.o.fh).resolve_right (by omega))) _)
   rw[<-y] at an;have au:=ZZ y;clear y
   go_upto_region 13 with fail
   rw[<-au.o];clear au k1 j1
   go_wp2_with fail
   refine(Zcb u an.o aj.o.2).mono ?_;rintro e W5 ⟨rfl,aP,aO⟩;go_wp2;go_ret;refine Zgv.appended aS.o ar.o aj.o aK.o (by rw[<-aC.o];exact aP) ((aF.o.trans aO (fun k hk hf=>?_))) (fun k hk=>?_) (by omega)
   ·rcases hf with hf | hf
    ·exact(z.o k hf).resolve_right (by omega)
    ·have:=V.o.size;omega
   ·rcases hk with hk | hk
    ·exact z.o k hk
    ·have:=V.o.size;exact .inr (by omega)
theorem Own.nil (w:World) (B:Nat):Own w B (.slice none 0 0) []:=zck w B 5 1
theorem ZlJ (w:World) (ty:TypeId) (B:Nat) (v:Value) (b:List UInt8) (c:Own w B v b) (e:Value) (l:List UInt8) (q:Rd w e l)
 (C:b.length+l.length<=70368744177664) (f:B<=w.heap.size):
 ∃ v' w',(Builtin.append_ #[53,53] ty #[v,e]).run prog w=.ok v' w'∧Own w' B v' (b++l)∧Below B w w':=by
 obtain⟨g,i,n,m,z⟩:=zbx Zlw;obtain⟨ao,cap,rfl,D,E,p,y⟩:=q
 cases ao with
 | none=>
  have j:=p rfl;subst j;have A:l=[]:=zao (by omega)
  subst A;have d:=zc6 (P:=prog) w B 53 ty 5 g 1 underlying53 i v b.length (Lib.byteCells b) c;exact⟨v,w,d,by rw[zc8];exact c,zac _ _⟩
 | some a=>
  obtain⟨v',w',d,u,x,_⟩:=zdn (P:=prog) w B 53 ty 5 g (.int .u8 0) 1 1 underlying53 i n m z rfl (by decide) v b.length (Lib.byteCells b) c a l.length cap (Lib.byteCells l)
   (by rw[Y4,zct]) (Rd.cells y a rfl) (ZaK l) (by unfold maxLen;omega) (by omega) f
  refine⟨v',w',d,Own.mk' u (by simp) (by simp[Lib.byteCells]),?_⟩
  exact(zac _ _).grown x f (fun k t=>(zaz c k t).1)
theorem Znq {o:Oper} {a:Act} {K:Act->World->Prop} {Q:Exit->Act->World->Prop} (w:World) (s x:Operand)
 (j:o.op=.call { callee:=.builtin .append,args:=#[s,x],argTypes:=#[53,53] })
 (B:Nat) (v:Value) (b:List UInt8) (d:a.eval s=v) (k:Own w B v b) (c:Value) (l:List UInt8) (n:a.eval x=c) (g:Rd w c l)
 (e:b.length+l.length<=70368744177664) (i:B<=w.heap.size)
 (h:∀ v' w',Own w' B v' (b++l)->Below B w w'->K (a.put o.dst v') w'):o.wp prog a w K Q:=by
 obtain⟨v',w',f,p,m⟩:=ZlJ w o.type B v b k c l g e i;unfold Oper.wp execOp;simp only [j,resolve,invoke,builtin,zbt,zbv,zbe,map_toArray,map_cons,map_nil,d,n,f];exact h v' w' p m
theorem Xx (w:World) {d:Array Oper} {rest:List Oper} {o:Oper} {a:Act} {Q:Exit->Act->World->Prop} (i:o.guard=none) (s x:Operand)
 (m:o.op=.call { callee:=.builtin .append,args:=#[s,x],argTypes:=#[53,53] })
 (B:Nat) (v:Value) (b:List UInt8) (e:a.eval s=v) (n:Own w B v b) (c:Value) (l:List UInt8) (q:a.eval x=c) (j:Rd w c l)
 (f:b.length+l.length<=70368744177664) (k:B<=w.heap.size)
 (h:∀ v' w',Own w' B v' (b++l)->Below B w w'->wpList prog d Q rest (a.put o.dst v') w'):wpList prog d Q (o::rest) a w:=
 zb0 i fun _ g=>Znq w s x m B v b e n c l q j f k fun v' w' t p=>g _ _ (h v' w' t p)
end Go.Proofs.YtnahjngbneicaaaGreatDoor
