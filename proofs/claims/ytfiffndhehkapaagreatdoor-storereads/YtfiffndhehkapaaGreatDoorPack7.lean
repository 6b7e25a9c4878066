import Derived.Test.YtfiffndhehkapaaGreatDoorPack6
import Derived.Deep.RegionHeld
import Derived.Deep.DeepCutAuto
import Derived.Test.YtfiffndhehkapaaGreatDoorPack3
import Derived.ChangeSlices
import Derived.Test.YtfiffndhehkapaaGreatDoorPack5
import Derived.Test.YtfiffndhehkapaaGreatDoorPack2
import Derived.Test.YtfiffndhehkapaaGreatDoorPack4
import Derived.Lib.SliceRun
import Derived.Shelf.Abstract
import Derived.Deep.QuietTactic
import Derived.BigQuiet
import Derived.Deep.RegionHeld2
import Derived.BigRegion
namespace Go.Proofs.YtfiffndhehkapaaGreatDoor
set_option maxHeartbeats 4000000
set_option maxRecDepth 100000
open Go.RowKit
def Zwp (l:List UInt8) (A:Nat) (L:List (List UInt8)):Prop:=
 Zao l=(L++(Zao (l.drop A)).1,A+(Zao (l.drop A)).2.1,(Zao (l.drop A)).2.2)∧5*L.length<=A∧A<=l.length
theorem Zwp.start (l:List UInt8):Zwp l 0 []:=⟨by simp,by simp,by omega⟩
theorem Zwp.stop {l:List UInt8} {A:Nat} {L:List (List UInt8)} (h:Zwp l A L) (hA:A<l.length) (he:(ZbP (l.drop A)).2.2≠0):Zao l=(L,A,(ZbP (l.drop A)).2.2):=by
 have hne:l.drop A≠[]:=fun e=>by
  have:=congrArg List.length e
  rw[List.length_drop,List.length_nil] at this
  omega
 rw[h.1,Zfb hne he]
 simp
theorem Zwp.whole {l:List UInt8} {A:Nat} {L:List (List UInt8)} (h:Zwp l A L) (hA:¬ A<l.length):Zao l=(L,A,0):=by
 have e:l.drop A=[]:=List.drop_of_length_le (by omega)
 rw[h.1,e,ZeL]
 simp
theorem Zwp.step {l:List UInt8} {A:Nat} {L:List (List UInt8)} (h:Zwp l A L) (hA:A<l.length) (he:(ZbP (l.drop A)).2.2=0):Zwp l (A+(ZbP (l.drop A)).2.1) (L++[(ZbP (l.drop A)).1]):=by
 have hne:l.drop A≠[]:=fun e=>by
  have:=congrArg List.length e
  rw[List.length_drop,List.length_nil] at this
  omega
 have h5:=ZeK he
 have hle:=Zvz (l.drop A)
 rw[List.length_drop] at hle
 refine⟨?_,?_,by omega⟩
 ·rw[h.1,Zfc hne he,List.drop_drop]
  simp[Nat.add_assoc]
 ·have:=h.2.1
  simp
  omega
def Zzt (l:List UInt8):List (List UInt8) × Nat:=if(Zao l).2.2=0 then((Zao l).1,0) else([],(Zao l).2.2)
theorem ZlR (w:World) (ty:TypeId) (B:Nat) (v:Value) (l0:List UInt8) (hown:Own w B v l0) (vx:Value) (l:List UInt8) (hr:Rd w vx l)
 (hlim:l0.length+l.length<=70368744177664) (hbase:B<=w.heap.size):
 ∃ v' w',(Builtin.append_ #[53,53] ty #[v,vx]).run Tryz.prog w=.ok v' w'∧Own w' B v' (l0++l)∧w.grownBy w' v.ownBlock:=by
 obtain⟨i0,hi,hz0,hz1,hz2⟩:=info_parts Zni
 obtain⟨ao,cap,rfl,hlc,hcm,hn0,hao⟩:=hr
 cases ao with
 | none=>
  have hc:=hn0 rfl
  subst hc
  have hl:l=[]:=List.eq_nil_of_length_eq_zero (by omega)
  subst hl
  have hrun:=run_append_owned_none (P:=Tryz.prog) w B 53 ty 5 i0 1 Tryz.underlying53 hi v l0.length (Lib.byteCells l0) hown
  exact⟨v,w,hrun,by rw[List.append_nil];exact hown,⟨rfl,rfl,rfl,Nat.le_refl _,fun _ _ _=>rfl⟩⟩
 | some a=>
  obtain⟨v',w',hrun,ho,hg,_⟩:=run_append_own (P:=Tryz.prog) w B 53 ty 5 i0 (.int .u8 0) 1 1 Tryz.underlying53 hi hz0 hz1 hz2 rfl (by decide) v l0.length (Lib.byteCells l0) hown a l.length cap (Lib.byteCells l)
   (by rw[Zbr,Nat.mul_one]) (Rd.cells hao a rfl) (ZdA l) (by unfold maxLen;omega) (by omega) hbase
  exact⟨v',w',hrun,Own.mk' ho (by simp) (by simp[Lib.byteCells]),hg⟩
theorem Zis (w:World) {ops:Array Oper} {rest:List Oper} {o:Oper} {a:Act} {Q:Exit->Act->World->Prop} (hgd:o.guard=none) (s x:Operand)
 (ho:o.op=.call { callee:=.builtin .append,args:=#[s,x],argTypes:=#[53,53] })
 (B:Nat) (v:Value) (l0:List UInt8) (hs:a.eval s=v) (hown:Own w B v l0) (vx:Value) (l:List UInt8) (hx:a.eval x=vx) (hr:Rd w vx l)
 (hlim:l0.length+l.length<=70368744177664) (hbase:B<=w.heap.size)
 (h:∀ v' w',Own w' B v' (l0++l)->w.grownBy w' v.ownBlock->wpList Tryz.prog ops Q rest (a.put o.dst v') w'):wpList Tryz.prog ops Q (o::rest) a w:=
 wpList_plain hgd fun _ hK=>by
  obtain⟨v',w',hrun,h2,h3⟩:=ZlR w o.type B v l0 hown vx l hr hlim hbase
  unfold Oper.wp execOp
  simp only [ho,resolve,invoke,builtin,Sem.run_bind,Sem.run_pure,Result.andThen_ok,List.map_toArray,List.map_cons,List.map_nil,hs,hx,hrun]
  exact hK _ _ (h v' w' h2 h3)
open Go.RowKit Go.ChangeShapes
theorem ZkD:Tryz.prog.elem 145=53:=by kernel_rfl
theorem ZmC (w:World):(sizeOf 53).run Tryz.prog w=.ok 1 w:=by
 obtain⟨i0,hi,_,hz1,_⟩:=info_parts ZmB
 simp[sizeOf,typeInfo,hi,hz1]
theorem Zgg:Tryz.prog.underlying 145=some (.slice (Tryz.prog.elem 145)):=by rw[ZkD];exact Tryz.underlying145
theorem RdR.mid {w:World} {ao:Option Addr} {n cap:Nat} {l:List Rec} (h:RdR w (.slice ao n cap) l) (i j m:Nat) (hij:i<=j) (hj:j<=l.length) (hm:j<=m) (hmc:m<=cap):RdR w (sliced ao i j m 7) ((l.drop i).take (j-i)):=by
 obtain⟨ao',cap',hv,h1,h2,h3,hi,h4⟩:=h
 simp only [Value.slice.injEq] at hv
 obtain⟨rfl,rfl,rfl⟩:=hv
 have hlen:((l.drop i).take (j-i)).length=j-i:=by simp;omega
 have hi':∀ n ∈ (l.drop i).take (j-i),ZfA n:=fun n hn=>hi n (List.mem_of_mem_drop (List.mem_of_mem_take hn))
 unfold sliced
 by_cases hmi:m=i
 ·rw[if_pos hmi]
  have e:j-i=0:=by omega
  refine⟨ao,m-i,by rw[hlen],by omega,by omega,fun hn=>by have:=h3 hn;omega,hi',.inl ?_⟩
  rw[e]
  simp
 ·rw[if_neg hmi]
  refine⟨ao.map (·.add (i*7)),m-i,by rw[hlen],by omega,by omega,fun hn=>?_,hi',?_⟩
  ·have hn':ao=none:=by simpa using hn
   have:=h3 hn'
   omega
  ·rcases h4 with h4 | ⟨b,off,h5,h6⟩
   ·exact .inl (by rw[h4];simp)
   ·refine .inr ⟨b,off+i*7,?_,fun k hk=>?_⟩
    ·rw[h5,Option.map_some,Addr.add_lit]
    ·rw[hlen] at hk
     have h7:=h6 (i+k) (by omega)
     have e1:off+i*7+k*7=off+(i+k)*7:=by omega
     have e2:((l.drop i).take (j-i)).getD k Zaj=l.getD (i+k) Zaj:=by simp[List.getD,hk]
     rw[e1,e2]
     exact h7
theorem RdL.mid {w:World} {ao:Option Addr} {n cap:Nat} {l:List (List UInt8)} (h:RdL w (.slice ao n cap) l) (i j m:Nat) (hij:i<=j) (hj:j<=l.length) (hm:j<=m) (hmc:m<=cap):RdL w (sliced ao i j m 1) ((l.drop i).take (j-i)):=by
 obtain⟨ao',cap',hv,h1,h2,h3,h4⟩:=h
 simp only [Value.slice.injEq] at hv
 obtain⟨rfl,rfl,rfl⟩:=hv
 have hlen:((l.drop i).take (j-i)).length=j-i:=by simp;omega
 unfold sliced
 by_cases hmi:m=i
 ·rw[if_pos hmi]
  have e:j-i=0:=by omega
  refine⟨ao,m-i,by rw[hlen],by omega,by omega,fun hn=>by have:=h3 hn;omega,.inl ?_⟩
  rw[e]
  simp
 ·rw[if_neg hmi]
  refine⟨ao.map (·.add (i*1)),m-i,by rw[hlen],by omega,by omega,fun hn=>?_,?_⟩
  ·have hn':ao=none:=by simpa using hn
   have:=h3 hn'
   omega
  ·rcases h4 with h4 | ⟨b,off,h5,h6⟩
   ·exact .inl (by rw[h4];simp)
   ·refine .inr ⟨b,off+i,?_,fun k hk=>?_⟩
    ·rw[h5,Nat.mul_one,Option.map_some,Addr.add_lit]
    ·rw[hlen] at hk
     obtain⟨x,hx,hxr⟩:=h6 (i+k) (by omega)
     refine⟨x,by rw[Nat.add_assoc];exact hx,?_⟩
     have e2:((l.drop i).take (j-i)).getD k []=l.getD (i+k) []:=by simp[List.getD,hk]
     rw[e2]
     exact hxr
theorem RdR.cells {w:World} {ao:Option Addr} {l:List Rec} (h:l=[]∨∃ b off,ao=some ⟨b,off,none⟩∧∀ j,j<l.length->ZlO w b (off+j*7) (l.getD j Zaj)) (a:Addr) (ha:ao=some a):
 ∀ j u,(Zan l)[j]?=some u->w.cell? (a.add j)=some u:=by
 intro j u hu
 rcases h with h | ⟨b,off,h5,h6⟩
 ·rw[h] at hu
  simp[Zan] at hu
 ·rw[h5] at ha
  injection ha with ha
  subst ha
  have hj:j<(Zan l).length:=(List.getElem?_eq_some_iff.1 hu).1
  rw[Zbl] at hj
  have hdiv:j=j / 7*7+j % 7:=by omega
  have hg:=Zet l (j / 7) (j % 7) (by omega) (by omega)
  rw[<-hdiv,hu] at hg
  obtain⟨c0,c1,c2,c3,c4,c5,c6⟩:=h6 (j / 7) (by omega)
  have e:∀ k,k<7->off+(j / 7*7+k)=off+j / 7*7+k:=fun k _=>by omega
  rw[Addr.add_lit,hdiv,e (j % 7) (by omega)]
  have hk:j % 7=0∨j % 7=1∨j % 7=2∨j % 7=3∨j % 7=4∨j % 7=5∨j % 7=6:=by omega
  rcases hk with hk | hk | hk | hk | hk | hk | hk
  all_goals
   rw[hk] at hg ⊢
   rw[hg]
   first | exact c0 | exact c1 | exact c2 | exact c3 | exact c4 | exact c5 | exact c6
theorem ZkE (w:World) (ty:TypeId) (B:Nat) (v:Value) (l0:List Rec) (hown:Zbm w B v l0) (vx:Value) (l:List Rec) (hr:RdR w vx l)
 (hlim:l0.length+l.length<=1000000) (hbase:B<=w.heap.size):
 ∃ v' w',(Builtin.append_ #[29,29] ty #[v,vx]).run Tryz.prog w=.ok v' w'∧Zbm w' B v' (l0++l)∧Below B w w':=by
 obtain⟨i0,hi,hz0,hz1,hz2⟩:=info_parts Zge
 obtain⟨ao,cap,rfl,hlc,hcm,hn0,_,hao⟩:=hr
 cases ao with
 | none=>
  have hc:=hn0 rfl
  subst hc
  have hl:l=[]:=List.eq_nil_of_length_eq_zero (by omega)
  subst hl
  have hrun:=run_append_owned_none (P:=Tryz.prog) w B 29 ty 63 i0 7 Tryz.underlying29 hi v l0.length (Zan l0) hown
  exact⟨v,w,hrun,by rw[List.append_nil];exact hown,Below.refl _ _⟩
 | some a=>
  obtain⟨v',w',hrun,ho,hg,_⟩:=run_append_own (P:=Tryz.prog) w B 29 ty 63 i0 _ 7 56 Tryz.underlying29 hi hz0 hz1 hz2 rfl (by decide) v l0.length (Zan l0) hown a l.length cap (Zan l)
   (Zbl l) (RdR.cells hao a rfl) (Zeu l) (by unfold maxLen;omega) (by omega) hbase
  refine⟨v',w',hrun,?_,?_⟩
  ·unfold Zbm
   rw[List.length_append,Zdq]
   exact ho
  ·exact(Below.refl _ _).grown hg hbase (fun k hk=>(World.ownsRow.lt hown k hk).1)
theorem Zhz (w:World) {ops:Array Oper} {rest:List Oper} {o:Oper} {a:Act} {Q:Exit->Act->World->Prop} (hgd:o.guard=none) (s x:Operand)
 (ho:o.op=.call { callee:=.builtin .append,args:=#[s,x],argTypes:=#[29,29] })
 (B:Nat) (v:Value) (l0:List Rec) (hs:a.eval s=v) (hown:Zbm w B v l0) (vx:Value) (l:List Rec) (hx:a.eval x=vx) (hr:RdR w vx l)
 (hlim:l0.length+l.length<=1000000) (hbase:B<=w.heap.size)
 (h:∀ v' w',Zbm w' B v' (l0++l)->Below B w w'->wpList Tryz.prog ops Q rest (a.put o.dst v') w'):wpList Tryz.prog ops Q (o::rest) a w:=
 wpList_plain hgd fun _ hK=>by
  obtain⟨v',w',hrun,h2,h3⟩:=ZkE w o.type B v l0 hown vx l hr hlim hbase
  unfold Oper.wp execOp
  simp only [ho,resolve,invoke,builtin,Sem.run_bind,Sem.run_pure,Result.andThen_ok,List.map_toArray,List.map_cons,List.map_nil,hs,hx,hrun]
  exact hK _ _ (h v' w' h2 h3)
def Bsg (w:World) (b:Nat) (cs:Array Value):Prop:=w.heap[b]?=some (.cells cs 218 (0,0))
theorem Bsg.lt {w:World} {b:Nat} {cs:Array Value} (h:Bsg w b cs):b<w.heap.size:=(Array.getElem?_eq_some_iff.1 h).1
theorem Bsg.below {w w':World} {b B:Nat} {cs:Array Value} (h:Bsg w b cs) (hb:Below B w w') (hB:w.heap.size<=B):Bsg w' b cs:=(hb.block b (by have:=h.lt;omega)).trans h
theorem Bsg.cell {w:World} {b:Nat} {cs:Array Value} (h:Bsg w b cs) (j:Nat):w.cell? ⟨b,j,none⟩=cs[j]?∧w.frozen? ⟨b,j,none⟩=false:=⟨cell_of_row w b j _ _ _ h,frozen_of_row w b j _ _ h⟩
def pcC (p:Pce):Array Value:=#[.int .i64 p.name,.int .i64 p.first,.int .i64 p.stop]
def Zau:List Pce->List Value
 | []=>[]
 | c::l=>(pcC c).toList++Zau l
theorem Zdh:∀ l:List Pce,(Zau l).length=l.length*3
 | []=>rfl
 | c::l=>by
  rw[Zau,List.length_append,Zdh l,List.length_cons]
  show 3+_=_
  omega
theorem ZkF:∀ a b:List Pce,Zau (a++b)=Zau a++Zau b
 | [],_=>rfl
 | c::l,b=>by rw[List.cons_append,Zau,ZkF l b,Zau,List.append_assoc]
theorem Zfk:∀ (l:List Pce) (j k:Nat),j<l.length->k<3->(Zau l)[j*3+k]?=(pcC (l.getD j Zcc))[k]?
 | c::l,0,k,_,hk=>by
  rw[Zau,Nat.zero_mul,Nat.zero_add,List.getElem?_append_left (by show k<3;exact hk)]
  simp
 | c::l,j+1,k,hj,hk=>by
  have e:(j+1)*3+k=(pcC c).toList.length+(j*3+k):=by show _=3+_;omega
  rw[Zau,e,List.getElem?_append_right (by omega),Nat.add_sub_cancel_left,Zfk l j k (by simpa using hj) hk]
  rfl
theorem Zro (l:List Pce):∀ u ∈ Zau l,u.oneCell'=true:=by
 induction l with
 | nil=>intro u hu;cases hu
 | cons c l ih=>
  intro u hu
  rw[Zau] at hu
  rcases List.mem_append.1 hu with h | h
  ·simp[pcC] at h
   rcases h with rfl | rfl | rfl <;> rfl
  ·exact ih u h
def snC (x:ZaU × Value × Value):Array Value:=#[.int .i64 x.1.idx,.int .i64 x.1.st.kind,x.2.1,.bool x.1.st.shut,.int .i64 x.1.st.eng,x.2.2]
def snV (x:ZaU × Value × Value):Value:=.agg (snC x)
def ZaK:List (ZaU × Value × Value)->List Value
 | []=>[]
 | c::l=>(snC c).toList++ZaK l
theorem Zgu:∀ l:List (ZaU × Value × Value),(ZaK l).length=l.length*6
 | []=>rfl
 | c::l=>by
  rw[ZaK,List.length_append,Zgu l,List.length_cons]
  show 6+_=_
  omega
theorem ZkG:∀ a b:List (ZaU × Value × Value),ZaK (a++b)=ZaK a++ZaK b
 | [],_=>rfl
 | c::l,b=>by rw[List.cons_append,ZaK,ZkG l b,ZaK,List.append_assoc]
theorem ZkH:∀ (l:List (ZaU × Value × Value)) (j k:Nat) (hj:j<l.length),k<6->(ZaK l)[j*6+k]?=(snC l[j])[k]?
 | c::l,0,k,_,hk=>by
  rw[ZaK,Nat.zero_mul,Nat.zero_add,List.getElem?_append_left (by show k<6;exact hk)]
  simp
 | c::l,j+1,k,hj,hk=>by
  have e:(j+1)*6+k=(snC c).toList.length+(j*6+k):=by show _=6+_;omega
  rw[ZaK,e,List.getElem?_append_right (by omega),Nat.add_sub_cancel_left,ZkH l j k (by simpa using hj) hk]
  rfl
structure SnR (w:World) (x:ZaU × Value × Value):Prop where
 l:RdI w x.2.1 x.1.st.L
 t:RdE w x.2.2 x.1.tab
 k:I64 x.1.st.kind
 e:I64 x.1.st.eng
 i:I64 x.1.idx
theorem SnR.snV {w:World} {x:ZaU × Value × Value} (h:SnR w x):SnV w (snV x) x.1:=⟨x.2.1,x.2.2,rfl,h.l,h.k,h.e,h.t,h.i⟩
theorem SnR.below {w w':World} {x:ZaU × Value × Value} (h:SnR w x) {B:Nat} (hb:Below B w w') (hB:w.heap.size<=B):SnR w' x:=⟨h.l.below hb hB,h.t.below hb hB,h.k,h.e,h.i⟩
def Zos (I:Nat->Prop) (x:ZaU × Value × Value):Prop:=(x.1.st.L=[]∨∀ g,x.2.1.ownBlock=some g->I g)∧(x.1.tab=[]∨∀ g,x.2.2.ownBlock=some g->I g)
theorem Zos.mono {I J:Nat->Prop} {x:ZaU × Value × Value} (h:Zos I x) (hI:∀ k,I k->J k):Zos J x:=by
 obtain⟨h1,h2⟩:=h
 exact⟨h1.imp id fun h g hg=>hI g (h g hg),h2.imp id fun h g hg=>hI g (h g hg)⟩
theorem RdE.keepS {w w':World} {v:Value} {l:List Ent} (h:RdE w v l) (hk:l=[]∨∀ g,v.ownBlock=some g->w'.heap[g]?=w.heap[g]?):RdE w' v l:=by
 obtain⟨ao,cap,rfl,h2,h3,hn,hw,h4⟩:=h
 refine⟨ao,cap,rfl,h2,h3,hn,hw,?_⟩
 rcases h4 with h4 | ⟨b,off,rfl,h6⟩
 ·exact .inl h4
 ·rcases hk with hk | hk
  ·exact .inl hk
  ·exact .inr ⟨b,off,rfl,fun j hj=>(h6 j hj).keep (hk b rfl)⟩
theorem RdI.keepS {w w':World} {v:Value} {l:List Int} (h:RdI w v l) (hk:l=[]∨∀ g,v.ownBlock=some g->w'.heap[g]?=w.heap[g]?):RdI w' v l:=by
 obtain⟨ao,cap,rfl,h2,h3,hn,hw,h4⟩:=h
 refine⟨ao,cap,rfl,h2,h3,hn,hw,?_⟩
 rcases h4 with h4 | ⟨b,off,rfl,h6⟩
 ·exact .inl h4
 ·rcases hk with hk | hk
  ·exact .inl hk
  ·exact .inr ⟨b,off,rfl,fun j hj=>(World.cell?_of_block (a:=⟨b,off+j,none⟩) (hk b rfl)).trans (h6 j hj)⟩
theorem SnR.keep {w w':World} {I:Nat->Prop} {x:ZaU × Value × Value} (h:SnR w x) (hi:Zos I x) (hk:∀ g,I g->w'.heap[g]?=w.heap[g]?):SnR w' x:=
 ⟨h.l.keepS (hi.1.imp id fun h g hg=>hk g (h g hg)),h.t.keepS (hi.2.imp id fun h g hg=>hk g (h g hg)),h.k,h.e,h.i⟩
structure ZhA where
 rv:Value
 pv:Value
 bv:Value
 nl:Value
 nt:Value
 bs:List (ZaU × Value × Value)
def ZhA.nx (L:ZhA) (s:Sto):ZaU × Value × Value:=(s.now,L.nl,L.nt)
def stC (pd:Nat) (L:ZhA) (s:Sto):Array Value:=
 #[ptr pd,.int .i64 s.log.first,L.rv,L.pv,L.bv,.int .i64 s.now.idx,.int .i64 s.now.st.kind,L.nl,.bool s.now.st.shut,.int .i64 s.now.st.eng,L.nt,.int .i64 s.synced,.int .i64 s.cur,.bool s.nw]
structure ZeF (M I:Nat->Prop) (w:World) (p pd:Nat) (L:ZhA) (s:Sto):Prop where
 head:Bk 77 w p (stC pd L s)
 recs:Zbm w 0 L.rv s.log.recs
 pcs:w.ownsRow 0 109 3 L.pv s.log.pcs.length (Zau s.log.pcs)
 bases:w.ownsRow 0 41 6 L.bv L.bs.length (ZaK L.bs)
 bsEq:L.bs.map Prod.fst=s.bases
 now:SnR w (L.nx s)
 base:∀ x ∈ L.bs,SnR w x
 mh:M p
 mr:∀ g,L.rv.ownBlock=some g->M g
 mp:∀ g,L.pv.ownBlock=some g->M g
 mb:∀ g,L.bv.ownBlock=some g->M g
 inow:Zos I (L.nx s)
 ibase:∀ x ∈ L.bs,Zos I x
 ltM:∀ k,M k->k<w.heap.size
 ltI:∀ k,I k->k<w.heap.size
 dis:∀ k,M k->¬ I k
theorem ZeF.keep {M I:Nat->Prop} {w w':World} {p pd:Nat} {L:ZhA} {s:Sto} (h:ZeF M I w p pd L s) (hk:∀ k,(M k∨I k)->w'.heap[k]?=w.heap[k]?) (hs:w.heap.size<=w'.heap.size):ZeF M I w' p pd L s:=
 ⟨h.head.keep (hk p (.inl h.mh)),Zaf h.recs fun g hg=>hk g (.inl (h.mr g hg)),Zaf h.pcs fun g hg=>hk g (.inl (h.mp g hg)),Zaf h.bases fun g hg=>hk g (.inl (h.mb g hg)),h.bsEq,
  h.now.keep h.inow fun g hg=>hk g (.inr hg),fun x hx=>(h.base x hx).keep (h.ibase x hx) fun g hg=>hk g (.inr hg),h.mh,h.mr,h.mp,h.mb,h.inow,h.ibase,fun k hm=>Nat.lt_of_lt_of_le (h.ltM k hm) hs,fun k hm=>Nat.lt_of_lt_of_le (h.ltI k hm) hs,h.dis⟩
theorem ZeF.only {M I G:Nat->Prop} {w w':World} {p pd:Nat} {L:ZhA} {s:Sto} (h:ZeF M I w p pd L s) (ho:Zas G w w') (hM:∀ k,M k->¬ G k) (hI:∀ k,I k->¬ G k):ZeF M I w' p pd L s:=
 h.keep (fun k hk=>by
  rcases hk with hk | hk
  ·exact ho.block k (h.ltM k hk) (hM k hk)
  ·exact ho.block k (h.ltI k hk) (hI k hk)) ho.size
theorem ZeF.below {M I:Nat->Prop} {w w':World} {p pd:Nat} {L:ZhA} {s:Sto} (h:ZeF M I w p pd L s) (hb:Below w.heap.size w w'):ZeF M I w' p pd L s:=
 h.keep (fun k hk=>hb.block k (by
  rcases hk with hk | hk
  ·exact h.ltM k hk
  ·exact h.ltI k hk)) hb.size
theorem ZeF.cs {M I:Nat->Prop} {w:World} {p pd:Nat} {L:ZhA} {s:Sto} (h:ZeF M I w p pd L s):
 w.cell? ⟨p,0,none⟩=some (ptr pd)∧w.cell? ⟨p,1,none⟩=some (.int .i64 s.log.first)∧w.cell? ⟨p,2,none⟩=some L.rv∧w.cell? ⟨p,3,none⟩=some L.pv∧w.cell? ⟨p,4,none⟩=some L.bv∧
 (w.cell? ⟨p,5,none⟩=some (.int .i64 s.now.idx)∧w.cell? ⟨p,6,none⟩=some (.int .i64 s.now.st.kind)∧w.cell? ⟨p,7,none⟩=some L.nl∧w.cell? ⟨p,8,none⟩=some (.bool s.now.st.shut)∧w.cell? ⟨p,9,none⟩=some (.int .i64 s.now.st.eng)∧w.cell? ⟨p,10,none⟩=some L.nt)∧
 w.cell? ⟨p,11,none⟩=some (.int .i64 s.synced)∧w.cell? ⟨p,12,none⟩=some (.int .i64 s.cur)∧w.cell? ⟨p,13,none⟩=some (.bool s.nw):=
 ⟨(h.head.cell 0 rfl).1,(h.head.cell 1 rfl).1,(h.head.cell 2 rfl).1,(h.head.cell 3 rfl).1,(h.head.cell 4 rfl).1,⟨(h.head.cell 5 rfl).1,(h.head.cell 6 rfl).1,(h.head.cell 7 rfl).1,(h.head.cell 8 rfl).1,(h.head.cell 9 rfl).1,(h.head.cell 10 rfl).1⟩,(h.head.cell 11 rfl).1,(h.head.cell 12 rfl).1,(h.head.cell 13 rfl).1⟩
theorem ZeF.fz {M I:Nat->Prop} {w:World} {p pd:Nat} {L:ZhA} {s:Sto} (h:ZeF M I w p pd L s) (j:Nat):w.frozen? ⟨p,j,none⟩=false:=frozen_of_row w p j _ _ h.head
def SD (K:Nat->Prop) (w:World) (pd p:Nat) (s:Sto) (d:Dk) (N T:Nat):Prop:=
 ∃ F M I L,Dsk F w pd d N T∧ZeF M I w p pd L s∧(∀ k,F k->¬ K k)∧(∀ k,M k->¬ K k)∧(∀ k,I k->¬ K k)∧(∀ k,F k->¬ M k)∧(∀ k,F k->¬ I k)
def ZeU (K:Nat->Prop) (w:World) (pd p:Nat) (r:SDk × Int) (N T:Nat) (e:Ending) (w':World):Prop:=
 e=.returned (.int .i64 r.2)∧SD K w' pd p r.1.1 r.1.2 N T∧Zas (fun k=>¬ K k) w w'
theorem SD.below {K:Nat->Prop} {w w':World} {pd p:Nat} {s:Sto} {d:Dk} {N T:Nat} (h:SD K w pd p s d N T) (hb:Below w.heap.size w w'):SD K w' pd p s d N T:=by
 obtain⟨F,M,I,L,h1,h2,h3⟩:=h
 exact⟨F,M,I,L,h1.below hb,h2.below hb,h3⟩
theorem SD.mono {K:Nat->Prop} {w:World} {pd p:Nat} {s:Sto} {d:Dk} {N T N' T':Nat} (h:SD K w pd p s d N T) (hN:N<=N') (hT:T<=T'):SD K w pd p s d N' T':=by
 obtain⟨F,M,I,L,h1,h2,h3⟩:=h
 exact⟨F,M,I,L,h1.mono hN hT,h2,h3⟩
theorem SD.less {K K':Nat->Prop} {w:World} {pd p:Nat} {s:Sto} {d:Dk} {N T:Nat} (h:SD K w pd p s d N T) (hK:∀ k,K' k->K k):SD K' w pd p s d N T:=by
 obtain⟨F,M,I,L,h1,h2,h3,h4,h5,h6⟩:=h
 exact⟨F,M,I,L,h1,h2,fun k hk hh=>h3 k hk (hK k hh),fun k hk hh=>h4 k hk (hK k hh),fun k hk hh=>h5 k hk (hK k hh),h6⟩
theorem SD.fresh {K:Nat->Prop} {w w':World} {pd p:Nat} {s:Sto} {d:Dk} {N T:Nat} (h:SD K w pd p s d N T) (hb:Below w.heap.size w w'):SD (fun k=>K k∨(w.heap.size<=k∧k<w'.heap.size)) w' pd p s d N T:=by
 obtain⟨F,M,I,L,h1,h2,h3,h4,h5,h6⟩:=h
 refine⟨F,M,I,L,h1.below hb,h2.below hb,fun k hk hh=>?_,fun k hk hh=>?_,fun k hk hh=>?_,h6⟩
 ·rcases hh with hh | hh
  ·exact h3 k hk hh
  ·have:=h1.ltF k hk
   omega
 ·rcases hh with hh | hh
  ·exact h4 k hk hh
  ·have:=h2.ltM k hk
   omega
 ·rcases hh with hh | hh
  ·exact h5 k hk hh
  ·have:=h2.ltI k hk
   omega
theorem SD.onlyK {K:Nat->Prop} {w w':World} {pd p:Nat} {s:Sto} {d:Dk} {N T:Nat} (h:SD K w pd p s d N T) (ho:Zas K w w'):SD K w' pd p s d N T:=by
 obtain⟨F,M,I,L,h1,h2,h3,h4,h5,h6⟩:=h
 exact⟨F,M,I,L,h1.only ho h3,h2.only ho h4 h5,h3,h4,h5,h6⟩
theorem SD.disk {K:Nat->Prop} {w:World} {pd p:Nat} {s:Sto} {d d':Dk} {N T N' T':Nat} {f:Nat} {args:Array Value} {c:Int} (h:SD K w pd p s d N T) (hK:∀ k,K k->k<w.heap.size)
 (hc:∀ F,Dsk F w pd d N T->(∀ k,F k->¬ K k)->Calls Tryz.prog f args w fun e w'=>ZiO F w pd d' c N' T' e w'):Calls Tryz.prog f args w fun e w'=>e=.returned (.int .i64 c)∧SD K w' pd p s d' N' T'∧Zas (fun k=>¬ K k) w w':=by
 obtain⟨F,M,I,L,h1,h2,h3,h4,h5,h6,h7⟩:=h
 refine(hc F h1 h3).mono ?_
 rintro e w' ⟨he,F',hd,ho,hF⟩
 refine⟨he,⟨F',M,I,L,hd,h2.only ho (fun k hk hf=>h6 k hf hk) (fun k hk hf=>h7 k hf hk),fun k hk hh=>?_,h4,h5,fun k hk hh=>?_,fun k hk hh=>?_⟩,ho.mono h3⟩
 ·rcases hF k hk with hx | hx
  ·exact h3 k hx hh
  ·have:=hK k hh
   omega
 ·rcases hF k hk with hx | hx
  ·exact h6 k hx hh
  ·have:=h2.ltM k hh
   omega
 ·rcases hF k hk with hx | hx
  ·exact h7 k hx hh
  ·have:=h2.ltI k hh
   omega
theorem SD.own {K F M I M' I':Nat->Prop} {w w':World} {pd p:Nat} {s':Sto} {d:Dk} {N T:Nat} {L':ZhA} (hK:∀ k,K k->k<w.heap.size) (h1:Dsk F w pd d N T) (h3:∀ k,F k->¬ K k) (h4:∀ k,M k->¬ K k) (h5:∀ k,I k->¬ K k) (h6:∀ k,F k->¬ M k) (h7:∀ k,F k->¬ I k)
 (ho:Zas M w w') (hs:ZeF M' I' w' p pd L' s') (hM:∀ k,M' k->M k∨w.heap.size<=k) (hI:∀ k,I' k->I k∨w.heap.size<=k):SD K w' pd p s' d N T∧Zas (fun k=>¬ K k) w w':=by
 refine⟨⟨F,M',I',L',h1.only ho h6,hs,h3,fun k hk hh=>?_,fun k hk hh=>?_,fun k hk hh=>?_,fun k hk hh=>?_⟩,ho.mono h4⟩
 ·rcases hM k hk with hx | hx
  ·exact h4 k hx hh
  ·have:=hK k hh
   omega
 ·rcases hI k hk with hx | hx
  ·exact h5 k hx hh
  ·have:=hK k hh
   omega
 ·rcases hM k hh with hx | hx
  ·exact h6 k hk hx
  ·have:=h1.ltF k hk
   omega
 ·rcases hI k hh with hx | hx
  ·exact h7 k hk hx
  ·have:=h1.ltF k hk
   omega
theorem ZkI {l:List Int} {j:Nat} (h:j<l.length):l.getD j 0 ∈ l:=by
 rw[show l.getD j 0=l[j] by simp[List.getD,h]]
 exact List.getElem_mem h
def ZAW (p:Int->Bool) (l:List Int) (k:Int):Prop:=(k=-1∧∀ j,j<l.length->p (l.getD j 0)=false)∨∃ i:Nat,k=(i:Int)∧i<l.length∧(∀ j,j<i->p (l.getD j 0)=false)∧p (l.getD i 0)=true
theorem ZlS (g R:Nat) (p:Int->Bool) (v:Value) (l:List Int) (w:World) (hr:RdI w v l)
 (eg:∀ args W,(callFunc g args).run Tryz.prog W=.ok (.enter g args) W)
 (hp:∀ W e,e ∈ l->Below w.heap.size w W->Calls Tryz.prog g #[.int .i64 e,.pointer (some ⟨R,0,none⟩)] W fun x w'=>x=.returned (.bool (p e))∧Below W.heap.size W w'):
 Calls Tryz.prog 159 #[v,.func (.func g) #[] #[.pointer (some ⟨R,0,none⟩)]] w fun x w'=>∃ k:Int,x=.returned (.int .i64 k)∧ZAW p l k∧Below w.heap.size w w':=by
 have HR:=ZZ hr
 have HP:=ZZ hp
 obtain⟨va,vc,rfl,hlc,hcm,-,-,hao⟩:=hr
 have HAO:=ZZ hao
 have hml:(l.length:Int)<=9223372036854775807:=by unfold maxLen at hcm;omega
 clear hp hlc hcm hao
 go_enter Tryz.func159,Tryz.ntmps159
 go_wp2
 go_loopw[8] (fun vi wr=>∃ q:Nat,vi=.int .i64 (q:Int)∧q<=l.length∧Hid (∀ j,j<q->p (l.getD j 0)=false)∧Hid (Below w.heap.size w wr)) (fun vi _=>l.length-(intOf vi).toNat)
 case atStart=>exact⟨0,rfl,Nat.zero_le _,ZZ (fun j hj=>absurd hj (Nat.not_lt_zero _)),Below.refl _ _⟩
 case round=>
  obtain⟨q,rfl,hq,hN,hB⟩:=hrel
  by_cases hlt:q<l.length
  case neg=>
   obtain rfl:q=l.length:=by omega
   go_wp2
   go_ret
   exact⟨-1,rfl,.inl ⟨rfl,hN.out⟩,hB.out⟩
  have hqi:(q:Int)<(l.length:Int):=by omega
  rcases HAO.out with h0 | ⟨b,off,rfl,hc⟩
  ·rw[h0] at hlt;simp at hlt
  have c0:wr.cell? ⟨b,off+q,none⟩=some (.int .i64 (l.getD q 0)):=(World.cell?_of_block (a:=⟨b,off+q,none⟩) (hB.out.block b (World.block_lt_of_cell? w ⟨b,off+q,none⟩ (hc q hlt)))).trans (hc q hlt)
  have HC:=ZZ (HP.out wr (l.getD q 0) (ZkI hlt) hB.out)
  have HX:Hid (∀ j,j<q+1->j=q∨j<q):=ZZ (fun j hj=>by omega)
  obtain⟨e,he⟩:∃ e,e=l.getD q 0:=⟨_,rfl⟩
  rw[<-he] at HC c0
  have HE:=ZZ he
  obtain⟨pe,hpe⟩:∃ pe,pe=p e:=⟨_,rfl⟩
  rw[<-hpe] at HC
  have HPE:=ZZ hpe
  clear he hc HP HAO HR hpe
  go_wp2_with fail
  refine HC.out.mono ?_
  rintro x W1 ⟨rfl,hb1⟩
  have HB1:=ZZ (hB.out.trans (hb1.mono hB.out.size))
  clear hb1 HC
  cases pe with
  | true=>
   go_wp2
   go_ret
   exact⟨(q:Int),rfl,.inr ⟨q,rfl,hlt,hN.out,by rw[<-HE.out];exact HPE.out.symm⟩,HB1.out⟩
  | false=>
   go_wp2
   go_roundw
   case rel=>exact⟨q+1,by go_num,by omega,ZZ (fun j hj=>by
    rcases HX.out j hj with h | h
    ·rw[h,<-HE.out];exact HPE.out.symm
    ·exact hN.out j h),HB1⟩
   case measure=>simp[intOf];omega
theorem ZfO (p:Int->Bool) (l:List Int) (j:Nat) (hj:j<l.length):(l.take (j+1)).filter (fun e=>!p e)=(l.take j).filter (fun e=>!p e)++if p (l.getD j 0)=true then[] else[l.getD j 0]:=by
 have e1:l.take (j+1)=l.take j++[l.getD j 0]:=by
  rw[List.take_add_one,List.getElem?_eq_getElem hj]
  simp[List.getD,hj]
 rw[e1,List.filter_append]
 congr 1
 generalize l.getD j 0=x
 cases h:p x <;> simp[h]
theorem ZiQ (p:Int->Bool) (l:List Int) (i:Nat) (hi:i<=l.length) (h:∀ j,j<i->p (l.getD j 0)=false):(l.take i).filter (fun e=>!p e)=l.take i:=by
 rw[List.filter_eq_self]
 intro e he
 obtain⟨j,hj,rfl⟩:=List.getElem_of_mem he
 rw[List.length_take] at hj
 have:=h j (by omega)
 rw[List.getElem_take]
 simp only [List.getD,List.getElem?_eq_getElem (show j<l.length by omega),Option.getD_some] at this
 simp[this]
def Zvh (p:Int->Bool) (l L:List Int) (i j:Nat):Prop:=L.length=l.length∧L.take i=(l.take j).filter (fun e=>!p e)∧L.drop j=l.drop j∧i<j
theorem Zvh.start {p:Int->Bool} {l:List Int} {i:Nat} (hi:i<l.length) (h:∀ j,j<i->p (l.getD j 0)=false) (hp:p (l.getD i 0)=true):Zvh p l l i (i+1):=by
 refine⟨rfl,?_,rfl,Nat.lt_succ_self _⟩
 rw[ZfO p l i hi,if_pos hp,List.append_nil,ZiQ p l i (by omega) h]
theorem Zvh.at {p:Int->Bool} {l L:List Int} {i j:Nat} (h:Zvh p l L i j):L.getD j 0=l.getD j 0:=by
 obtain⟨h1,h2,h3,h4⟩:=h
 have e1:(L.drop j).getD 0 0=L.getD j 0:=by simp[List.getD]
 have e2:(l.drop j).getD 0 0=l.getD j 0:=by simp[List.getD]
 rw[<-e1,<-e2,h3]
theorem ZmD {L l:List Int} {j:Nat} (h:L.drop j=l.drop j):L.drop (j+1)=l.drop (j+1):=by
 rw[<-List.drop_drop,<-List.drop_drop,h]
theorem Zvh.skip {p:Int->Bool} {l L:List Int} {i j:Nat} (h:Zvh p l L i j) (hj:j<l.length) (hp:p (l.getD j 0)=true):Zvh p l L i (j+1):=by
 obtain⟨h1,h2,h3,h4⟩:=h
 refine⟨h1,?_,ZmD h3,by omega⟩
 rw[ZfO p l j hj,if_pos hp,List.append_nil,h2]
theorem Zvh.keep {p:Int->Bool} {l L:List Int} {i j:Nat} (h:Zvh p l L i j) (hj:j<l.length) (hp:p (l.getD j 0)=false):Zvh p l (L.set i (l.getD j 0)) (i+1) (j+1):=by
 obtain⟨h1,h2,h3,h4⟩:=h
 refine⟨by rw[List.length_set,h1],?_,?_,by omega⟩
 ·rw[ZfO p l j hj,if_neg (by rw[hp];simp),<-h2,List.take_add_one,List.take_set_of_le zL]
  congr 1
  rw[List.getElem?_set_self (by omega)]
  rfl
 ·rw[List.drop_set_of_lt (by omega)]
  exact ZmD h3
theorem ZaA.cutClear {w:World} {B g n cap:Nat} {l:List Int} (h:ZaA w B (.slice (some ⟨g,0,none⟩) n cap) l) (i:Nat) (hi:i<=l.length) (vs:List Value):ZaA (w.setCells g i vs) B (.slice (some ⟨g,0,none⟩) i cap) (l.take i):=by
 rcases h.row with ⟨h1,-⟩ | ⟨g',cap',cur,h1,hB,hlt,hg,hn,hm,hs,hc⟩
 ·cases h1
 ·injection h1 with h1 _ h3
  injection h1 with h1
  injection h1 with h1
  subst h1 h3
  have hgs:=ZaG g _ vs i w cur hg
  refine ZaA.ofRowN (by rw[List.length_take];omega) hB hgs (by rw[List.length_take];omega) hm (by rw[ZaF];exact hs) fun j hj=>?_
  rw[List.length_take] at hj
  rw[Zbe _ _ _ _ (by omega),if_neg (by omega),hc j (by omega)]
  simp[List.getD,show j<i by omega]
theorem ZkJ (g R:Nat) (p:Int->Bool) (v:Value) (l:List Int) (B:Nat) (w:World) (ho:ZaA w B v l) (hI:∀ e ∈ l,I64 e) (hBw:B<=w.heap.size) (hlim:l.length<=1000000)
 (eg:∀ args W,(callFunc g args).run Tryz.prog W=.ok (.enter g args) W)
 (hp:∀ W e,e ∈ l->Below B w W->Calls Tryz.prog g #[.int .i64 e,.pointer (some ⟨R,0,none⟩)] W fun x w'=>x=.returned (.bool (p e))∧Below W.heap.size W w'):
 Calls Tryz.prog 113 #[v,.func (.func g) #[] #[.pointer (some ⟨R,0,none⟩)]] w fun x w'=>∃ v',x=.returned v'∧ZaA w' B v' (l.filter (fun e=>!p e))∧Below B w w':=by
 have HO:=ZZ ho
 have HP:=ZZ hp
 have HIX:=ZZ (ZlS g R p v l w (ho.rd hI) eg (fun W e he h=>hp W e he (h.mono hBw)))
 obtain⟨va,vc,hv⟩:=ho.shape
 subst hv
 clear ho hp
 go_enter Tryz.func113,Tryz.ntmps113
 go_wp2_with fail
 refine HIX.out.mono ?_
 rintro x W0 ⟨k,rfl,hf,hb0⟩
 have HB0:=ZZ (hb0.mono hBw)
 have HO0:=ZZ (HO.out.below hb0 zL)
 clear HIX hb0 HO
 rcases hf with ⟨rfl,hf⟩ | ⟨i0,rfl,hi0,hf,hpi⟩
 ·have HE:Hid (l.filter (fun e=>!p e)=l):=ZZ (by
   have:=ZiQ p l l.length zL hf
   rwa [List.take_length] at this)
  clear hf
  go_wp2
  go_ret
  exact⟨_,rfl,by rw[HE.out];exact HO0.out,HB0.out⟩
 have HD0:=ZZ (Zvh.start hi0 hf hpi)
 clear hf hpi
 rcases HO0.out.row with ⟨-,h2⟩ | ⟨gr,cap,cur,h1,hBg,-,-,hlc,hcm,-,-⟩
 ·rw[h2] at hi0;simp at hi0
 injection h1 with h1 _ h3
 subst h1 h3
 have hml:(l.length:Int)<=1000000:=by omega
 clear cur hcm
 have ei:((i0:Int) == -1)=false:=beq_eq_false_iff_ne.2 (by omega)
 go_wp2
 go_loopw[5,6] (fun v5 v6 wr=>∃ (i j:Nat) (L:List Int),v5=.int .i64 (i:Int)∧v6=.int .i64 (j:Int)∧i<j∧j<=l.length∧Hid (ZaA wr B (.slice (some ⟨gr,0,none⟩) l.length vc) L)∧Hid (Zvh p l L i j)∧Hid (Below B w wr)) (fun _ v6 _=>l.length-(intOf v6).toNat)
 case atStart=>exact⟨i0,i0+1,l,rfl,by go_num,by omega,by omega,HO0,HD0,HB0⟩
 case round=>
  clear HO0 HD0 HB0 ei
  obtain⟨i,j,L,rfl,rfl,hij,hjl,hO,hD,hB⟩:=hrel
  by_cases hlt:j<l.length
  case neg=>
   obtain rfl:j=l.length:=by omega
   have hL:L.length=l.length:=hD.out.1
   have HT:Hid (L.take i=l.filter (fun e=>!p e)):=ZZ (by rw[hD.out.2.1,List.take_length])
   obtain⟨g',cap',hv',-,hfz',-,-,-,-⟩:=hO.out.put i (by omega) 0
   injection hv' with e1 e2 e3
   clear e2
   injection e1 with e1
   injection e1 with e1
   subst e1 e3
   have HFZ:Hid (∀ k,k<l.length->wr.frozen? ⟨gr,k,none⟩=false∧(wr.cell? ⟨gr,k,none⟩).isSome=true):=ZZ (fun k hk=>by
    obtain⟨g2,cap2,hv2,hc2,hf2,-⟩:=hO.out.put k (by omega) 0
    injection hv2 with f1 _ _
    injection f1 with f1
    injection f1 with f1
    subst f1
    exact⟨hf2,by rw[hc2];rfl⟩)
   have HK:Hid (∀ ty,(Builtin.clear_ #[23] ty #[.slice (some ⟨gr,i,none⟩) (l.length-i) (vc-i)]).run Tryz.prog wr=.ok (.tuple #[]) (wr.setCells gr i (List.replicate (l.length-i) (.int .i64 0)))):=ZZ (fun ty=>
    Go.Lib.run_clear_slice wr _ _ ty (.int .i64 0) Tryz.underlying23 Tryz.zeroValue3 rfl rfl gr i (l.length-i) (vc-i) (by omega) (fun k hk=>(HFZ.out (i+k) (by omega)).2) (fun k hk=>(HFZ.out (i+k) (by omega)).1))
   have HOC:=ZZ (hO.out.cutClear i (by omega) (List.replicate (l.length-i) (.int .i64 0)))
   rw[HT.out] at HOC
   have HBC:=ZZ (ZcC hBg (List.replicate (l.length-i) (.int .i64 0)) i wr hB.out)
   have hvi:¬ (vc=i):=by omega
   have hb1:(i:Int)<=(l.length:Int):=by omega
   have hb2:(i:Int)<=(vc:Int):=by omega
   have hb3:i<=l.length:=by omega
   have hb4:i<=vc:=by omega
   clear hfz'
   have hK:=HK.out
   go_wp2
   go_ret
   exact⟨_,rfl,HOC.out,HBC.out⟩
  have hji:(j:Int)<(l.length:Int):=by omega
  have hLl:L.length=l.length:=hD.out.1
  obtain⟨g',cap',hv',c0,-⟩:=hO.out.put j (by omega) 0
  injection hv' with e1 e2 e3
  clear e2
  injection e1 with e1
  injection e1 with e1
  subst e1 e3
  rw[hD.out.at] at c0
  have HSK:=ZZ (hD.out.skip hlt)
  have HKP:=ZZ (hD.out.keep hlt)
  obtain⟨e,he⟩:∃ e,e=l.getD j 0:=⟨_,rfl⟩
  rw[<-he] at c0 HSK HKP
  obtain⟨pe,hpe⟩:∃ pe,pe=p e:=⟨_,rfl⟩
  have HC:=ZZ (fun W h=>HP.out W e (by rw[he];exact ZkI hlt) h)
  rw[<-hpe] at HC HSK HKP
  clear he hpe hD
  go_wp2_with fail
  refine(HC.out _ hB.out).mono ?_
  rintro x W1 ⟨rfl,hb1⟩
  have HB3:=ZZ (hB.out.trans (hb1.mono (Nat.le_trans hBw hB.out.size)))
  have HO3:=ZZ (hO.out.below hb1 zL)
  clear hb1 HC c0 hO hB
  cases pe with
  | true=>
   go_wp2
   go_roundw
   case rel=>exact⟨i,j+1,L,rfl,by go_num,by omega,by omega,HO3,ZZ (HSK.out (by simp)),HB3⟩
   case measure=>simp[intOf];omega
  | false=>
   obtain⟨g2,cap2,hv2,d0,z0,-,-,hOP,-⟩:=HO3.out.put i (by omega) e
   injection hv2 with f1 f2 f3
   clear f2
   injection f1 with f1
   injection f1 with f1
   subst f1 f3
   have HOP:=ZZ hOP
   clear hOP
   have hii:(i:Int)<(l.length:Int):=by omega
   have hil:i<l.length:=by omega
   go_wp2
   go_roundw
   case rel=>exact⟨i+1,j+1,L.set i e,by go_num,by go_num,by omega,by omega,HOP,ZZ (HKP.out (by simp)),ZZ (HB3.out.setCell hBg _)⟩
   case measure=>simp[intOf];omega
theorem Zbn {ops:Array Oper} {o:Oper} {a:Act} {w:World} {K:Act->World->Prop} {Q:Exit->Act->World->Prop} {E:Prop} {R:Value->World->Prop}
 (f:FuncId) (xs:Array Operand) (ts:Array TypeId) (hg:o.guard=none) (hop:o.op=Op.call { callee:=Callee.value (Operand.func f),args:=xs,argTypes:=ts }) (vals:Array Value) (hv:xs.map a.eval=vals)
 (hE:∀ args w,(callFunc f args).run Tryz.prog w=.ok (.enter f args) w) (hC:Calls Tryz.prog f vals w fun e w'=>∃ v',e=.returned v'∧R v' w') (hK:∀ v' w',R v' w'->K (a.put o.dst v') w'):
 if Region.wanted o (yielded ops a.tmps)=true then Oper.wp Tryz.prog o a w K Q else E:=by
 have hw:Region.wanted o (yielded ops a.tmps)=true:=by simp[Region.wanted,hg]
 rw[if_pos hw]
 unfold Oper.wp
 have h:(execOp a.eval o).run Tryz.prog w=.ok (.enter f vals) w:=by
  have he:a.eval (Operand.func f)=.func (.func f) #[] #[]:=rfl
  simp[execOp,hop,resolve,invoke,hv,he,Deferred.ofValue,hE]
 rw[h,Oper.upon_enter]
 refine hC.mono ?_
 rintro e w' ⟨v',rfl,hr⟩
 exact hK v' w' hr
theorem ZnN (b o:Nat) (f:Int) (ra:Option Addr) (n rc:Nat) (w:World) (c0:w.cell? ⟨b,o,none⟩=some (.int .i64 f)) (c1:w.cell? ⟨b,o+1,none⟩=some (.slice ra n rc)) (h0:0<=f) (h1:f+n<=9000000000000000000):
 Calls Tryz.prog 39 #[.pointer (some ⟨b,o,none⟩)] w fun e w'=>e=.returned (.int .i64 (f+n))∧Below w.heap.size w w':=by
 have hw:IntKind.i64.wrap (f+(n:Int))=f+n:=by rw[IntKind.wrap_i64];omega
 have hnn:(n:Int)<=9000000000000000000:=by omega
 go_enter Tryz.func39,Tryz.ntmps39
 go_upto_region 1 with fail
 go_quiet(fail)
 go_wp2
 go_ret
 refine⟨?_,ZaM (Below.refl _ _) _⟩
 first | rfl | (rw[hw])
structure Zrp (s:Sto):Prop where
 f0:0<=s.log.first
 f1:s.next<=4611686018427387904
 sy:I64 s.synced
 cu:I64 s.cur
theorem ZkK {M I:Nat->Prop} {p pd:Nat} {L:ZhA} {s:Sto} (w:World) (h:ZeF M I w p pd L s) (hn:Zrp s):
 Calls Tryz.prog 15 #[ptr p] w fun e w'=>e=.returned (.int .i64 s.next)∧Below w.heap.size w w':=by
 obtain⟨ra,rc,hrv⟩:=h.recs.shape
 obtain⟨-,c1,c2,-⟩:=h.cs
 rw[hrv] at c2
 have h1:=hn.f1
 have h0:=hn.f0
 unfold Sto.next Lgb.next at h1
 have HN:=ZZ (ZnN p 1 s.log.first ra s.log.recs.length rc w c1 c2 h0 (by omega))
 have HE:Hid (s.next=s.log.first+s.log.recs.length):=ZZ rfl
 rw[HE.out]
 generalize s.log.first+(s.log.recs.length:Int)=nx at *
 clear c1 c2 hrv h1 h0
 go_enter Tryz.func15,Tryz.ntmps15
 go_wp2_with fail
 refine HN.out.mono ?_
 rintro e w' ⟨rfl,hb⟩
 have HB:=ZZ hb
 clear hb
 go_wp2
 go_ret
 exact⟨rfl,HB.out⟩
theorem ZmE {M I:Nat->Prop} {p pd:Nat} {L:ZhA} {s:Sto} (w:World) (h:ZeF M I w p pd L s):
 Calls Tryz.prog 19 #[ptr p] w fun e w'=>e=.returned (.int .i64 s.log.first)∧w'=w:=by
 obtain⟨-,c1,-⟩:=h.cs
 clear h
 go_enter Tryz.func19,Tryz.ntmps19
 go_wp2
 go_ret
 exact⟨rfl,rfl⟩
theorem Zrq {M I:Nat->Prop} {p pd:Nat} {L:ZhA} {s:Sto} (w:World) (h:ZeF M I w p pd L s):
 Calls Tryz.prog 12 #[ptr p] w fun e w'=>e=.returned (.int .i64 s.synced)∧w'=w:=by
 obtain⟨-,-,-,-,-,-,c1,-⟩:=h.cs
 clear h
 go_enter Tryz.func12,Tryz.ntmps12
 go_wp2
 go_ret
 exact⟨rfl,rfl⟩
theorem Zwq (v:Value) (l:List Int) (x:Int) (w:World) (hr:RdI w v l) (hlim:l.length<=1000000000):
 Calls Tryz.prog 93 #[v,.int .i64 x] w fun e w'=>e=.returned (.int .i64 (l.getD (l.length-1) x))∧w'=w:=by
 obtain⟨ao,cap,rfl,hlc,hcm,-,-,hao⟩:=hr
 have hml:(l.length:Int)<=9223372036854775807:=by unfold maxLen at hcm;omega
 by_cases h0:l.length=0
 ·have e:l=[]:=List.eq_nil_of_length_eq_zero h0
  subst e
  have h0':((0:Int) == 0)=true:=rfl
  clear hao hcm hlc h0
  have hz:([]:List Int).length=0:=rfl
  rw[hz]
  go_enter Tryz.func93,Tryz.ntmps93
  go_wp2
  go_ret
  exact⟨rfl,rfl⟩
 ·rcases hao with hao | ⟨b,off,rfl,hc⟩
  ·rw[hao] at h0;simp at h0
  have h0':((l.length:Int) == 0)=false:=beq_eq_false_iff_ne.2 (by omega)
  have hlast:=hc (l.length-1) (by omega)
  have e:l.getD (l.length-1) x=l.getD (l.length-1) 0:=by
   simp[List.getD,show l.length-1<l.length by omega]
  rw[e]
  obtain⟨y,hy⟩:∃ y,y=l.getD (l.length-1) 0:=⟨_,rfl⟩
  rw[<-hy] at hlast ⊢
  obtain⟨m,hm⟩:∃ m,l.length=m+1:=⟨l.length-1,by omega⟩
  rw[hm] at hlast h0' hml ⊢
  have hm1:m+1-1=m:=by omega
  rw[hm1] at hlast
  have hml2:(m:Int)<=1000000000:=by omega
  clear hy hc e hcm hlc h0 hm hml hlim
  go_enter Tryz.func93,Tryz.ntmps93
  go_wp2
  go_ret
  exact⟨rfl,rfl⟩
def ZhB (first n:Int):Bool:=decide (n<first) || decide ((n-first) % 2≠0)
theorem Zpl (l:List Int) (first:Int):ZaW l first=l.filter fun n=>!ZhB first n:=rfl
theorem Zwr (R:Nat) (first n:Int) (w:World) (c:w.cell? ⟨R,0,none⟩=some (.int .i64 first)) (h1:0<=first) (h2:first<=1000) (h3:-1000000000000000000<=n) (h4:n<=1000000000000000000):
 Calls Tryz.prog 112 #[.int .i64 n,.pointer (some ⟨R,0,none⟩)] w fun e w'=>e=.returned (.bool (ZhB first n))∧Below w.heap.size w w':=by
 by_cases hlt:n<first
 ·have e:ZhB first n=true:=by unfold ZhB;rw[decide_eq_true hlt];rfl
  rw[e]
  clear e
  go_enter Tryz.func112,Tryz.ntmps112
  go_wp2
  go_ret
  exact⟨rfl,Below.refl _ _⟩
 ·have hw:IntKind.i64.wrap (n-first)=n-first:=by rw[IntKind.wrap_i64];omega
  have htm:(n-first).tmod 2=(n-first) % 2:=Int.tmod_eq_emod_of_nonneg (by omega)
  by_cases hz:(n-first) % 2=0
  ·have e:ZhB first n=false:=by unfold ZhB;rw[decide_eq_false hlt,decide_eq_false (fun h=>h hz)];rfl
   have hz2:((n-first) % 2 != 0)=false:=by rw[hz];rfl
   have hz3:((n-first).tmod 2 != 0)=false:=by rw[htm,hz];rfl
   rw[e]
   clear e hz
   go_enter Tryz.func112,Tryz.ntmps112
   go_wp2
   go_ret
   exact⟨rfl,Below.refl _ _⟩
  ·have e:ZhB first n=true:=by unfold ZhB;rw[decide_eq_false hlt,decide_eq_true hz];rfl
   have hz2:((n-first) % 2 != 0)=true:=by rw[bne_iff_ne];exact hz
   have hz3:((n-first).tmod 2 != 0)=true:=by rw[htm,bne_iff_ne];exact hz
   rw[e]
   clear e hz
   go_enter Tryz.func112,Tryz.ntmps112
   go_wp2
   go_ret
   exact⟨rfl,Below.refl _ _⟩
theorem Zed {d:Dk} (h:OkD d):∀ n ∈ Zak d,0<=n∧n<1048576:=fun n hn=>by
 obtain⟨e,he,rfl⟩:=List.mem_map.1 hn
 have hm:=(h.dir.may e he).1
 unfold ZiE at hm
 simp only [Bool.and_eq_true,decide_eq_true_eq] at hm
 exact hm
theorem Zfl {F:Nat->Prop} {p:Nat} {d:Dk} {N T:Nat} (first:Int) (w:World) (h:Dsk F w p d N T) (hN:N<=1000000) (h1:0<=first) (h2:first<=1000):
 Calls Tryz.prog 75 #[ptr p,.int .i64 first] w fun e w'=>∃ v,e=.returned v∧ZaA w' w.heap.size v (ZaW (Zak d) first)∧Below w.heap.size w w':=by
 obtain⟨W0,hW0⟩:∃ W0,W0=w.alloc (.cells #[.int .i64 first] 3):=⟨_,rfl⟩
 have HB0:Hid (Below w.heap.size w W0):=ZZ (by rw[hW0];exact ZcY _ _)
 have HX:Hid (Bk 3 W0 w.heap.size #[.int .i64 first]):=ZZ (by rw[hW0];exact heap_alloc_new w _)
 have HD:=ZZ (h.below HB0.out)
 have HNM:Hid (Calls Tryz.prog 29 #[ptr p] W0 fun e w'=>∃ v,e=.returned v∧ZaA w' W0.heap.size v (Zak d)∧Below W0.heap.size W0 w'):=ZZ (by
  obtain⟨L,g1,g2,-⟩:=HD.out
  exact Zkm W0 g1 g2 hN)
 have HI:Hid (∀ n ∈ Zak d,0<=n∧n<1048576):=ZZ (by
  obtain⟨L,g1,g2,-⟩:=HD.out
  exact Zed g2)
 have HL:Hid ((Zak d).length<=1000000):=ZZ (by
  obtain⟨L,g1,g2,g3,-⟩:=HD.out
  have h3:=Zht d d.waits.length
  rw[Zga] at h3
  have:=g3.names
  unfold Zak
  rw[List.length_map]
  omega)
 clear h
 go_enter Tryz.func75,Tryz.ntmps75
 go_upto_region 1 with fail
 rw[<-hW0]
 clear hW0
 go_wp2_with fail
 refine HNM.out.mono ?_
 rintro e W1 ⟨v1,rfl,ho1,hb1⟩
 have HB1:=ZZ (HB0.out.trans (hb1.mono HB0.out.size))
 have HR:Hid (∀ W,Below W0.heap.size W1 W->W.cell? ⟨w.heap.size,0,none⟩=some (.int .i64 first)):=ZZ (fun W hb=>((HX.out.keep ((hb.block _ HX.out.lt).trans (hb1.block _ HX.out.lt))).cell 0 rfl).1)
 have HDF:=ZZ (ZkJ 112 w.heap.size (ZhB first) v1 (Zak d) W0.heap.size W1 ho1 (fun n hn=>by
  have:=HI.out n hn
  exact⟨by omega,by omega⟩) hb1.size HL.out (enters_of Tryz.func112 (by kernel_rfl) rfl) (fun W n hn hb=>Zwr w.heap.size first n W (HR.out W hb) h1 h2 (by have:=HI.out n hn;omega) (by have:=HI.out n hn;omega)))
 rw[<-Zpl] at HDF
 obtain⟨a1,n1,c1,hv1⟩:∃ a n c,v1=.slice a n c:=by
  obtain⟨a,c,hh⟩:=ho1.shape
  exact⟨a,_,c,hh⟩
 subst hv1
 clear ho1 hb1 HNM
 go_wp2_with fail
 refine HDF.out.mono ?_
 rintro e W2 ⟨v2,rfl,ho2,hb2⟩
 have HO2:=ZZ (ho2.mono HB0.out.size)
 have HB2:=ZZ (HB1.out.trans (hb2.mono HB0.out.size))
 clear ho2 hb2
 go_wp2
 go_ret
 exact⟨_,rfl,HO2.out,HB2.out⟩
theorem ZiR {F M I:Nat->Prop} {p pd:Nat} {L:ZhA} {s:Sto} {d:Dk} {N T:Nat} (first:Int) (w:World) (h:ZeF M I w p pd L s) (hd:Dsk F w pd d N T) (hN:N<=1000000) (h1:2<=first) (h2:first<=1000):
 Calls Tryz.prog 51 #[ptr p,.int .i64 first] w fun e w'=>e=.returned (.int .i64 (Zbd d first))∧Below w.heap.size w w':=by
 have HNF:=ZZ (Zfl first w hd hN (by omega) h2)
 have HI:Hid (∀ n ∈ ZaW (Zak d) first,0<=n∧n<1048576):=ZZ (by
  obtain⟨L,g1,g2,-⟩:=hd
  exact fun n hn=>Zed g2 n (List.mem_filter.1 hn).1)
 have HLN:Hid ((Zak d).length<=1000000000):=ZZ (by
  obtain⟨L,g1,g2,g3,-⟩:=hd
  have h3:=Zht d d.waits.length
  rw[Zga] at h3
  have:=g3.names
  unfold Zak
  rw[List.length_map]
  omega)
 obtain⟨c0,-⟩:=h.cs
 have HN0:Hid (Zbd d first=(ZaW (Zak d) first).getD ((ZaW (Zak d) first).length-1) (first-2)+2):=ZZ rfl
 have HBD:Hid (0<=(ZaW (Zak d) first).getD ((ZaW (Zak d) first).length-1) (first-2)∧(ZaW (Zak d) first).getD ((ZaW (Zak d) first).length-1) (first-2)<=1048576):=ZZ (by
  by_cases h0:(ZaW (Zak d) first).length=0
  ·rw[List.eq_nil_of_length_eq_zero h0]
   show 0<=first-2∧first-2<=1048576
   omega
  ·have hm:(ZaW (Zak d) first).getD ((ZaW (Zak d) first).length-1) (first-2) ∈ ZaW (Zak d) first:=by
    rw[show(ZaW (Zak d) first).getD ((ZaW (Zak d) first).length-1) (first-2)=(ZaW (Zak d) first)[(ZaW (Zak d) first).length-1]'(by omega) by simp[List.getD,show(ZaW (Zak d) first).length-1<(ZaW (Zak d) first).length by omega]]
    exact List.getElem_mem _
   have:=HI.out _ hm
   omega)
 clear h hd
 rw[HN0.out]
 have HLL:Hid ((ZaW (Zak d) first).length<=1000000000):=ZZ (Nat.le_trans (List.length_filter_le _ _) HLN.out)
 generalize ZaW (Zak d) first=l at *
 obtain⟨y,hy⟩:∃ y,y=l.getD (l.length-1) (first-2):=⟨_,rfl⟩
 rw[<-hy] at HBD ⊢
 have HY:=ZZ hy
 clear hy
 go_enter Tryz.func51,Tryz.ntmps51
 go_wp2_with fail
 refine HNF.out.mono ?_
 rintro e W1 ⟨v1,rfl,ho1,hb1⟩
 have HB1:=ZZ hb1
 have HRD:=ZZ (ho1.rd (fun n hn=>by
  have:=HI.out n hn
  exact⟨by omega,by omega⟩))
 obtain⟨a1,n1,c1,hv1⟩:∃ a n c,v1=.slice a n c:=by
  obtain⟨a,c,hh⟩:=ho1.shape
  exact⟨a,_,c,hh⟩
 subst hv1
 have HLA:=ZZ (Zwq _ l (first-2) W1 HRD.out HLL.out)
 rw[<-HY.out] at HLA
 have hb0:=HBD.out.1
 have hb2:=HBD.out.2
 clear ho1 hb1 HRD c0
 go_wp2_with fail
 refine HLA.out.mono ?_
 rintro e W2 ⟨rfl,rfl⟩
 go_wp2
 go_ret
 exact⟨rfl,HB1.out⟩
def ZAX:ZaU × Value × Value:=(Zbi,.slice none 0 0,.slice none 0 0)
def Zfm (l:List (ZaU × Value × Value)):ZaU × Value × Value:=l.getD (l.length-1) ZAX
theorem ZmF {L:ZhA} {s:Sto} (h:L.bs.map Prod.fst=s.bases):(Zfm L.bs).1=s.base:=by
 unfold Zfm Sto.base
 rw[<-h,List.length_map]
 simp only [List.getD,List.getElem?_map]
 cases L.bs[L.bs.length-1]? <;> rfl
theorem ZkL {l:List (ZaU × Value × Value)} (h:l.length≠0):Zfm l ∈ l:=by
 unfold Zfm
 rw[show l.getD (l.length-1) ZAX=l[l.length-1]'(by omega) by simp[List.getD,show l.length-1<l.length by omega]]
 exact List.getElem_mem _
theorem Zws {w:World} {v:Value} {l:List (ZaU × Value × Value)} (h:w.ownsRow 0 41 6 v l.length (ZaK l)) (h0:l.length≠0):
 ∃ g cap,v=.slice (some ⟨g,0,none⟩) l.length cap∧∀ k u,k<6->(snC (Zfm l))[k]?=some u->w.cell? ⟨g,(l.length-1)*6+k,none⟩=some u:=by
 rcases h.2 with ⟨_,hn⟩ | ⟨g,cap,cur,hv,_,hg,hnc,hcm,hcs,htake⟩
 ·exact absurd hn h0
 ·refine⟨g,cap,hv,fun k u hk hu=>?_⟩
  have hlt:l.length-1<l.length:=by omega
  have e:Zfm l=l[l.length-1]:=by unfold Zfm;simp[List.getD,hlt]
  rw[e] at hu
  rw[cell_of_row w g _ _ _ _ hg]
  have h1:=ZkH l (l.length-1) k hlt hk
  rw[hu,<-htake,List.getElem?_take] at h1
  rw[if_pos (by omega)] at h1
  rw[<-Array.getElem?_toList]
  exact h1
theorem Zwt (v:Value) (l:List (ZaU × Value × Value)) (w:World) (h:w.ownsRow 0 41 6 v l.length (ZaK l)) (h0:l.length≠0) (hlim:l.length<=1000000000) (hsn:∃ a n c a' n' c',(Zfm l).2.1=.slice a n c∧(Zfm l).2.2=.slice a' n' c'):
 Calls Tryz.prog 79 #[v,.agg #[.int .i64 0,.int .i64 0,.slice none 0 0,.bool false,.int .i64 0,.slice none 0 0]] w fun e w'=>e=.returned (snV (Zfm l))∧Below w.heap.size w w':=by
 obtain⟨g,cap,rfl,hc⟩:=Zws h h0
 obtain⟨x,hx⟩:∃ x,x=Zfm l:=⟨_,rfl⟩
 rw[<-hx] at hc hsn ⊢
 obtain⟨m,hm⟩:∃ m,l.length=m+1:=⟨l.length-1,by omega⟩
 have hm1:l.length-1=m:=by omega
 rw[hm1] at hc
 obtain⟨⟨ix,⟨kd,LL,sh,eg⟩,tb⟩,vl,vt⟩:=x
 obtain⟨la,ln,lc,ta,tn,tc,h1,h2⟩:=hsn
 dsimp only at h1 h2
 subst h1 h2
 have c0:=hc 0 _ (by decide) rfl
 have c1:=hc 1 _ (by decide) rfl
 have c2:=hc 2 _ (by decide) rfl
 have c3:=hc 3 _ (by decide) rfl
 have c4:=hc 4 _ (by decide) rfl
 have c5:=hc 5 _ (by decide) rfl
 have hgl:g<w.heap.size:=World.block_lt_of_cell? w ⟨g,m*6+0,none⟩ c0
 rw[hm]
 have h0':((m+1:Nat):Int)≠0:=by omega
 have h0'':((((m+1:Nat):Int)) == 0)=false:=beq_eq_false_iff_ne.2 h0'
 have hml2:(m:Int)<=1000000000:=by omega
 obtain⟨W0,hW0⟩:∃ W0,W0=(w.alloc (.cells #[.int .i64 0,.int .i64 0,.slice none 0 0,.bool false,.int .i64 0,.slice none 0 0] 41)).alloc (.cells #[.int .i64 0,.int .i64 0,.slice none 0 0,.bool false,.int .i64 0,.slice none 0 0] 41):=⟨_,rfl⟩
 have HB0:Hid (Below w.heap.size w W0):=ZZ (by rw[hW0];exact((Below.refl _ _).alloc zL _).alloc (by simp) _)
 have HY:Hid (Bn W0 (w.heap.size+1) #[.int .i64 0,.int .i64 0,.slice none 0 0,.bool false,.int .i64 0,.slice none 0 0]):=ZZ (by rw[hW0];exact Zkx w _ _)
 have e0:W0.cell? ⟨g,m*6,none⟩=some (.int .i64 ix):=(HB0.out.cell (p:=⟨g,m*6,none⟩) hgl).trans c0
 have e1:W0.cell? ⟨g,m*6+1,none⟩=some (.int .i64 kd):=(HB0.out.cell (p:=⟨g,m*6+1,none⟩) hgl).trans c1
 have e2:W0.cell? ⟨g,m*6+2,none⟩=some (.slice la ln lc):=(HB0.out.cell (p:=⟨g,m*6+2,none⟩) hgl).trans c2
 have e3:W0.cell? ⟨g,m*6+3,none⟩=some (.bool sh):=(HB0.out.cell (p:=⟨g,m*6+3,none⟩) hgl).trans c3
 have e4:W0.cell? ⟨g,m*6+4,none⟩=some (.int .i64 eg):=(HB0.out.cell (p:=⟨g,m*6+4,none⟩) hgl).trans c4
 have e5:W0.cell? ⟨g,m*6+5,none⟩=some (.slice ta tn tc):=(HB0.out.cell (p:=⟨g,m*6+5,none⟩) hgl).trans c5
 obtain⟨z0,y0⟩:=HY.out.cell 0
 obtain⟨z1,y1⟩:=HY.out.cell 1
 obtain⟨z2,y2⟩:=HY.out.cell 2
 obtain⟨z3,y3⟩:=HY.out.cell 3
 obtain⟨z4,y4⟩:=HY.out.cell 4
 obtain⟨z5,y5⟩:=HY.out.cell 5
 clear c0 c1 c2 c3 c4 c5 hc h hx hm hm1 h0 hlim
 go_enter Tryz.func79,Tryz.ntmps79
 go_upto_region 1 with fail
 rw[<-hW0]
 clear hW0
 go_wp2
 refine bodyPost_ret (v:=.agg #[.int .i64 ix,.int .i64 kd,.slice la ln lc,.bool sh,.int .i64 eg,.slice ta tn tc]) (by simp[results,Tryz.results79,go_sem,z0,z1,z2,z3,z4,z5]) rfl ?_
 exact⟨rfl,Zec HB0.out _ (by omega) _ _ _ _ _ _⟩
theorem SnR.shape {w:World} {x:ZaU × Value × Value} (h:SnR w x):∃ a n c a' n' c',x.2.1=.slice a n c∧x.2.2=.slice a' n' c':=by
 obtain⟨a,c,h1,-⟩:=h.l
 obtain⟨a',c',h2⟩:=h.t.shape
 exact⟨a,_,c,a',_,c',h1,h2⟩
theorem ZsH {M I:Nat->Prop} {p pd:Nat} {L:ZhA} {s:Sto} (w:World) (h:ZeF M I w p pd L s) (h0:s.bases.length≠0) (hlim:s.bases.length<=1000000000):
 Calls Tryz.prog 38 #[ptr p] w fun e w'=>e=.returned (snV (Zfm L.bs))∧Below w.heap.size w w':=by
 have hl:L.bs.length=s.bases.length:=by rw[<-h.bsEq,List.length_map]
 have hm:=ZkL (l:=L.bs) (by omega)
 have HS:=ZZ (h.base _ hm)
 obtain⟨W0,hW0⟩:∃ W0,W0=w.alloc (.cells #[.int .i64 0,.int .i64 0,.slice none 0 0,.bool false,.int .i64 0,.slice none 0 0] 41):=⟨_,rfl⟩
 have HB0:Hid (Below w.heap.size w W0):=ZZ (by rw[hW0];exact ZcY _ _)
 have HY:Hid (Bn W0 w.heap.size #[.int .i64 0,.int .i64 0,.slice none 0 0,.bool false,.int .i64 0,.slice none 0 0]):=ZZ (by rw[hW0];exact heap_alloc_new w _)
 have HH:=ZZ (h.below HB0.out)
 obtain⟨-,-,-,-,c4,-⟩:=HH.out.cs
 have HL:=ZZ (Zwt L.bv L.bs W0 HH.out.bases (by omega) (by omega) HS.out.shape)
 obtain⟨ba,bn,bc,hbv⟩:∃ a n c,L.bv=.slice a n c:=by
  rcases h.bases.2 with ⟨hv,_⟩ | ⟨g,cap,cur,hv,_⟩
  ·exact⟨_,_,_,hv⟩
  ·exact⟨_,_,_,hv⟩
 rw[hbv] at c4 HL
 obtain⟨x,hx⟩:∃ x,x=Zfm L.bs:=⟨_,rfl⟩
 rw[<-hx] at HL HS ⊢
 obtain⟨la,ln,lc,ta,tn,tc,h1,h2⟩:=HS.out.shape
 obtain⟨⟨ix,⟨kd,LL,sh,eg⟩,tb⟩,vl,vt⟩:=x
 dsimp only at h1 h2
 subst h1 h2
 unfold snV snC at HL ⊢
 dsimp only at HL ⊢
 clear h hbv hx hm hl h0 hlim HH HS
 go_enter Tryz.func38,Tryz.ntmps38
 go_upto_region 1 with fail
 rw[<-hW0]
 clear hW0
 go_wp2_with fail
 refine HL.out.mono ?_
 rintro e W1 ⟨rfl,hb1⟩
 have HB1:=ZZ (HB0.out.trans (hb1.mono HB0.out.size))
 have hy:=HY.out.below hb1 zL
 obtain⟨z0,y0⟩:=hy.cell 0
 obtain⟨z1,y1⟩:=hy.cell 1
 obtain⟨z2,y2⟩:=hy.cell 2
 obtain⟨z3,y3⟩:=hy.cell 3
 obtain⟨z4,y4⟩:=hy.cell 4
 obtain⟨z5,y5⟩:=hy.cell 5
 clear hb1 hy c4
 go_wp2
 refine bodyPost_ret (v:=.agg #[.int .i64 ix,.int .i64 kd,.slice la ln lc,.bool sh,.int .i64 eg,.slice ta tn tc]) (by simp[results,Tryz.results38,go_sem,z0,z1,z2,z3,z4,z5]) rfl ?_
 exact⟨rfl,Zec HB1.out _ (by omega) _ _ _ _ _ _⟩
theorem ZzY:(Tryz.prog.info? 109).map (fun i=>(i.zero,i.size,i.bytes))=some (some (.agg #[.int .i64 0,.int .i64 0,.int .i64 0]),3,24):=by kernel_rfl
theorem ZnO (w:World) (ty:TypeId) (v:Value) (l:List Pce) (h:w.ownsRow 0 109 3 v l.length (Zau l)) (c:Pce) (hlim:l.length<=10000000):
 ∃ v' w',(Builtin.append_ #[72,72] ty #[v,.slice (some ⟨w.heap.size,0,none⟩) 1 1]).run Tryz.prog (w.alloc (.cells (pcC c) 109))=.ok v' w'∧
  w'.ownsRow 0 109 3 v' (l++[c]).length (Zau (l++[c]))∧(w.alloc (.cells (pcC c) 109)).grownBy w' v.ownBlock∧(v'.ownBlock=v.ownBlock∨v'.ownBlock=some (w.heap.size+1)):=by
 obtain⟨i0,hi,hz0,hz1,hz2⟩:=info_parts ZzY
 obtain⟨v',w',hrun,ho,hg,_,hl⟩:=run_append_own_at (P:=Tryz.prog) (w.alloc (.cells (pcC c) 109)) 0 72 ty 109 i0 _ 3 24 Tryz.underlying72 hi hz0 hz1 hz2 rfl (by decide) v l.length (Zau l) (World.ownsRow.alloc h _)
  ⟨w.heap.size,0,none⟩ 1 1 (Zau [c]) (Zdh [c]) (fun j u hj=>by
   rw[Addr.add_lit,Nat.zero_add,cell_of_row _ w.heap.size j _ 109 (0,0) (heap_alloc_new w _)]
   simpa[Zau] using hj) (Zro [c]) (by unfold maxLen;omega) (by omega) (Nat.zero_le _)
 refine⟨v',w',hrun,?_,hg,?_⟩
 ·rw[List.length_append,ZkF]
  exact ho
 ·rcases hl with hl | hl
  ·exact .inl hl
  ·exact .inr (by rw[hl];simp)
theorem Zcv (w:World) {ops:Array Oper} {rest:List Oper} {o:Oper} {a:Act} {Q:Exit->Act->World->Prop} (hgd:o.guard=none) (s x:Operand)
 (ho:o.op=.call { callee:=.builtin .append,args:=#[s,x],argTypes:=#[72,72] })
 (v:Value) (l:List Pce) (hs:a.eval s=v) (h:w.ownsRow 0 109 3 v l.length (Zau l)) (c:Pce) (hx:a.eval x=.slice (some ⟨w.heap.size,0,none⟩) 1 1) (hlim:l.length<=10000000)
 (hK:∀ v' w',w'.ownsRow 0 109 3 v' (l++[c]).length (Zau (l++[c]))->(w.alloc (.cells (pcC c) 109)).grownBy w' v.ownBlock->(v'.ownBlock=v.ownBlock∨v'.ownBlock=some (w.heap.size+1))->
  wpList Tryz.prog ops Q rest (a.put o.dst v') w'):wpList Tryz.prog ops Q (o::rest) a (w.alloc (.cells (pcC c) 109)):=
 wpList_plain hgd fun _ hK'=>by
  obtain⟨v',w',hrun,h2,h3,h4⟩:=ZnO w o.type v l h c hlim
  unfold Oper.wp execOp
  simp only [ho,resolve,invoke,builtin,Sem.run_bind,Sem.run_pure,Result.andThen_ok,List.map_toArray,List.map_cons,List.map_nil,hs,hx,hrun]
  exact hK' _ _ (hK v' w' h2 h3 h4)
theorem ZkM (w:World) (ty:TypeId) (v:Value) (l0:List Rec) (hown:Zbm w 0 v l0) (vx:Value) (l:List Rec) (hr:RdR w vx l) (hlim:l0.length+l.length<=10000000):
 ∃ v' w',(Builtin.append_ #[29,29] ty #[v,vx]).run Tryz.prog w=.ok v' w'∧Zbm w' 0 v' (l0++l)∧w.grownBy w' v.ownBlock∧(v'.ownBlock=v.ownBlock∨v'.ownBlock=some w.heap.size):=by
 obtain⟨i0,hi,hz0,hz1,hz2⟩:=info_parts Zge
 obtain⟨ao,cap,rfl,hlc,hcm,hn0,_,hao⟩:=hr
 cases ao with
 | none=>
  have hc:=hn0 rfl
  subst hc
  have hl:l=[]:=List.eq_nil_of_length_eq_zero (by omega)
  subst hl
  have hrun:=run_append_owned_none (P:=Tryz.prog) w 0 29 ty 63 i0 7 Tryz.underlying29 hi v l0.length (Zan l0) hown
  exact⟨v,w,hrun,by rw[List.append_nil];exact hown,⟨rfl,rfl,rfl,Nat.le_refl _,fun _ _ _=>rfl⟩,.inl rfl⟩
 | some a=>
  obtain⟨v',w',hrun,ho,hg,_,hl⟩:=run_append_own_at (P:=Tryz.prog) w 0 29 ty 63 i0 _ 7 56 Tryz.underlying29 hi hz0 hz1 hz2 rfl (by decide) v l0.length (Zan l0) hown a l.length cap (Zan l)
   (Zbl l) (RdR.cells hao a rfl) (Zeu l) (by unfold maxLen;omega) (by omega) (Nat.zero_le _)
  refine⟨v',w',hrun,?_,hg,hl⟩
  unfold Zbm
  rw[List.length_append,Zdq]
  exact ho
theorem Zew (w:World) {ops:Array Oper} {rest:List Oper} {o:Oper} {a:Act} {Q:Exit->Act->World->Prop} (hgd:o.guard=none) (s x:Operand)
 (ho:o.op=.call { callee:=.builtin .append,args:=#[s,x],argTypes:=#[29,29] })
 (v:Value) (l0:List Rec) (hs:a.eval s=v) (hown:Zbm w 0 v l0) (vx:Value) (l:List Rec) (hx:a.eval x=vx) (hr:RdR w vx l) (hlim:l0.length+l.length<=10000000)
 (h:∀ v' w',Zbm w' 0 v' (l0++l)->w.grownBy w' v.ownBlock->(v'.ownBlock=v.ownBlock∨v'.ownBlock=some w.heap.size)->wpList Tryz.prog ops Q rest (a.put o.dst v') w'):wpList Tryz.prog ops Q (o::rest) a w:=
 wpList_plain hgd fun _ hK=>by
  obtain⟨v',w',hrun,h2,h3,h4⟩:=ZkM w o.type v l0 hown vx l hr hlim
  unfold Oper.wp execOp
  simp only [ho,resolve,invoke,builtin,Sem.run_bind,Sem.run_pure,Result.andThen_ok,List.map_toArray,List.map_cons,List.map_nil,hs,hx,hrun]
  exact hK _ _ (h v' w' h2 h3 h4)
theorem ZaO {w:World} {base n s:Nat} {t:TypeId} {v:Value} {xs:List Value} (h:w.ownsRow base t s v n xs) {g:Nat} (hg:v.ownBlock=some g):∃ cs,Bk t w g cs:=by
 rcases h.2 with ⟨hv,_⟩ | ⟨g',cap,cur,hv,_,hb,_⟩
 ·rw[hv] at hg;cases hg
 ·rw[hv] at hg
  obtain rfl:g'=g:=by simpa[Value.ownBlock] using hg
  exact⟨_,hb⟩
theorem ZbU {w:World} {base n s:Nat} {t:TypeId} {v:Value} {xs:List Value} (h:w.ownsRow base t s v n xs):∃ a c,v=.slice a n c:=by
 rcases h.2 with ⟨hv,hn⟩ | ⟨g',cap,cur,hv,_⟩
 ·exact⟨_,_,by rw[hv,hn]⟩
 ·exact⟨_,_,hv⟩
structure ZkN (t:TypeId) (w:World) (b o:Nat) (cs:Array Value) (rv pv:Value) (g:Lgb):Prop where
 blk:Bk t w b cs
 c0:cs[o]?=some (.int .i64 g.first)
 c1:cs[o+1]?=some rv
 c2:cs[o+2]?=some pv
 recs:Zbm w 0 rv g.recs
 pcs:w.ownsRow 0 109 3 pv g.pcs.length (Zau g.pcs)
def ZlT (b:Nat) (rv pv:Value) (k:Nat):Prop:=k=b∨rv.ownBlock=some k∨pv.ownBlock=some k
theorem ZkN.neR {t:TypeId} {w:World} {b o:Nat} {cs:Array Value} {rv pv:Value} {g:Lgb} (h:ZkN t w b o cs rv pv g) (ht:t≠63):rv.ownBlock≠some b:=fun e=>by
 obtain⟨cs',hb⟩:=ZaO h.recs e
 exact(h.blk.ne hb ht) rfl
theorem ZkN.neP {t:TypeId} {w:World} {b o:Nat} {cs:Array Value} {rv pv:Value} {g:Lgb} (h:ZkN t w b o cs rv pv g) (ht:t≠109):pv.ownBlock≠some b:=fun e=>by
 obtain⟨cs',hb⟩:=ZaO h.pcs e
 exact(h.blk.ne hb ht) rfl
theorem ZkN.neRP {t:TypeId} {w:World} {b o:Nat} {cs:Array Value} {rv pv:Value} {g:Lgb} (h:ZkN t w b o cs rv pv g):∀ k,rv.ownBlock=some k->pv.ownBlock≠some k:=fun k e1 e2=>by
 obtain⟨cs1,hb1⟩:=ZaO h.recs e1
 obtain⟨cs2,hb2⟩:=ZaO h.pcs e2
 exact(hb1.ne hb2 (by decide)) rfl
theorem ZkN.below {t:TypeId} {w w':World} {b o:Nat} {cs:Array Value} {rv pv:Value} {g:Lgb} (h:ZkN t w b o cs rv pv g) (hb:Below w.heap.size w w'):ZkN t w' b o cs rv pv g:=
 ⟨h.blk.keep (hb.block b h.blk.lt),h.c0,h.c1,h.c2,h.recs.below hb zL,Zaf h.pcs fun g hg=>hb.block g (by
  obtain⟨cs',hb'⟩:=ZaO h.pcs hg
  exact hb'.lt)⟩
def ZhC (t:TypeId) (w:World) (b o:Nat) (cs:Array Value) (rv pv:Value) (g:Lgb) (w':World):Prop:=
 ∃ rv' pv',ZkN t w' b o (((cs.setIfInBounds o (.int .i64 g.first)).setIfInBounds (o+1) rv').setIfInBounds (o+2) pv') rv' pv' g∧Zas (ZlT b rv pv) w w'∧
  (∀ k,ZlT b rv' pv' k->ZlT b rv pv k∨w.heap.size<=k)
theorem ZhC.more {t:TypeId} {w w1 w2:World} {b o:Nat} {cs:Array Value} {rv pv:Value} {g:Lgb} (h:ZhC t w b o cs rv pv g w1) (hb:Below w1.heap.size w1 w2):ZhC t w b o cs rv pv g w2:=by
 obtain⟨rv',pv',h1,h2,h3⟩:=h
 exact⟨rv',pv',h1.below hb,h2.trans (G:=fun _=>False) (Zas.ofBelow hb) (fun _ _ hf=>hf.elim),h3⟩
theorem ZhD {cs:Array Value} {j:Nat} {x:Value} (h:cs[j]?=some x):cs.setIfInBounds j x=cs:=by
 apply Array.ext_getElem?
 intro i
 rw[Array.getElem?_setIfInBounds]
 by_cases e:j=i
 ·subst e
  have hlt:j<cs.size:=(Array.getElem?_eq_some_iff.1 h).1
  rw[if_pos rfl,if_pos hlt,h]
 ·simp[e]
theorem ZmG (t:TypeId) (ht1:t≠63) (ht2:t≠109) (b o:Nat) (cs:Array Value) (rv pv:Value) (g:Lgb) (name first:Int) (w:World) (h:ZkN t w b o cs rv pv g) (hlim:g.pcs.length<=1000000):
 Calls Tryz.prog 54 #[.pointer (some ⟨b,o,none⟩),.int .i64 name,.int .i64 first] w fun e w'=>e=.returned (.tuple #[])∧ZhC t w b o cs rv pv (g.start name first) w':=by
 obtain⟨pa,pc,hpv⟩:=ZbU h.pcs
 -- the world ahead of the append
 obtain⟨W1,hW1⟩:∃ W1,W1=if g.pcs.length=0 then w.setCell ⟨b,o,none⟩ (.int .i64 first) else w:=⟨_,rfl⟩
 obtain⟨cs1,hcs1⟩:∃ cs1,cs1=if g.pcs.length=0 then cs.setIfInBounds o (.int .i64 first) else cs:=⟨_,rfl⟩
 have hsz:W1.heap.size=w.heap.size:=by
  rw[hW1]
  split
  ·simp
  ·rfl
 have hK1:∀ k,k≠b->W1.heap[k]?=w.heap[k]?:=fun k hk=>by
  rw[hW1]
  split
  ·exact Below.heap_setCell _ _ _ _ hk
  ·rfl
 have hO1:Zas (ZlT b rv pv) w W1:=by
  rw[hW1]
  split
  ·exact(Zas.refl _ _).setCell o (fun _=>.inl rfl) _
  ·exact Zas.refl _ _
 have hB1:Bk t W1 b cs1:=by
  rw[hW1,hcs1]
  split
  ·exact h.blk.set o _
  ·exact h.blk
 have hst:g.start name first=⟨if g.pcs.length=0 then first else g.first,g.recs,g.pcs++[(⟨name,first,first⟩:Pce)]⟩:=rfl
 have hM1:ZkN t W1 b o cs1 rv pv ⟨if g.pcs.length=0 then first else g.first,g.recs,g.pcs⟩:=by
  refine⟨hB1,?_,?_,?_,Zaf h.recs fun k hk=>hK1 k (fun e=>h.neR ht1 (by subst e;exact hk)),Zaf h.pcs fun k hk=>hK1 k (fun e=>h.neP ht2 (by subst e;exact hk))⟩
  ·rw[hcs1]
   have hlt:o<cs.size:=(Array.getElem?_eq_some_iff.1 h.c0).1
   split
   ·simp[hlt]
   ·exact h.c0
  ·rw[hcs1]
   split
   ·rw[Array.getElem?_setIfInBounds,if_neg (by omega)]
    exact h.c1
   ·exact h.c1
  ·rw[hcs1]
   split
   ·rw[Array.getElem?_setIfInBounds,if_neg (by omega)]
    exact h.c2
   ·exact h.c2
 have HC2:Hid (∀ v2 w2,w2.ownsRow 0 109 3 v2 (g.pcs++[(⟨name,first,first⟩:Pce)]).length (Zau (g.pcs++[(⟨name,first,first⟩:Pce)]))->(W1.alloc (.cells (pcC ⟨name,first,first⟩) 109)).grownBy w2 pv.ownBlock->(v2.ownBlock=pv.ownBlock∨v2.ownBlock=some (W1.heap.size+1))->
  ZhC t w b o cs rv pv (g.start name first) (w2.setCell ⟨b,o+2,none⟩ v2)∧w2.cell? ⟨b,o+2,none⟩=some pv∧w2.frozen? ⟨b,o+2,none⟩=false):=ZZ (fun v2 w2 hr hg hv=>by
  have hk2:∀ k,k<W1.heap.size->pv.ownBlock≠some k->w2.heap[k]?=W1.heap[k]?:=fun k hk hne=>by
   rw[hg.block k (by simp;omega) (fun e=>hne e.symm),Below.heap_alloc _ _ _ hk]
  have hb2:Bk t w2 b cs1:=hM1.blk.keep (hk2 b hM1.blk.lt (hM1.neP ht2))
  have hs2:W1.heap.size+1<=w2.heap.size:=by have:=hg.size;simpa using this
  have hec:((cs.setIfInBounds o (.int .i64 (g.start name first).first)).setIfInBounds (o+1) rv).setIfInBounds (o+2) v2=cs1.setIfInBounds (o+2) v2:=by
   congr 1
   rw[hst,hcs1]
   dsimp only
   by_cases h0:g.pcs.length=0
   ·rw[if_pos h0,if_pos h0]
    exact ZhD (by rw[Array.getElem?_setIfInBounds,if_neg (by omega)];exact h.c1)
   ·rw[if_neg h0,if_neg h0,ZhD h.c0,ZhD h.c1]
  have hp2:v2.ownBlock≠some b:=fun e=>by
   obtain⟨cs',hb'⟩:=ZaO hr e
   exact(hb2.ne hb' ht2) rfl
  refine⟨⟨rv,v2,?_,?_,?_⟩,(hb2.cell _ hM1.c2).1,(hb2.cell _ hM1.c2).2⟩
  ·rw[hec]
   have hlt:o+2<cs1.size:=(Array.getElem?_eq_some_iff.1 hM1.c2).1
   refine⟨hb2.set _ _,?_,?_,by simp[hlt],Zaf hM1.recs fun k hk=>?_,Zaf hr fun k hk=>Below.heap_setCell _ _ _ _ (fun e=>hp2 (by subst e;exact hk))⟩
   ·rw[Array.getElem?_setIfInBounds,if_neg (by omega)]
    exact hM1.c0
   ·rw[Array.getElem?_setIfInBounds,if_neg (by omega)]
    exact hM1.c1
   ·obtain⟨cs',hb'⟩:=ZaO hM1.recs hk
    rw[Below.heap_setCell _ _ _ _ (fun e=>hM1.neR ht1 (by subst e;exact hk)),hk2 k hb'.lt (hM1.neRP k hk)]
  ·refine(hO1.trans (G:=ZlT b rv pv) ?_ (fun _ _ hf=>hf)).setCell _ (fun _=>.inl rfl) _
   exact((Zas.refl _ W1).alloc _).trans (Zas.ofGrown (F:=ZlT b rv pv) hg fun k e _=>.inr (.inr e)) (fun _ _ hf=>hf)
  ·intro k hk
   rcases hk with hk | hk | hk
   ·exact .inl (.inl hk)
   ·exact .inl (.inr (.inl hk))
   ·rcases hv with hv | hv
    ·exact .inl (.inr (.inr (by rw[<-hv];exact hk)))
    ·rw[hv] at hk
     have:=Option.some.inj hk
     exact .inr (by omega))
 have HPR:Hid (W1.ownsRow 0 109 3 (.slice pa g.pcs.length pc) g.pcs.length (Zau g.pcs)):=ZZ (by rw[<-hpv];exact hM1.pcs)
 have HLM:Hid (g.pcs.length<=10000000):=ZZ (by omega)
 have HPV:=ZZ hpv
 have d2:=(h.blk.cell _ h.c2).1
 have d0:=(h.blk.cell _ h.c0)
 obtain⟨d0,f0⟩:=d0
 have e2:=(hM1.blk.cell _ hM1.c2).1
 rw[hpv] at d2 e2
 have HW1:=ZZ hW1
 have hmx:(g.pcs.length:Int)<=1000000:=by omega
 clear hpv hM1 hB1 hK1 hO1 hsz hst hcs1 h hW1
 by_cases h0:g.pcs.length=0
 ·have hb0:((g.pcs.length:Int) == 0)=true:=by rw[beq_iff_eq];omega
  have HE:Hid (W1=w.setCell ⟨b,o,none⟩ (.int .i64 first)):=ZZ (by rw[HW1.out,if_pos h0])
  clear h0
  go_enter Tryz.func54,Tryz.ntmps54
  go_upto_region 2 with fail
  rw[<-HE.out]
  clear HE d0 f0 d2
  go_wp2_with(at_builtin;refine(fun(h:True->_)=>h trivial) ?_)
  intro _
  refine Zcv W1 rfl _ _ rfl (.slice pa g.pcs.length pc) g.pcs rfl HPR.out (⟨name,first,first⟩:Pce) rfl HLM.out ?_
  intro v2 w2 hr hg hv
  obtain⟨hL,t2,s2⟩:=HC2.out v2 w2 hr (by rw[HPV.out];exact hg) (by rw[HPV.out];exact hv)
  rw[HPV.out] at t2
  have HL:=ZZ hL
  obtain⟨a9,c9,hv9⟩:=ZbU hr
  obtain⟨n9,hn9⟩:∃ n9,n9=(g.pcs++[(⟨name,first,first⟩:Pce)]).length:=⟨_,rfl⟩
  rw[<-hn9] at hv9
  subst hv9
  clear hL hr hg hv hn9 e2
  go_wp2
  go_end0
  exact⟨rfl,HL.out⟩
 ·have hb0:((g.pcs.length:Int) == 0)=false:=beq_eq_false_iff_ne.2 (by omega)
  have HE:Hid (W1=w):=ZZ (by rw[HW1.out,if_neg h0])
  clear h0 d0 f0 e2
  rw[HE.out] at HC2 HPR
  go_enter Tryz.func54,Tryz.ntmps54
  go_wp2_with(at_builtin;refine(fun(h:True->_)=>h trivial) ?_)
  intro _
  refine Zcv w rfl _ _ rfl (.slice pa g.pcs.length pc) g.pcs rfl HPR.out (⟨name,first,first⟩:Pce) rfl HLM.out ?_
  intro v2 w2 hr hg hv
  obtain⟨hL,t2,s2⟩:=HC2.out v2 w2 hr (by rw[HPV.out];exact hg) (by rw[HPV.out];exact hv)
  rw[HPV.out] at t2
  have HL:=ZZ hL
  obtain⟨a9,c9,hv9⟩:=ZbU hr
  obtain⟨n9,hn9⟩:∃ n9,n9=(g.pcs++[(⟨name,first,first⟩:Pce)]).length:=⟨_,rfl⟩
  rw[<-hn9] at hv9
  subst hv9
  clear hL hr hg hv hn9 d2
  go_wp2
  go_end0
  exact⟨rfl,HL.out⟩
theorem ZkO:∀ (l:List Pce) (j:Nat) (p:Pce),j<l.length->Zau (l.set j p)=((((Zau l).set (j*3) (.int .i64 p.name)).set (j*3+1) (.int .i64 p.first)).set (j*3+2) (.int .i64 p.stop))
 | c::l,0,p,_=>by
  rw[List.set_cons_zero,Zau,Zau]
  rfl
 | c::l,j+1,p,hj=>by
  have ih:=ZkO l j p (by simpa using hj)
  rw[List.set_cons_succ,Zau,ih,Zau]
  have e:(j+1)*3=(j*3)+1+1+1:=by omega
  rw[e]
  rfl
theorem Zpm {w:World} {v:Value} {l:List Pce} (h:w.ownsRow 0 109 3 v l.length (Zau l)) (j:Nat) (hj:j<l.length) (x:Int):
 ∃ g cap,v=.slice (some ⟨g,0,none⟩) l.length cap∧g<w.heap.size∧l.length<=cap∧w.cell? ⟨g,j*3+2,none⟩=some (.int .i64 (l.getD j Zcc).stop)∧w.frozen? ⟨g,j*3+2,none⟩=false∧
  (w.setCell ⟨g,j*3+2,none⟩ (.int .i64 x)).ownsRow 0 109 3 v l.length (Zau (l.set j ⟨(l.getD j Zcc).name,(l.getD j Zcc).first,x⟩)):=by
 rcases h.2 with ⟨_,hn⟩ | ⟨g,cap,cur,hv,hb,hg,hnc,hcm,hcs,htake⟩
 ·omega
 ·have hget:∀ k,k<3->cur[j*3+k]?=(pcC (l.getD j Zcc))[k]?:=fun k hk=>by
   have h1:=Zfk l j k hj hk
   rw[<-htake,List.getElem?_take,if_pos (by omega),Array.getElem?_toList] at h1
   exact h1
  refine⟨g,cap,hv,(Array.getElem?_eq_some_iff.1 hg).1,hnc,?_,frozen_of_row w g _ _ _ hg,?_,.inr ⟨g,cap,cur.setIfInBounds (j*3+2) (.int .i64 x),hv,hb,heap_setCell_same w g _ _ _ _ hg,hnc,hcm,by simpa using hcs,?_⟩⟩
  ·rw[cell_of_row w g _ _ _ _ hg]
   exact hget 2 (by decide)
  ·rw[Zdh,List.length_set]
  ·rw[ZkO l j _ hj]
   have h0:=hget 0 (by decide)
   have h1:=hget 1 (by decide)
   rw[<-htake]
   apply List.ext_getElem?
   intro i
   rw[List.getElem?_take]
   by_cases hi:i<l.length*3
   ·rw[if_pos hi,Array.getElem?_toList,Array.getElem?_setIfInBounds]
    simp only [List.getElem?_set,List.length_set,List.length_take,Array.length_toList,List.getElem?_take,hi,if_true,Array.getElem?_toList]
    have hcz:cur.size=cap*3:=hcs
    by_cases e2:j*3+2=i
    ·subst e2
     rw[if_pos rfl,if_pos rfl,if_pos (by omega),if_pos (by omega)]
    ·rw[if_neg e2,if_neg e2]
     by_cases e1:j*3+1=i
     ·subst e1
      rw[if_pos rfl,if_pos (by omega),h1]
      rfl
     ·rw[if_neg e1]
      by_cases e0:j*3=i
      ·subst e0
       rw[if_pos rfl,if_pos (by omega)]
       rw[Nat.add_zero] at h0
       rw[h0]
       rfl
      ·rw[if_neg e0]
   ·rw[if_neg hi,List.getElem?_eq_none (by simp;omega)]
theorem Zwu (t:TypeId) (ht1:t≠63) (ht2:t≠109) (b o:Nat) (cs:Array Value) (rv pv:Value) (g:Lgb) (vl:Value) (l:List Rec) (w:World) (h:ZkN t w b o cs rv pv g) (hr:RdR w vl l) (hp0:g.pcs.length≠0) (hlim:g.pcs.length<=1000000) (hrl:g.recs.length+l.length<=10000000)
 (hst:∀ p ∈ g.pcs,0<=p.stop∧p.stop<=4611686018427387904):
 Calls Tryz.prog 55 #[.pointer (some ⟨b,o,none⟩),vl] w fun e w'=>e=.returned (.tuple #[])∧ZhC t w b o cs rv pv (g.add l) w':=by
 obtain⟨la,lc,rfl,-⟩:=id hr
 obtain⟨ra,rc,hrv⟩:=h.recs.shape
 obtain⟨m,hm⟩:∃ m,g.pcs.length=m+1:=⟨g.pcs.length-1,by omega⟩
 obtain⟨st,hst0⟩:∃ st,st=(g.pcs.getD m Zcc).stop:=⟨_,rfl⟩
 have hstb:0<=st∧st<=4611686018427387904:=by
  rw[hst0]
  refine hst _ ?_
  rw[show g.pcs.getD m Zcc=g.pcs[m]'(by omega) by simp[List.getD,show m<g.pcs.length by omega]]
  exact List.getElem_mem _
 obtain⟨gp,pc,hpv,hgl,hnc,-,-,-⟩:=Zpm h.pcs m (by omega) 0
 -- behind the append,and the store of the records
 have HC2:Hid (∀ v2 w2,Zbm w2 0 v2 (g.recs++l)->w.grownBy w2 rv.ownBlock->(v2.ownBlock=rv.ownBlock∨v2.ownBlock=some w.heap.size)->
  (w2.cell? ⟨b,o+1,none⟩=some rv∧w2.frozen? ⟨b,o+1,none⟩=false)∧
  ((w2.setCell ⟨b,o+1,none⟩ v2).cell? ⟨b,o+2,none⟩=some pv∧(w2.setCell ⟨b,o+1,none⟩ v2).cell? ⟨gp,m*3+2,none⟩=some (.int .i64 st)∧(w2.setCell ⟨b,o+1,none⟩ v2).frozen? ⟨gp,m*3+2,none⟩=false)∧
  ZhC t w b o cs rv pv (g.add l) (((w2.setCell ⟨b,o+1,none⟩ v2)).setCell ⟨gp,m*3+2,none⟩ (.int .i64 (st+l.length)))):=ZZ (fun v2 w2 ho hg hv=>by
  have hk2:∀ k,k<w.heap.size->rv.ownBlock≠some k->w2.heap[k]?=w.heap[k]?:=fun k hk hne=>hg.block k hk (fun e=>hne e.symm)
  have hb2:Bk t w2 b cs:=h.blk.keep (hk2 b h.blk.lt (h.neR ht1))
  have hpo:pv.ownBlock=some gp:=by rw[hpv];rfl
  have hgb:gp≠b:=fun e=>h.neP ht2 (by rw[hpo,e])
  have hrp:rv.ownBlock≠some gp:=fun e=>h.neRP gp e hpo
  have hp3:(w2.setCell ⟨b,o+1,none⟩ v2).ownsRow 0 109 3 pv g.pcs.length (Zau g.pcs):=Zaf h.pcs fun k hk=>by
   have e:k=gp:=by rw[hpo] at hk;exact(Option.some.inj hk).symm
   subst e
   rw[Below.heap_setCell _ _ _ _ hgb,hk2 _ hgl hrp]
  obtain⟨g',cap',hv',-,-,hc',hf',hrow'⟩:=Zpm hp3 m (by omega) (st+l.length)
  have eg:g'=gp:=by
   rw[hpv] at hv'
   injection hv' with e1 _ _
   injection e1 with e1
   injection e1 with e1
   exact e1.symm
  subst eg
  rw[<-hst0] at hc'
  have hv2b:v2.ownBlock≠some b:=fun e=>by
   obtain⟨cs',hb'⟩:=ZaO ho e
   exact(hb2.ne hb' ht1) rfl
  have hv2p:v2.ownBlock≠some g':=fun e=>by
   obtain⟨cs',hb'⟩:=ZaO ho e
   obtain⟨cs2,hb2'⟩:=ZaO hp3 hpo
   have hb3:Bk 109 w2 g' cs2:=by
    have:=hb2'
    unfold Bk at this ⊢
    rw[Below.heap_setCell _ _ _ _ hgb] at this
    exact this
   exact(hb'.ne hb3 (by decide)) rfl
  refine⟨⟨(hb2.cell _ h.c1).1,(hb2.cell _ h.c1).2⟩,⟨?_,hc',hf'⟩,v2,pv,?_,?_,?_⟩
  ·refine((hb2.set (o+1) v2).cell _ ?_).1
   rw[Array.getElem?_setIfInBounds,if_neg (by omega)]
   exact h.c2
  ·have hec:((cs.setIfInBounds o (.int .i64 (g.add l).first)).setIfInBounds (o+1) v2).setIfInBounds (o+2) pv=cs.setIfInBounds (o+1) v2:=by
    have e1:(g.add l).first=g.first:=rfl
    rw[e1,ZhD h.c0]
    exact ZhD (by rw[Array.getElem?_setIfInBounds,if_neg (by omega)];exact h.c2)
   rw[hec]
   have hlt:o+1<cs.size:=(Array.getElem?_eq_some_iff.1 h.c1).1
   refine⟨(hb2.set _ _).other _ _ _ (fun e=>hgb e.symm),?_,by simp[hlt],?_,Zaf ho fun k hk=>?_,?_⟩
   ·rw[Array.getElem?_setIfInBounds,if_neg (by omega)]
    exact h.c0
   ·rw[Array.getElem?_setIfInBounds,if_neg (by omega)]
    exact h.c2
   ·rw[Below.heap_setCell _ _ _ _ (fun e=>hv2p (by subst e;exact hk)),Below.heap_setCell _ _ _ _ (fun e=>hv2b (by subst e;exact hk))]
   ·have e3:(g.add l).pcs=g.pcs.set m ⟨(g.pcs.getD m Zcc).name,(g.pcs.getD m Zcc).first,st+l.length⟩:=by
     show ZbW g.pcs l.length=_
     unfold ZbW
     rw[hm,Nat.add_sub_cancel,<-hst0]
    rw[e3,List.length_set]
    exact hrow'
  ·exact((Zas.ofGrown (F:=ZlT b rv pv) hg fun k e _=>.inr (.inl e)).setCell _ (fun _=>.inl rfl) _).setCell _ (fun _=>.inr (.inr hpo)) _
  ·intro k hk
   rcases hk with hk | hk | hk
   ·exact .inl (.inl hk)
   ·rcases hv with hv | hv
    ·exact .inl (.inr (.inl (by rw[<-hv];exact hk)))
    ·rw[hv] at hk
     have:=Option.some.inj hk
     exact .inr (by omega)
   ·exact .inl (.inr (.inr hk)))
 have HRO:Hid (Zbm w 0 (.slice ra g.recs.length rc) g.recs):=ZZ (by rw[<-hrv];exact h.recs)
 have HRD:=ZZ hr
 have HRV:=ZZ hrv
 have HPV:=ZZ hpv
 have HLM:=ZZ hrl
 obtain⟨d1,-⟩:=h.blk.cell _ h.c1
 rw[hrv] at d1
 have hw:IntKind.i64.wrap (st+(l.length:Int))=st+l.length:=by rw[IntKind.wrap_i64];omega
 have hmi:(m:Int)<=1000000:=by omega
 have hpl:g.pcs.length=m+1:=hm
 have HPL:Hid (pv=.slice (some ⟨gp,0,none⟩) (m+1) pc):=ZZ (by rw[hpv,hm])
 have hli:(l.length:Int)<=10000000:=by omega
 obtain⟨hs0,hs1⟩:=hstb
 have hnc2:m+1<=pc:=by omega
 clear hrv hpv h hr hst hst0 hp0 hlim hrl hm hpl hnc hgl
 go_enter Tryz.func55,Tryz.ntmps55
 go_wp2_with(at_builtin;refine(fun(h:True->_)=>h trivial) ?_)
 intro _
 refine Zew w rfl _ _ rfl (.slice ra g.recs.length rc) g.recs rfl HRO.out _ l rfl HRD.out HLM.out ?_
 intro v2 w2 ho hg hv
 obtain⟨⟨t1,s1⟩,⟨u2,u3,u4⟩,hL⟩:=HC2.out v2 w2 ho (by rw[HRV.out];exact hg) (by rw[HRV.out];exact hv)
 rw[HRV.out] at t1
 rw[HPL.out] at u2
 have HL:=ZZ hL
 obtain⟨a9,n9,c9,hv9⟩:∃ a n c,v2=.slice a n c:=by
  obtain⟨a,c,hh⟩:=ho.shape
  exact⟨a,_,c,hh⟩
 subst hv9
 obtain⟨W2,hW2⟩:∃ W2,W2=w2.setCell ⟨b,o+1,none⟩ (.slice a9 n9 c9):=⟨_,rfl⟩
 rw[<-hW2] at u2 u3 u4 HL
 clear hL ho hg hv d1
 go_upto_region 1 with fail
 rw[<-hW2]
 clear hW2 t1 s1
 go_region
 go_wp2
 go_end0
 exact⟨rfl,HL.out.more (Below.refl _ _).drew⟩
theorem Zbm.empty (w:World) (B:Nat) (hB:B<=w.heap.size):Zbm (w.alloc (.cells #[] 63)) B (.slice (some ⟨w.heap.size,0,none⟩) 0 0) []:=
 ⟨rfl,.inr ⟨w.heap.size,0,#[],rfl,hB,heap_alloc_new w _,Nat.le_refl _,Nat.zero_le _,rfl,rfl⟩⟩
theorem ZmH (v:Value) (l:List Rec) (w:World) (hr:RdR w v l) (hlim:l.length<=1000000):
 Calls Tryz.prog 45 #[v] w fun e w'=>∃ v',e=.returned v'∧Zbm w' w.heap.size v' l∧Below w.heap.size w w':=by
 have HR:=ZZ hr
 obtain⟨ao,cap,rfl,hlc,-,hn,-⟩:=hr
 cases ao with
 | none=>
  obtain rfl:cap=0:=hn rfl
  obtain rfl:l=[]:=List.eq_nil_of_length_eq_zero (by omega)
  clear hn hlc
  have hnil:∀ w,(binOp .eql 29 (.slice none 0 0) (.slice none 0 0)).run Tryz.prog w=.ok (.bool true) w:=fun w=>run_eql_slice_nil w _ _ none 0 0 Tryz.underlying29
  go_enter Tryz.func45,Tryz.ntmps45
  go_wp2
  go_ret
  exact⟨_,rfl,Zbm.nil _ _,Below.refl _ _⟩
 | some a=>
  clear hn
  have hnil:∀ w,(binOp .eql 29 (.slice (some a) l.length cap) (.slice none 0 0)).run Tryz.prog w=.ok (.bool false) w:=fun w=>run_eql_slice_nil w _ _ (some a) _ _ Tryz.underlying29
  have HB0:Hid (∀ X,Below w.heap.size w (w.alloc X)):=fun X=>(Below.refl _ _).alloc zL X
  have HO0:Hid (Zbm (w.alloc (.cells #[] 63)) w.heap.size (.slice (some ⟨w.heap.size,0,none⟩) 0 0) []):=ZZ (Zbm.empty w _ zL)
  go_enter Tryz.func45,Tryz.ntmps45
  go_wp2_with(at_builtin;refine Zhz _ rfl _ _ rfl w.heap.size _ [] rfl HO0.out _ l rfl (HR.out.below (HB0.out _) zL) (by simp;omega) (by simp) ?_)
  intro v1 W1 ho1 hb1
  have HO1:=ZZ ho1
  have HB1:=ZZ ((HB0.out _).trans hb1)
  clear ho1 hb1
  go_wp2
  go_ret
  exact⟨_,rfl,HO1.out,HB1.out⟩
theorem Zwv (w:World) (ao:Option Addr) (l:List Rec) (cap:Nat) (hr:RdR w (.slice ao l.length cap) l) (i:Nat) (hi:i<=l.length):
 ∃ a' c',RdR w (.slice a' (l.drop i).length c') (l.drop i)∧∀ x:Int,x=(i:Int)->∀ W,(Instr.sliceAt 29 (.slice ao l.length cap) (some (.int .i64 x)) none none).run Tryz.prog W=.ok (.slice a' (l.drop i).length c') W:=by
 have hlc:l.length<=cap:=by
  obtain⟨a,c,e,h,-⟩:=hr
  simp only [Value.slice.injEq] at e
  omega
 have h:=hr.mid i l.length cap hi zL hlc zL
 rw[List.take_of_length_le (by rw[List.length_drop];omega)] at h
 unfold sliced at h
 refine⟨_,_,by rw[List.length_drop];exact h,fun x hx W=>?_⟩
 subst hx
 rw[run_sliceAt_slice W 29 _ _ _ _ Zgf,run_slice_l W 29 ao l.length cap Zgf .i64 (i:Int) (by omega) (by omega),Zky,ZsD,List.length_drop]
 rfl
theorem ZsI (w:World) (ao:Option Addr) (l:List Rec) (cap:Nat) (hr:RdR w (.slice ao l.length cap) l) (i j:Nat) (hij:i<=j) (hj:j<=l.length):
 ∃ a' c',RdR w (.slice a' (j-i) c') ((l.drop i).take (j-i))∧∀ x y:Int,x=(i:Int)->y=(j:Int)->∀ W,(Instr.sliceAt 29 (.slice ao l.length cap) (some (.int .i64 x)) (some (.int .i64 y)) none).run Tryz.prog W=.ok (.slice a' (j-i) c') W:=by
 have hlc:l.length<=cap:=by
  obtain⟨a,c,e,h,-⟩:=hr
  simp only [Value.slice.injEq] at e
  omega
 have h:=hr.mid i j cap hij hj (by omega) zL
 unfold sliced at h
 refine⟨_,_,h,fun x y hx hy W=>?_⟩
 subst hx hy
 rw[run_sliceAt_slice W 29 _ _ _ _ Zgf,run_slice_lh W 29 ao l.length cap Zgf .i64 .i64 (i:Int) (j:Int) (by omega) (by omega) (by omega),Zky,ZsD]
 rfl
theorem ZeF.toLog {M I:Nat->Prop} {w:World} {p pd:Nat} {L:ZhA} {s:Sto} (h:ZeF M I w p pd L s):ZkN 77 w p 1 (stC pd L s) L.rv L.pv s.log:=
 ⟨h.head,rfl,rfl,rfl,h.recs,h.pcs⟩
theorem ZeF.logF {M I:Nat->Prop} {w:World} {p pd:Nat} {L:ZhA} {s:Sto} (h:ZeF M I w p pd L s):∀ k,ZlT p L.rv L.pv k->M k:=fun k hk=>by
 rcases hk with rfl | hk | hk
 ·exact h.mh
 ·exact h.mr k hk
 ·exact h.mp k hk
theorem ZeF.ofLog {M I:Nat->Prop} {w w':World} {p pd:Nat} {L:ZhA} {s:Sto} {g:Lgb} (h:ZeF M I w p pd L s) (hd:ZhC 77 w p 1 (stC pd L s) L.rv L.pv g w'):
 ∃ M' L',ZeF M' I w' p pd L' { s with log:=g }∧L'.nl=L.nl∧L'.nt=L.nt∧Zas M w w'∧∀ k,M' k->M k∨w.heap.size<=k:=by
 obtain⟨rv',pv',hm,ho,hf⟩:=hd
 have hoM:Zas M w w':=ho.mono h.logF
 have hI:∀ k,I k->w'.heap[k]?=w.heap[k]?:=fun k hk=>hoM.block k (h.ltI k hk) fun hm=>h.dis k hm hk
 have hcs:((((stC pd L s).setIfInBounds 1 (.int .i64 g.first)).setIfInBounds (1+1) rv').setIfInBounds (1+2) pv')=stC pd { L with rv:=rv',pv:=pv' } { s with log:=g }:=rfl
 rw[hcs] at hm
 have hlf:∀ k,ZlT p rv' pv' k->k<w'.heap.size:=fun k hk=>by
  rcases hk with rfl | hk | hk
  ·exact hm.blk.lt
  ·obtain⟨cs',hb⟩:=ZaO hm.recs hk
   exact hb.lt
  ·obtain⟨cs',hb⟩:=ZaO hm.pcs hk
   exact hb.lt
 have hbv:∀ k,L.bv.ownBlock=some k->¬ ZlT p L.rv L.pv k:=fun k hk hl=>by
  obtain⟨cs',hb⟩:=ZaO h.bases hk
  rcases hl with rfl | hl | hl
  ·exact(hb.ne h.head (by decide)) rfl
  ·obtain⟨cs2,hb2⟩:=ZaO h.recs hl
   exact(hb.ne hb2 (by decide)) rfl
  ·obtain⟨cs2,hb2⟩:=ZaO h.pcs hl
   exact(hb.ne hb2 (by decide)) rfl
 refine⟨fun k=>M k∨ZlT p rv' pv' k,{ L with rv:=rv',pv:=pv' },⟨hm.blk,hm.recs,hm.pcs,Zaf h.bases fun k hk=>?_,h.bsEq,h.now.keep h.inow hI,fun x hx=>(h.base x hx).keep (h.ibase x hx) hI,.inr (.inl rfl),fun k hk=>.inr (.inr (.inl hk)),fun k hk=>.inr (.inr (.inr hk)),fun k hk=>.inl (h.mb k hk),h.inow,h.ibase,fun k hk=>?_,fun k hk=>Nat.lt_of_lt_of_le (h.ltI k hk) hoM.size,fun k hk hi=>?_⟩,rfl,rfl,hoM,fun k hk=>?_⟩
 ·obtain⟨cs',hb⟩:=ZaO h.bases hk
  exact ho.block k hb.lt (hbv k hk)
 ·rcases hk with hk | hk
  ·exact Nat.lt_of_lt_of_le (h.ltM k hk) hoM.size
  ·exact hlf k hk
 ·rcases hk with hk | hk
  ·exact h.dis k hk hi
  ·rcases hf k hk with h1 | h1
   ·exact h.dis k (h.logF k h1) hi
   ·have:=h.ltI k hi
    omega
 ·rcases hk with hk | hk
  ·exact .inl hk
  ·rcases hf k hk with h1 | h1
   ·exact .inl (h.logF k h1)
   ·exact .inr h1
theorem Zud {w:World} {v:Value} {l:List Pce} (h:w.ownsRow 0 109 3 v l.length (Zau l)) (hj:0<l.length):
 ∃ g cap,v=.slice (some ⟨g,0,none⟩) l.length cap∧w.cell? ⟨g,1,none⟩=some (.int .i64 (l.getD 0 Zcc).first):=by
 rcases h.2 with ⟨_,hn⟩ | ⟨g,cap,cur,hv,hb,hg,hnc,hcm,hcs,htake⟩
 ·omega
 ·refine⟨g,cap,hv,?_⟩
  have h1:=Zfk l 0 1 hj (by decide)
  rw[<-htake,List.getElem?_take,if_pos (by omega),Array.getElem?_toList] at h1
  rw[cell_of_row w g _ _ _ _ hg]
  exact h1
theorem Zbm.own0 {w:World} {B:Nat} {v:Value} {l:List Rec} (h:Zbm w B v l):Zbm w 0 v l:=h.mono (Nat.zero_le _)
theorem Zbm.freshR {w:World} {B:Nat} {v:Value} {l:List Rec} (h:Zbm w B v l):∀ b,v.ownBlock=some b->B<=b∧b<w.heap.size:=fun b hb=>World.ownsRow.lt h b hb
theorem Zww (t:TypeId) (ht2:t≠109) (b o:Nat) (cs:Array Value) (rv pv:Value) (g:Lgb) (lv:Value) (left:List Pce) (base:Int) (w:World) (h:ZkN t w b o cs rv pv g) (hl:w.ownsRow 0 109 3 lv left.length (Zau left))
 (hlen:left.length<=1000000) (hrec:g.recs.length<=1000000) (hok:∀ r ∈ g.recs,ZfA r) (hf0:g.first<=ZbI left base) (hf1:ZbI left base<=g.first+g.recs.length) (hg0:0<=g.first) (hg1:g.first+g.recs.length<=4611686018427387904):
 Calls Tryz.prog 71 #[.pointer (some ⟨b,o,none⟩),lv,.int .i64 base] w fun e w'=>e=.returned (.tuple #[])∧
  ∃ rv',ZkN t w' b o (((cs.setIfInBounds o (.int .i64 (g.letGo left base).first)).setIfInBounds (o+1) rv').setIfInBounds (o+2) lv) rv' lv (g.letGo left base)∧Zas (fun k=>k=b) w w'∧∀ k,rv'.ownBlock=some k->w.heap.size<=k:=by
 obtain⟨f,hf⟩:∃ f,f=ZbI left base:=⟨_,rfl⟩
 rw[<-hf] at hf0 hf1
 obtain⟨ra,rc,hrv⟩:=h.recs.shape
 obtain⟨la,lc,hlv⟩:=ZbU hl
 have hrd:=h.recs.rd hok
 rw[hrv] at hrd
 obtain⟨a',c',hcr,hcut⟩:=Zwv w ra g.recs rc hrd (f-g.first).toNat (by omega)
 have hcut1:=hcut (f-g.first) (by omega)
 obtain⟨d0,f0⟩:=h.blk.cell _ h.c0
 obtain⟨d1,f1⟩:=h.blk.cell _ h.c1
 obtain⟨d2,f2⟩:=h.blk.cell _ h.c2
 rw[hrv] at d1
 have HCR:=ZZ hcr
 have HK:Hid (∀ W,Below w.heap.size w W->(W.cell? ⟨b,o,none⟩=some (.int .i64 g.first)∧W.cell? ⟨b,o+1,none⟩=some (.slice ra g.recs.length rc))∧(W.frozen? ⟨b,o,none⟩=false∧W.frozen? ⟨b,o+1,none⟩=false∧W.frozen? ⟨b,o+2,none⟩=false)∧W.cell? ⟨b,o+2,none⟩=some pv):=ZZ (fun W hb=>by
  have hb2:=h.blk.keep (hb.block b h.blk.lt)
  exact⟨⟨(hb2.cell _ h.c0).1,by rw[<-hrv];exact(hb2.cell _ h.c1).1⟩,⟨(hb2.cell _ h.c0).2,(hb2.cell _ h.c1).2,(hb2.cell _ h.c2).2⟩,(hb2.cell _ h.c2).1⟩)
 have HSD:Hid (Below w.heap.size w w.drew):=ZZ ((Below.refl _ _).drew)
 have HCL:Hid (∀ W,Below w.heap.size w W->Calls Tryz.prog 45 #[.slice a' (g.recs.drop (f-g.first).toNat).length c'] W fun e w'=>∃ v',e=.returned v'∧Zbm w' w.heap.size v' (g.recs.drop (f-g.first).toNat)∧Below w.heap.size w w'):=ZZ (fun W hW=>(ZmH _ _ W (hcr.below hW zL) (by rw[List.length_drop];omega)).mono (by
  rintro e w' ⟨v',rfl,ho,hb⟩
  exact⟨v',rfl,ho.mono hW.size,hW.trans (hb.mono hW.size)⟩))
 have HFIN:Hid (∀ v2 W2,Zbm W2 w.heap.size v2 (g.recs.drop (f-g.first).toNat)->Below w.heap.size w W2->
  ∃ rv',ZkN t (((W2.setCell ⟨b,o+1,none⟩ v2).setCell ⟨b,o,none⟩ (.int .i64 f)).setCell ⟨b,o+2,none⟩ lv) b o (((cs.setIfInBounds o (.int .i64 (g.letGo left base).first)).setIfInBounds (o+1) rv').setIfInBounds (o+2) lv) rv' lv (g.letGo left base)∧Zas (fun k=>k=b) w (((W2.setCell ⟨b,o+1,none⟩ v2).setCell ⟨b,o,none⟩ (.int .i64 f)).setCell ⟨b,o+2,none⟩ lv)∧∀ k,rv'.ownBlock=some k->w.heap.size<=k):=ZZ (fun v2 W2 ho hb=>by
  have hb2:=h.blk.keep (hb.block b h.blk.lt)
  have e1:(g.letGo left base).first=f:=hf.symm
  have hl0:o<cs.size:=(Array.getElem?_eq_some_iff.1 h.c0).1
  have hl1:o+1<cs.size:=(Array.getElem?_eq_some_iff.1 h.c1).1
  have hl2:o+2<cs.size:=(Array.getElem?_eq_some_iff.1 h.c2).1
  have hcs:(((cs.setIfInBounds (o+1) v2).setIfInBounds o (.int .i64 f)).setIfInBounds (o+2) lv)=(((cs.setIfInBounds o (.int .i64 f)).setIfInBounds (o+1) v2).setIfInBounds (o+2) lv):=by
   congr 1
   exact Array.setIfInBounds_comm _ _ (by omega)
  have hkk:∀ k,k≠b->(((W2.setCell ⟨b,o+1,none⟩ v2).setCell ⟨b,o,none⟩ (.int .i64 f)).setCell ⟨b,o+2,none⟩ lv).heap[k]?=W2.heap[k]?:=fun k hk=>by
   rw[Below.heap_setCell _ _ _ _ hk,Below.heap_setCell _ _ _ _ hk,Below.heap_setCell _ _ _ _ hk]
  refine⟨v2,?_,?_,fun k hk=>(ho.freshR k hk).1⟩
  ·rw[e1,<-hcs]
   refine⟨((hb2.set _ _).set _ _).set _ _,?_,?_,?_,Zaf (show W2.ownsRow 0 63 7 v2 (g.letGo left base).recs.length (Zan (g.letGo left base).recs) from by show Zbm W2 0 v2 (g.recs.drop (ZbI left base-g.first).toNat);rw[<-hf];exact ho.own0) fun k hk=>hkk k (fun e=>?_),Zaf hl fun k hk=>?_⟩
   ·rw[Array.getElem?_setIfInBounds,if_neg (by omega),Array.getElem?_setIfInBounds,if_pos rfl,if_pos (by simpa using hl0),e1]
   ·rw[Array.getElem?_setIfInBounds,if_neg (by omega),Array.getElem?_setIfInBounds,if_neg (by omega),Array.getElem?_setIfInBounds,if_pos rfl,if_pos hl1]
   ·rw[Array.getElem?_setIfInBounds,if_pos rfl,if_pos (by simpa using hl2)]
   ·subst e
    have:=(ho.freshR _ hk).1
    have:=h.blk.lt
    omega
   ·obtain⟨cs',hb'⟩:=ZaO hl hk
    rw[hkk k (hb'.ne h.blk (fun e=>ht2 e.symm)),hb.block k hb'.lt]
  ·exact(((Zas.ofBelow (F:=fun k=>k=b) hb).setCell (b:=b) _ (fun _=>rfl) _).setCell (b:=b) _ (fun _=>rfl) _).setCell (b:=b) _ (fun _=>rfl) _)
 have hw:IntKind.i64.wrap (f-g.first)=f-g.first:=by rw[IntKind.wrap_i64];omega
 obtain⟨n1,hn1⟩:∃ n1,n1=(g.recs.drop (f-g.first).toNat).length:=⟨_,rfl⟩
 rw[<-hn1] at hcut1 HCL
 obtain⟨pa,pn,pc,hpv⟩:∃ a n c,pv=.slice a n c:=by
  obtain⟨a,c,hh⟩:=ZbU h.pcs
  exact⟨a,_,c,hh⟩
 rw[hpv] at HK d2
 have hgi:-9223372036854775808<=f-g.first∧f-g.first<=9223372036854775807:=by omega
 have HLF:Hid (left.length≠0->∃ gl lcap,lv=.slice (some ⟨gl,0,none⟩) left.length lcap∧w.cell? ⟨gl,1,none⟩=some (.int .i64 f)):=ZZ (fun h0=>by
  obtain⟨gl,cap,e1,e2⟩:=Zud hl (by omega)
  have e3:f=(left.getD 0 Zcc).first:=by rw[hf];unfold ZbI;rw[if_neg h0]
  exact⟨gl,cap,e1,by rw[e3];exact e2⟩)
 have HF0:Hid (left.length=0->base=f):=ZZ (fun h0=>by rw[hf];unfold ZbI;rw[if_pos h0])
 obtain⟨hgi0,hgi1⟩:=hgi
 clear hrv hcr hcut h hl hf hok hrd hn1 hf0 hf1 hg0 hg1 hrec hpv d2 f2 ht2
 by_cases h0:left.length=0
 ·have hgt:decide ((left.length:Int)>0)=false:=decide_eq_false (by omega)
  obtain rfl:=HF0.out h0
  rw[h0] at hlv hgt
  subst hlv
  clear h0 HLF HF0 hlen
  go_enter Tryz.func71,Tryz.ntmps71
  go_upto_region 3 with fail
  go_cut[] (fun wc=>Hid (∃ v2 W2,wc=W2.setCell ⟨b,o+1,none⟩ v2∧Zbm W2 w.heap.size v2 (g.recs.drop (base-g.first).toNat)∧Below w.heap.size w W2))
  case first=>
   go_region_with
    (first | (go_at_call 45;refine(HCL.out _ (by first | exact HSD.out | exact Below.refl _ _)).mono ?_;rintro e W1 ⟨v1,rfl,ho1,hb1⟩;have HO1:=ZZ ho1;have HB1:=ZZ hb1;obtain⟨z1,z2,z3,hz⟩:∃ a n c,v1=Value.slice a n c:=(by obtain⟨a,c,hh⟩:=ho1.shape;exact⟨a,_,c,hh⟩);subst hz;obtain⟨⟨q0,q1⟩,⟨r0,r1,r2⟩,-⟩:=HK.out W1 HB1.out;clear ho1 hb1))
   all_goals
    go_wp2_with fail
    go_meet
    exact ZZ ⟨_,_,rfl,HO1.out,HB1.out⟩
  case rest=>
   obtain⟨v2,W2,hwc,ho2,hb2⟩:=hcut.out
   subst hwc
   have HL:=ZZ (HFIN.out v2 W2 ho2 hb2)
   obtain⟨⟨q0,q1⟩,⟨r0,r1,r2⟩,q2⟩:=HK.out W2 hb2
   clear hcut ho2 hb2 d0 d1 f0 f1
   go_wp2
   go_end0
   exact⟨rfl,HL.out⟩
 ·have hgt:decide ((left.length:Int)>0)=true:=decide_eq_true (by omega)
  have hgt2:(0:Int)<(left.length:Int):=by omega
  obtain⟨gl,lcap,hlv2,hc1⟩:=HLF.out h0
  rw[hlv2] at HFIN
  rw[hlv2]
  clear h0 HLF HF0 hlv hlv2
  have hli:(left.length:Int)<=1000000:=by omega
  generalize left.length=ln at *
  go_enter Tryz.func71,Tryz.ntmps71
  go_upto_region 3 with fail
  go_cut[] (fun wc=>Hid (∃ v2 W2,wc=W2.setCell ⟨b,o+1,none⟩ v2∧Zbm W2 w.heap.size v2 (g.recs.drop (f-g.first).toNat)∧Below w.heap.size w W2))
  case first=>
   go_region_with
    (first | (go_at_call 45;refine(HCL.out _ (by first | exact HSD.out | exact Below.refl _ _)).mono ?_;rintro e W1 ⟨v1,rfl,ho1,hb1⟩;have HO1:=ZZ ho1;have HB1:=ZZ hb1;obtain⟨z1,z2,z3,hz⟩:∃ a n c,v1=Value.slice a n c:=(by obtain⟨a,c,hh⟩:=ho1.shape;exact⟨a,_,c,hh⟩);subst hz;obtain⟨⟨q0,q1⟩,⟨r0,r1,r2⟩,-⟩:=HK.out W1 HB1.out;clear ho1 hb1))
   all_goals
    go_wp2_with fail
    go_meet
    exact ZZ ⟨_,_,rfl,HO1.out,HB1.out⟩
  case rest=>
   obtain⟨v2,W2,hwc,ho2,hb2⟩:=hcut.out
   subst hwc
   have HL:=ZZ (HFIN.out v2 W2 ho2 hb2)
   obtain⟨⟨q0,q1⟩,⟨r0,r1,r2⟩,q2⟩:=HK.out W2 hb2
   clear hcut ho2 hb2 d0 d1 f0 f1
   go_wp2
   go_end0
   exact⟨rfl,HL.out⟩
theorem ZiS {M I:Nat->Prop} {p pd:Nat} {L:ZhA} {s:Sto} (a b:Int) (w:World) (h:ZeF M I w p pd L s) (hn:Zrp s) (hok:∀ r ∈ s.log.recs,ZfA r) (hlim:s.log.recs.length<=1000000):
 Calls Tryz.prog 18 #[ptr p,.int .i64 a,.int .i64 b] w fun e w'=>∃ v,e=.returned (.tuple #[v,.int .i64 (ZbX s a b).2])∧Zbm w' w.heap.size v (ZbX s a b).1∧Below w.heap.size w w':=by
 have HNX:=ZZ (fun W (hb:Below w.heap.size w W)=>ZkK W (h.below hb) hn)
 have HFI:=ZZ (fun W (hb:Below w.heap.size w W)=>ZmE W (h.below hb))
 unfold ZbX
 obtain⟨nx,hnx⟩:∃ nx,nx=s.next:=⟨_,rfl⟩
 obtain⟨f,hf⟩:∃ f,f=s.log.first:=⟨_,rfl⟩
 have hnf:nx=f+s.log.recs.length:=by rw[hnx,hf];rfl
 rw[<-hnx] at HNX ⊢
 rw[<-hf] at HFI ⊢
 have h0:=hn.f0
 have h1:=hn.f1
 rw[<-hf] at h0
 rw[<-hnx] at h1
 by_cases g1:a<0
 ·rw[if_pos (.inl g1)]
  clear hnx hf hnf h0 h1 h
  go_enter Tryz.func18,Tryz.ntmps18
  go_wp2
  go_ret2
  exact⟨_,rfl,Zbm.nil _ _,Below.refl _ _⟩
 by_cases g2:b<a
 ·rw[if_pos (.inr (.inl g2))]
  clear hnx hf hnf h0 h1 h
  go_enter Tryz.func18,Tryz.ntmps18
  go_wp2
  go_ret2
  exact⟨_,rfl,Zbm.nil _ _,Below.refl _ _⟩
 by_cases g3:nx<b
 ·rw[if_pos (.inr (.inr g3))]
  clear hnx hf hnf h0 h1 h
  go_enter Tryz.func18,Tryz.ntmps18
  go_wp2_with fail
  refine(HNX.out _ (Below.refl _ _)).mono ?_
  rintro e W1 ⟨rfl,hb1⟩
  have HB1:=ZZ hb1
  clear hb1
  go_wp2
  go_ret2
  exact⟨_,rfl,Zbm.nil _ _,HB1.out⟩
 rw[if_neg (by omega)]
 by_cases g4:a<f
 ·rw[if_pos g4]
  clear hnx hf hnf h0 h1 h
  go_enter Tryz.func18,Tryz.ntmps18
  go_wp2_with fail
  refine(HNX.out _ (Below.refl _ _)).mono ?_
  rintro e W1 ⟨rfl,hb1⟩
  have HB1:=ZZ hb1
  clear hb1
  go_wp2_with fail
  refine(HFI.out _ HB1.out).mono ?_
  rintro e W2 ⟨rfl,rfl⟩
  go_wp2
  go_ret2
  exact⟨_,rfl,Zbm.nil _ _,HB1.out⟩
 rw[if_neg g4]
 obtain⟨ra,rc,hrv⟩:=h.recs.shape
 have hrd:=h.recs.rd hok
 rw[hrv] at hrd
 obtain⟨a',c',hcr,hcut⟩:=ZsI w ra s.log.recs rc hrd (a-f).toNat (b-f).toNat (by omega) (by omega)
 have hcut1:=hcut (a-f) (b-f) (by omega) (by omega)
 have HEQ:Hid ((s.log.recs.drop (a-f).toNat).take ((b-f).toNat-(a-f).toNat)=(s.log.recs.take (b-f).toNat).drop (a-f).toNat):=ZZ (by rw[List.drop_take])
 rw[HEQ.out] at hcr
 generalize (s.log.recs.take (b-f).toNat).drop (a-f).toNat=l at *
 have HCL:Hid (∀ W,Below w.heap.size w W->Calls Tryz.prog 45 #[.slice a' ((b-f).toNat-(a-f).toNat) c'] W fun e w'=>∃ v',e=.returned v'∧Zbm w' w.heap.size v' l∧Below w.heap.size w w'):=ZZ (fun W hW=>(ZmH _ _ W (hcr.below hW zL) (by
  obtain⟨_,_,e,-⟩:=hcr
  injection e with _ e _
  omega)).mono (by
  rintro e w' ⟨v',rfl,ho,hb⟩
  exact⟨v',rfl,ho.mono hW.size,hW.trans (hb.mono hW.size)⟩))
 have HK:Hid (∀ W,Below w.heap.size w W->W.cell? ⟨p,1,none⟩=some (.int .i64 f)∧W.cell? ⟨p,2,none⟩=some (.slice ra s.log.recs.length rc)):=ZZ (fun W hb=>by
  obtain⟨-,c1,c2,-⟩:=(h.below hb).cs
  rw[hrv] at c2
  rw[hf]
  exact⟨c1,c2⟩)
 have hw1:IntKind.i64.wrap (a-f)=a-f:=by rw[IntKind.wrap_i64];omega
 have hw2:IntKind.i64.wrap (b-f)=b-f:=by rw[IntKind.wrap_i64];omega
 have hq1:-9223372036854775808<=a-f∧a-f<=9223372036854775807:=by omega
 have hq2:-9223372036854775808<=b-f∧b-f<=9223372036854775807:=by omega
 obtain⟨hq10,hq11⟩:=hq1
 obtain⟨hq20,hq21⟩:=hq2
 obtain⟨n1,hn1⟩:∃ n1,n1=(b-f).toNat-(a-f).toNat:=⟨_,rfl⟩
 rw[<-hn1] at hcut1 HCL
 clear hnx hf hnf h0 h1 h hcr hcut hrd hrv hn1 HEQ hok hn
 go_enter Tryz.func18,Tryz.ntmps18
 go_wp2_with fail
 refine(HNX.out _ (Below.refl _ _)).mono ?_
 rintro e W1 ⟨rfl,hb1⟩
 have HB1:=ZZ hb1
 clear hb1
 go_wp2_with fail
 refine(HFI.out _ HB1.out).mono ?_
 rintro e W1 ⟨rfl,rfl⟩
 have HSD:Hid (Below w.heap.size w W1.drew):=ZZ (HB1.out.drew)
 go_upto_region 5 with fail
 go_region_held(fun W=>W.cell? ⟨p,1,none⟩=some (.int .i64 f)∧W.cell? ⟨p,2,none⟩=some (.slice ra s.log.recs.length rc))
  (first | (with_reducible exact HK.out _ HSD.out) | (with_reducible exact HK.out _ HB2.out))
  (first | (go_at_call 45;refine(HCL.out _ HSD.out).mono ?_;rintro e W2 ⟨v2,rfl,ho2,hb2⟩;have HO2:=ZZ ho2;have HB2:=ZZ hb2;clear ho2 hb2))
 all_goals
  go_wp2
  go_ret2
  exact⟨_,rfl,HO2.out,HB2.out⟩
structure Stp where
 g:Nat
 bd:Array Value
 cp:Array Value
def Stp.val (s:Stp):Value:=.func (.func s.g) s.bd s.cp
theorem Zpn (b off cap:Nat) (n:Nat) (fs:Nat->Stp) (w:World) (P:Nat->World->Prop) (Q:Int->World->Prop) (hn:n<=1000000)
 (hcell:∀ i W,i<n->P i W->W.cell? ⟨b,off+i,none⟩=some (fs i).val)
 (hstep:∀ i W,i<n->P i W->Calls Tryz.prog (fs i).g ((fs i).bd++(fs i).cp) W fun e w'=>∃ c:Int,e=.returned (.int .i64 c)∧(c=0->P (i+1) w')∧(c≠0->Q c w'))
 (hent:∀ i,i<n->∀ args W,(callFunc (fs i).g args).run Tryz.prog W=.ok (.enter (fs i).g args) W) (h0:P 0 w):
 Calls Tryz.prog 63 #[.slice (some ⟨b,off,none⟩) n cap] w fun e w'=>∃ c:Int,e=.returned (.int .i64 c)∧(c=0->P n w')∧(c≠0->Q c w'):=by
 have HC:=ZZ hcell
 have HS:=ZZ hstep
 have HE:=ZZ hent
 have hni:(n:Int)<=1000000:=by omega
 clear hcell hstep hent
 have HP0:=ZZ h0
 clear h0
 go_enter Tryz.func63,Tryz.ntmps63
 go_wp2
 go_loopw[8] (fun vi wr=>∃ i:Nat,vi=.int .i64 (i:Int)∧i<=n∧Hid (P i wr)) (fun vi _=>n-(intOf vi).toNat)
 case atStart=>exact⟨0,rfl,Nat.zero_le _,HP0⟩
 case round=>
  clear HP0
  obtain⟨i,rfl,hi,HP⟩:=hrel
  by_cases hlt:i<n
  case neg=>
   obtain rfl:i=n:=by omega
   go_wp2
   go_ret
   exact⟨0,rfl,fun _=>HP.out,fun h=>absurd rfl h⟩
  have c0:=HC.out i wr hlt HP.out
  have HCA:=ZZ (HS.out i wr hlt HP.out)
  have hE:=HE.out i hlt
  unfold Stp.val at c0
  obtain⟨g,hg⟩:∃ g,g=(fs i).g:=⟨_,rfl⟩
  obtain⟨bd,hbd⟩:∃ bd,bd=(fs i).bd:=⟨_,rfl⟩
  obtain⟨cp,hcp⟩:∃ cp,cp=(fs i).cp:=⟨_,rfl⟩
  rw[<-hg,<-hbd,<-hcp] at c0 HCA
  rw[<-hg] at hE
  have hii:(i:Int)<(n:Int):=by omega
  clear HP hg hbd hcp HC HS HE
  go_wp2_with fail
  refine HCA.out.mono ?_
  rintro e W1 ⟨c,rfl,hc0,hc1⟩
  by_cases hc:c=0
  ·subst hc
   have HP1:=ZZ (hc0 rfl)
   clear hc0 hc1 c0 hE HCA
   go_wp2
   go_roundw
   case rel=>exact⟨i+1,by go_num,by omega,HP1⟩
   case measure=>simp[intOf];omega
  ·have HQ:=ZZ (hc1 hc)
   have hcb:(c != 0)=true:=by rw[bne_iff_ne];exact hc
   have HNZ:=ZZ hc
   clear hc0 hc1 c0 hE HCA hc
   go_wp2
   go_ret
   exact⟨c,rfl,fun h=>absurd h HNZ.out,fun _=>HQ.out⟩
theorem ZeF.setHead {M I:Nat->Prop} {w:World} {p pd:Nat} {L:ZhA} {s s':Sto} (h:ZeF M I w p pd L s) (j:Nat) (x:Value) (hlog:s'.log=s.log) (hbs:s'.bases=s.bases) (hnow:s'.now=s.now) (hc:(stC pd L s).setIfInBounds j x=stC pd L s'):
 ZeF M I (w.setCell ⟨p,j,none⟩ x) p pd L s':=by
 have hk:∀ k,k≠p->(w.setCell ⟨p,j,none⟩ x).heap[k]?=w.heap[k]?:=fun k hk=>Below.heap_setCell _ _ _ _ hk
 have hne:∀ {t:TypeId} {n sz g:Nat} {v:Value} {xs:List Value},w.ownsRow 0 t sz v n xs->v.ownBlock=some g->t≠77->g≠p:=fun hr hg ht=>by
  obtain⟨cs',hb⟩:=ZaO hr hg
  exact hb.ne h.head ht
 have hI:∀ k,I k->(w.setCell ⟨p,j,none⟩ x).heap[k]?=w.heap[k]?:=fun k hi=>hk k fun e=>h.dis p h.mh (by rw[<-e];exact hi)
 have hx:L.nx s'=L.nx s:=by unfold ZhA.nx;rw[hnow]
 refine⟨by rw[<-hc];exact h.head.set j x,?_,?_,Zaf h.bases fun g hg=>hk g (hne h.bases hg (by decide)),by rw[hbs];exact h.bsEq,by rw[hx];exact h.now.keep h.inow hI,fun y hy=>(h.base y hy).keep (h.ibase y hy) hI,h.mh,h.mr,h.mp,h.mb,by rw[hx];exact h.inow,h.ibase,fun k hm=>by simpa using h.ltM k hm,fun k hm=>by simpa using h.ltI k hm,h.dis⟩
 ·rw[hlog]
  exact Zaf h.recs fun g hg=>hk g (hne h.recs hg (by decide))
 ·rw[hlog]
  exact Zaf h.pcs fun g hg=>hk g (hne h.pcs hg (by decide))
theorem SD.setHead {K:Nat->Prop} {w:World} {pd p:Nat} {s s':Sto} {d:Dk} {N T:Nat} (h:SD K w pd p s d N T) (hK:∀ k,K k->k<w.heap.size) (j:Nat) (x:Value) (hlog:s'.log=s.log) (hbs:s'.bases=s.bases) (hnow:s'.now=s.now) (hc:∀ L,(stC pd L s).setIfInBounds j x=stC pd L s'):
 SD K (w.setCell ⟨p,j,none⟩ x) pd p s' d N T∧Zas (fun k=>¬ K k) w (w.setCell ⟨p,j,none⟩ x):=by
 obtain⟨F,M,I,L,h1,h2,h3,h4,h5,h6,h7⟩:=h
 exact SD.own hK h1 h3 h4 h5 h6 h7 ((Zas.refl M w).setCell j (fun _=>h2.mh) x) (h2.setHead j x hlog hbs hnow (hc L)) (fun _ hk=>.inl hk) (fun _ hk=>.inl hk)
theorem SD.cells {K:Nat->Prop} {w:World} {pd p:Nat} {s:Sto} {d:Dk} {N T:Nat} (h:SD K w pd p s d N T):
 (w.cell? ⟨p,0,none⟩=some (ptr pd)∧w.cell? ⟨p,11,none⟩=some (.int .i64 s.synced)∧w.cell? ⟨p,12,none⟩=some (.int .i64 s.cur)∧w.cell? ⟨p,13,none⟩=some (.bool s.nw))∧∀ j,w.frozen? ⟨p,j,none⟩=false:=by
 obtain⟨F,M,I,L,h1,h2,-⟩:=h
 obtain⟨c0,-,-,-,-,-,c11,c12,c13⟩:=h2.cs
 exact⟨⟨c0,c11,c12,c13⟩,h2.fz⟩
theorem ZfP {K:Nat->Prop} {pd p:Nat} {s:Sto} {d:Dk} {N T:Nat} (w:World) (h:SD K w pd p s d N T) (hK:∀ k,K k->k<w.heap.size):
 Calls Tryz.prog 65 #[ptr p] w fun e w'=>ZeU K w pd p (Zaq (s,d)) (N+2) T e w':=by
 unfold Zaq
 obtain⟨⟨d',c⟩,hd⟩:∃ r,r=ZaP d:=⟨_,rfl⟩
 have HC:=ZZ (h.disk (d':=d') (c:=c) (N':=N+2) (T':=T) hK (fun F hF _=>by
  have:=ZqN w hF
  rw[<-hd] at this
  exact this))
 obtain⟨⟨c0,-⟩,-⟩:=h.cells
 dsimp only
 rw[<-hd]
 dsimp only
 have HK:=ZZ hK
 obtain⟨R,hR⟩:∃ R:SDk × Int,R=((if c=0 then { s with nw:=false } else s,d'),c):=⟨_,rfl⟩
 rw[<-hR]
 have HR:=ZZ hR
 clear h hd hK hR
 go_enter Tryz.func65,Tryz.ntmps65
 go_wp2_with fail
 refine HC.out.mono ?_
 rintro e W1 ⟨rfl,hs1,ho1⟩
 have HS1:=ZZ hs1
 have HO1:=ZZ ho1
 have HKW:Hid (∀ k,K k->k<W1.heap.size):=ZZ (fun k hk=>Nat.lt_of_lt_of_le (HK.out k hk) ho1.size)
 obtain⟨⟨-,-,-,c13⟩,fz⟩:=hs1.cells
 have f13:=fz 13
 clear hs1 ho1 HC c0 fz
 by_cases hc:c=0
 ·subst hc
  rw[if_pos rfl] at HR
  have HF:=ZZ (HS1.out.setHead (s':={ s with nw:=false }) HKW.out 13 (.bool false) rfl rfl rfl (fun _=>rfl))
  go_wp2
  go_ret
  rw[HR.out]
  exact⟨rfl,HF.out.1,HO1.out.trans HF.out.2 (fun _ _ h=>h)⟩
 ·rw[if_neg hc] at HR
  have hcb:(c == 0)=false:=beq_eq_false_iff_ne.2 hc
  clear hc
  go_wp2
  go_ret
  rw[HR.out]
  exact⟨rfl,HS1.out,HO1.out⟩
theorem ZnP {K:Nat->Prop} {pd p:Nat} {s:Sto} {d:Dk} {N T:Nat} (w:World) (h:SD K w pd p s d N T) (hK:∀ k,K k->k<w.heap.size):
 Calls Tryz.prog 67 #[ptr p] w fun e w'=>ZeU K w pd p (ZaH (s,d)) (N+2) T e w':=by
 unfold ZaH
 have HC:=ZZ (ZfP w h hK)
 obtain⟨⟨-,-,-,c13⟩,-⟩:=h.cells
 have HS:=ZZ h
 dsimp only
 cases hb:s.nw with
 | false=>
  rw[hb] at c13
  rw[if_neg (by simp)]
  clear h hb HC
  go_enter Tryz.func67,Tryz.ntmps67
  go_wp2
  go_ret
  exact⟨rfl,HS.out.mono (by omega) zL,Zas.refl _ _⟩
 | true=>
  rw[hb] at c13
  rw[if_pos rfl]
  obtain⟨r,hr⟩:∃ r,r=Zaq (s,d):=⟨_,rfl⟩
  rw[<-hr] at HC ⊢
  clear h hb HS hr
  go_enter Tryz.func67,Tryz.ntmps67
  go_wp2_with fail
  refine HC.out.mono ?_
  rintro e W1 ⟨rfl,hs1,ho1⟩
  have HS1:=ZZ (And.intro hs1 ho1)
  clear hs1 ho1 HC
  go_wp2
  go_ret
  exact⟨rfl,HS1.out⟩
end Go.Proofs.YtfiffndhehkapaaGreatDoor
