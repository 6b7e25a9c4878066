import Derived.Test.YtnahjngbneicaaaGreatDoorPack4
import Derived.Shelf.Slices.Empties2
import Derived.Shelf.Slices.Clone
import Derived.Shelf.Slices.Cells
import Derived.Shelf.Spec.SlicesInsertGrow
import Derived.Deep.DeepAppendWide
namespace Go.Proofs.YtnahjngbneicaaaGreatDoor
open _root_.Go.Proofs.Tryz
open List (append_nil drop_drop eq_nil_of_length_eq_zero length_append length_cons length_drop length_set length_take map_cons map_nil mem_cons take_add_one take_length)
set_option maxHeartbeats 4000000
set_option maxRecDepth 100000
open Go.RowKit
variable {a d w w':World} {B B' C b c cap g i j n o:Nat} {cs cur:Array Value} {e:Ent} {v v':Value} {L l t:List Ent} {p:Int}
def ZuC (e:Ent):Value:=.agg #[.int .i64 e.proc,.int .i64 e.seq,.int .i64 e.resp]
def ZfM (e:Ent):Array Value:=#[.int .i64 e.proc,.int .i64 e.seq,.int .i64 e.resp]
def Zod (e:Ent):Prop:=I64 e.proc∧I64 e.seq∧I64 e.resp
def Be (w:World) (b:Nat) (cs:Array Value):Prop:=w.heap[b]?=some (.cells cs 85 (0,0))
theorem Be.lt (h:Be w b cs):b<w.heap.size:=(Array.getElem?_eq_some_iff.1 h).1
theorem Be.below (h:Be w b cs) (a:Below B w w') (c:w.heap.size<=B):Be w' b cs:=(a.block b (by have:=h.lt;omega)).trans h
theorem Be.cell (h:Be w b cs) (j:Nat):w.cell? ⟨b,j,none⟩=cs[j]?∧w.frozen? ⟨b,j,none⟩=false:=⟨cell_of_row w b j _ _ _ h,frozen_of_row w b j _ _ h⟩
def ZpF (w:World) (b o:Nat) (e:Ent):Prop:=
 w.cell? ⟨b,o,none⟩=some (.int .i64 e.proc)∧w.cell? ⟨b,o+1,none⟩=some (.int .i64 e.seq)∧w.cell? ⟨b,o+2,none⟩=some (.int .i64 e.resp)
theorem ZpF.lt (h:ZpF w b o e):b<w.heap.size:=World.block_lt_of_cell? w ⟨b,o,none⟩ h.1
theorem ZpF.keep (h:ZpF w b o e) (d:w'.heap[b]?=w.heap[b]?):ZpF w' b o e:=by
 have c:∀ i,w'.cell? ⟨b,i,none⟩=w.cell? ⟨b,i,none⟩:=fun i=>World.cell?_of_block (a:=⟨b,i,none⟩) d
 unfold ZpF at h ⊢;simp only [c];exact h
def RdE (w:World) (v:Value) (l:List Ent):Prop:=
 ∃ ao cap,v=.slice ao l.length cap∧l.length<=cap∧cap<=maxLen∧(ao=none->cap=0)∧(∀ e ∈ l,Zod e)∧
  (l=[]∨∃ b off,ao=some ⟨b,off,none⟩∧∀ j,j<l.length->ZpF w b (off+j*3) (l.getD j ZaP))
theorem RdE.nil (w:World):RdE w (.slice none 0 0) []:=⟨none,0,rfl,Nat.le_refl _,Nat.zero_le _,fun _=>rfl,(fun r h=>by simp at h),.inl rfl⟩
theorem RdE.below (h:RdE w v l) {B:Nat} (k:Below B w w') (t:w.heap.size<=B):RdE w' v l:=by
 obtain⟨ao,cap,q,m,e,n,f,a⟩:=h;refine⟨ao,cap,q,m,e,n,f,?_⟩;rcases a with a | ⟨b,g,p,i⟩
 ·exact .inl a
 ·refine .inr ⟨b,g,p,fun j d=>?_⟩
  have c:=i j d;exact c.keep (k.block b (by have:=c.lt;omega))
def Zag:List Ent->List Value
 | []=>[]
 | r::t=>(ZfM r).toList++Zag t
theorem Zax:∀ l:List Ent,(Zag l).length=l.length*3
 | []=>rfl
 | r::t=>by
  rw[Zag,length_append,Zax t,length_cons];simp[ZfM];omega
theorem Zdt:∀ a b:List Ent,Zag (a++b)=Zag a++Zag b
 | [],_=>rfl
 | r::t,b=>by rw[List.cons_append,Zag,Zdt t b,Zag,List.append_assoc]
theorem Zbw:∀ (l:List Ent) (j k:Nat),j<l.length->k<3->(Zag l)[j*3+k]?=(ZfM (l.getD j ZaP))[k]?
 | r::t,0,k,_,hk=>by
  rw[Zag,Nat.zero_mul,Nat.zero_add,List.getElem?_append_left (by simp[ZfM];omega)]
  simp[List.getD]
 | r::t,j+1,k,hj,hk=>by
  have e:(j+1)*3+k=(ZfM r).toList.length+(j*3+k):=by simp[ZfM];omega
  rw[Zag,e,List.getElem?_append_right (by omega),Nat.add_sub_cancel_left,Zbw t j k (by simpa using hj) hk]
  simp[List.getD]
theorem ZcH (l:List Ent):∀ u ∈ Zag l,u.oneCell'=true:=by
 induction l with
 | nil=>intro u a;simp[Zag] at a
 | cons r t b=>
  intro u a;rw[Zag] at a;rcases List.mem_append.1 a with h | h
  ·simp[ZfM] at h
   rcases h with rfl | rfl | rfl <;> rfl
  ·exact b u h
def Zbt (w:World) (B:Nat) (v:Value) (l:List Ent):Prop:=w.ownsRow B 85 3 v l.length (Zag l)
theorem Zbt.nil (w:World) (B:Nat):Zbt w B (.slice none 0 0) []:=World.ownsRow_nil w B 85 3
theorem Zbt.rd (h:Zbt w B v l) (c:∀ r ∈ l,Zod r):RdE w v l:=by
 rcases h.2 with ⟨a,d⟩ | ⟨g,cap,cur,a,y,t,m,n,x,q⟩
 ·exact⟨none,0,by rw[a,d],by omega,Nat.zero_le _,fun _=>rfl,c,.inl (eq_nil_of_length_eq_zero d)⟩
 ·refine⟨some ⟨g,0,none⟩,cap,a,m,n,(fun e=>by cases e),c,.inr ⟨g,0,rfl,fun j f=>?_⟩⟩
  have b:∀ k u,k<3->(ZfM (l.getD j ZaP))[k]?=some u->w.cell? ⟨g,0+j*3+k,none⟩=some u:=fun k u i p=>by
   have:=World.ownsRow.cells h (g:=g) (by rw[a];rfl) (j*3+k) u ((Zbw l j k f i).trans p)
   rw[Addr.add_lit] at this;rw[Nat.add_assoc];exact this
  exact⟨b 0 _ (by decide) rfl,b 1 _ (by decide) rfl,b 2 _ (by decide) rfl⟩
theorem Zbt.below (h:Zbt w B v l) (e:Below B' w w') (i:w.heap.size<=B'):Zbt w' B v l:=by
 obtain⟨f,a⟩:=h;refine⟨f,?_⟩;rcases a with a | ⟨g,cap,cur,c,d,b,r⟩
 ·exact .inl a
 ·have j:g<w.heap.size:=(Array.getElem?_eq_some_iff.1 b).1
  exact .inr ⟨g,cap,cur,c,d,by rw[e.block g (by omega)];exact b,r⟩
theorem Zbt.mono (h:Zbt w B v l) (d:B'<=B):Zbt w B' v l:=by
 obtain⟨c,a⟩:=h;refine⟨c,?_⟩;rcases a with a | ⟨g,cap,cur,b,e,r⟩
 ·exact .inl a
 ·exact .inr ⟨g,cap,cur,b,by omega,r⟩
theorem Zbt.shape (h:Zbt w B v l):∃ ao cap,v=.slice ao l.length cap:=by
 rcases h.2 with ⟨a,b⟩ | ⟨g,cap,cur,a,_⟩
 ·exact⟨none,0,by rw[a,b]⟩
 ·exact⟨_,_,a⟩
theorem RdE.shape (h:RdE w v l):∃ ao cap,v=.slice ao l.length cap:=by
 obtain⟨ao,cap,a,_⟩:=h;exact⟨ao,cap,a⟩
theorem ZjT:(prog.info? 85).map (fun i=>(i.zero,i.size,i.bytes))=some (some (.agg #[.int .i64 0,.int .i64 0,.int .i64 0]),3,24):=by kernel_rfl
theorem Zmp (w:World) (ty:TypeId) (B:Nat) (v:Value) (l:List Ent) (h:Zbt w B v l) (r:Ent) (q:l.length<=1000000) (g:B<=w.heap.size):
 ∃ v' w',(Builtin.append_ #[39,39] ty #[v,.slice (some ⟨w.heap.size,0,none⟩) 1 1]).run prog (w.alloc (.cells (ZfM r) 85))=.ok v' w'∧Zbt w' B v' (l++[r])∧Below B w w':=by
 obtain⟨m,i,p,b,d⟩:=info_parts ZjT
 obtain⟨v',w',f,n,c,_⟩:=run_append_own (P:=prog) (w.alloc (.cells (ZfM r) 85)) B 39 ty 85 m _ 3 24 underlying39 i p b d rfl (by decide) v l.length (Zag l) (h.alloc _)
  ⟨w.heap.size,0,none⟩ 1 1 (Zag [r]) (Zax [r]) (fun j u a=>by
   rw[Addr.add_lit,Nat.zero_add,cell_of_row _ w.heap.size j _ 85 (0,0) (heap_alloc_new w _)]
   simpa[Zag] using a) (ZcH [r]) (by unfold maxLen;omega) (by omega) (by simp;omega)
 refine⟨v',w',f,?_,?_⟩
 ·unfold Zbt
  rw[length_append,Zdt];exact n
 ·exact((Below.refl _ _).alloc g _).grown c (by simp;omega) (fun k e=>(World.ownsRow.lt h k e).1)
theorem ZiF (w:World) {b:Array Oper} {rest:List Oper} {o:Oper} {a:Act} {Q:Exit->Act->World->Prop} (m:o.guard=none) (s x:Operand)
 (p:o.op=.call { callee:=.builtin .append,args:=#[s,x],argTypes:=#[39,39] })
 (B:Nat) (v:Value) (l:List Ent) (e:a.eval s=v) (n:Zbt w B v l) (r:Ent) (i:a.eval x=.slice (some ⟨w.heap.size,0,none⟩) 1 1)
 (c:l.length<=1000000) (j:B<=w.heap.size)
 (h:∀ v' w',Zbt w' B v' (l++[r])->Below B w w'->wpList prog b Q rest (a.put o.dst v') w'):wpList prog b Q (o::rest) a (w.alloc (.cells (ZfM r) 85)):=
 wpList_plain m fun _ d=>by
  obtain⟨v',w',g,k,f⟩:=Zmp w o.type B v l n r c j;unfold Oper.wp execOp;simp only [p,resolve,invoke,builtin,Sem.run_bind,Sem.run_pure,Result.andThen_ok,List.map_toArray,map_cons,map_nil,e,i,g];exact d _ _ (h v' w' k f)
def SnV (w:World) (v:Value) (s:ZaW):Prop:=
 ∃ vl vt,v=.agg #[.int .i64 s.idx,.int .i64 s.st.kind,vl,.bool s.st.shut,.int .i64 s.st.eng,vt]∧RdI w vl s.st.L∧I64 s.st.kind∧I64 s.st.eng∧RdE w vt s.tab∧I64 s.idx
def Zdu (p:Int):List Ent->Nat
 | []=>0
 | x::t=>if p<x.proc then 0 else Zdu p t+1
theorem ZpG (p:Int):∀ t,Zdu p t<=t.length
 | []=>Nat.le_refl _
 | x::t=>by
  rw[Zdu];split
  ·exact Nat.zero_le _
  ·have:=ZpG p t
   rw[length_cons];omega
def Zrx (p:Int) (t:List Ent):List Ent:=t.filter (fun x=>decide (x.proc≠p))
theorem Zzj (p:Int) (t:List Ent):(Zrx p t).length<=t.length:=List.length_filter_le _ _
theorem ZpH (e:Ent):∀ t:List Ent,ZfU t e=(Zrx e.proc t).take (Zdu e.proc (Zrx e.proc t))++(e::(Zrx e.proc t).drop (Zdu e.proc (Zrx e.proc t)))
 | []=>rfl
 | x::t=>by
  have b:=ZpH e t;unfold ZfU at b ⊢;unfold Zrx at b ⊢
  have d:(x::t).filter (fun y=>decide (y.proc≠e.proc))=if x.proc=e.proc then t.filter (fun y=>decide (y.proc≠e.proc)) else x::t.filter (fun y=>decide (y.proc≠e.proc)):=by
   rw[List.filter_cons];by_cases h:x.proc=e.proc <;> simp[h]
  rw[Zix,d];by_cases c:x.proc=e.proc
  ·have a:¬ e.proc<x.proc:=by omega
   simp only [c,if_true];rw[if_neg (by simp),decide_eq_false (by omega),Bool.false_or,b]
   rfl
  ·simp only [if_neg c]
   by_cases a:e.proc<x.proc
   ·rw[if_pos (by simp[a]),decide_eq_true a,Bool.or_true,Ziy,Zdu,if_pos a]
    rfl
   ·rw[if_neg (fun h=>a h.2),decide_eq_false a,Bool.or_false,Zdu,if_neg a,b]
    rfl
theorem ZmW:∀ {t:List Ent},(∀ j,j<t.length->¬ p<(t.getD j ZaP).proc)->Zdu p t=t.length
 | [],_=>rfl
 | x::t,h=>by
  have a:=h 0 (by simp)
  rw[show(x::t).getD 0 ZaP=x from rfl] at a;rw[Zdu,if_neg a,ZmW (fun j b=>h (j+1) (by simpa using b))]
  rfl
theorem ZpI:∀ {t:List Ent} {i:Nat},i<t.length->(∀ j,j<i->¬ p<(t.getD j ZaP).proc)->p<(t.getD i ZaP).proc->Zdu p t=i
 | [],i,hi,_,_=>absurd hi (Nat.not_lt_zero _)
 | x::t,0,_,_,h=>by
  rw[show(x::t).getD 0 ZaP=x from rfl] at h;rw[Zdu,if_pos h]
 | x::t,i+1,hi,hb,h=>by
  have a:=hb 0 (by omega)
  rw[show(x::t).getD 0 ZaP=x from rfl] at a;rw[Zdu,if_neg a,ZpI (i:=i) (by simpa using hi) (fun j b=>hb (j+1) (by omega)) h]
theorem ZwQ {b:List UInt8} {r:List Ent × List UInt8} (h:Zeq n b=some r):n<=b.length:=by
 obtain⟨t,x⟩:=r;obtain⟨c,a⟩:=ZgX n b t x h;have:=Zwx t;rw[a,length_append];omega
theorem ZpJ {b:List UInt8} (c:(Zab b).2≠0):ZeY b=(Zeq (Zab b).1 (b.drop (Zab b).2)).bind (fun r=>if r.2=[] then some r.1 else none):=by
 unfold ZeY;by_cases a:b.length<(Zab b).1
 ·rw[if_pos (.inr a)]
  cases h:Zeq (Zab b).1 (b.drop (Zab b).2) with
  | none=>rfl
  | some r=>
   have:=ZwQ h;rw[length_drop] at this;omega
 rw[if_neg (by omega)]
 cases Zeq (Zab b).1 (b.drop (Zab b).2) with
 | none=>rfl
 | some p=>
  obtain⟨t,x⟩:=p
  cases x <;> rfl
theorem Zry {l:List UInt8} {a:Nat} (h:a<l.length):Zbd (l.drop a)=(l.drop a).take 64::Zbd (l.drop (a+64)):=by
 rw[Zbx (fun e=>by
  have:=congrArg List.length e;rw[length_drop,List.length_nil] at this
  omega),drop_drop]
theorem ZwR (P:List (List UInt8)):Ziw P↔P=Zbd P.flatten:=
 ⟨fun h=>(ZfT P h).symm,fun h=>by rw[h];exact Zjd _ _ zL⟩
theorem ZwS (e:Ent):ZaA ⟨0,e.proc,e.seq,⟨0,0,0⟩,e.resp⟩↔Zfo e:=by
 unfold ZaA Zfo Zdy;simp only;omega
def ZkQ (t:List Ent):Nat->Int
 | 0=>0
 | k+1=>(t.getD k ZaP).proc+1
theorem Zrz {k:Nat}:Zdz t (k+1)↔Zdz t k∧Zfo (t.getD k ZaP)∧ZkQ t k<=(t.getD k ZaP).proc:=by
 rw[Zdz.next];constructor
 ·rintro⟨h1,h2,h3⟩
  refine⟨h1,h2,?_⟩
  cases k with
  | zero=>exact h2.1
  | succ k=>
   have:=h3 (by omega)
   rw[Nat.add_sub_cancel] at this;rw[ZkQ];omega
 ·rintro⟨h1,h2,h3⟩
  refine⟨h1,h2,fun h=>?_⟩
  cases k with
  | zero=>omega
  | succ k=>
   rw[ZkQ] at h3;rw[Nat.add_sub_cancel];omega
theorem ZwT (i:Int) (t:List Ent):¬ ZgA ⟨i,ZfQ,t⟩:=by
 rintro⟨-,h,-⟩
 revert h
 show ¬ ZcD ZfQ;decide
def Zcu:Nat->List UInt8->Option (List Nat × List UInt8)
 | 0,b=>some ([],b)
 | n+1,b=>if(Zab b).2=0 then none else(Zcu n (b.drop (Zab b).2)).map (fun r=>((Zab b).1::r.1,r.2))
theorem ZdQ {P:Program} (w:World) (g m ty d:TypeId) (k:Nat) (b o c l:Nat) (a:Addr) (e z:Nat) (cs:List Value)
 (y:P.underlying g=some (.slice d)) (f:(P.info? d).map (·.size)=some k) (t:cs.length=Nat.min e c*k)
 (p:∀ j v,cs[j]?=some v->w.cell? (a.add j)=some v) (x:∀ j,j<cs.length->(w.cell? ⟨b,o+j,none⟩).isSome=true) (n:∀ j,j<cs.length->w.frozen? ⟨b,o+j,none⟩=false) (A:∀ v ∈ cs,v.oneCell'=true):
 (Builtin.copy_ #[g,m] ty #[.slice (some ⟨b,o,none⟩) c l,.slice (some a) e z]).run P w=.ok (goInt (Nat.min e c)) (w.setCells b o cs):=by
 have h:=run_loadCells_list (P:=P) w a cs p;have u:=run_storeCells_cells (P:=P) b o cs 0 w (by simpa using x) (by simpa using n) A
 cases hq:P.info? d with
 | none=>simp[hq] at f
 | some i=>
  have q:i.size=k:=by simpa[hq] using f
  rw[t] at h;simp[Builtin.copy_,run_underlying y,Builtin.lenOf,Builtin.firstCells,sizeOf,typeInfo,hq,q,h,u]
def Zez:Nat->List Value
 | 0=>[]
 | n+1=>.int .i64 0::.int .i64 0::.int .i64 0::Zez n
theorem Zcl:∀ n,(Zez n).length=n*3
 | 0=>rfl
 | n+1=>by rw[Zez,length_cons,length_cons,length_cons,Zcl n];omega
theorem ZiG:∀ n,∀ v ∈ Zez n,v=.int .i64 0
 | 0,v,h=>by simp[Zez] at h
 | n+1,v,h=>by
  rw[Zez,mem_cons,mem_cons,mem_cons] at h;rcases h with h | h | h | h
  ·exact h
  ·exact h
  ·exact h
  ·exact ZiG n v h
theorem ZmX (n:Nat):(Builtin.zeroCells (Value.agg #[.int .i64 0,.int .i64 0,.int .i64 0]).cells n).toList=Zez n:=by
 have g:(Value.agg #[.int .i64 0,.int .i64 0,.int .i64 0]).cells=#[.int .i64 0,.int .i64 0,.int .i64 0]:=by rfl
 rw[g];apply List.ext_getElem?;intro i;by_cases h:i<n*3
 ·have a:i<(Zez n).length:=by rw[Zcl];exact h
  have b:(Zez n)[i]?=some (.int .i64 0):=by
   rw[List.getElem?_eq_getElem a,ZiG n _ (List.getElem_mem a)]
  rw[b];have d:i % 3=0∨i % 3=1∨i % 3=2:=by omega
  simp only [Builtin.zeroCells,Array.getElem?_toList,Array.getElem?_map];have c:(Array.range (n*(#[Value.int .i64 0,.int .i64 0,.int .i64 0]:Array Value).size))[i]?=some i:=by simp[h]
  rw[c];have f:(#[Value.int .i64 0,.int .i64 0,.int .i64 0]:Array Value).size=3:=rfl;rw[f];rcases d with e | e | e <;> rw[Option.map_some,e] <;> rfl
 ·rw[List.getElem?_eq_none (by simp[Builtin.zeroCells];omega),List.getElem?_eq_none (by rw[Zcl];omega)]
theorem ZkR {P:Program} (w:World) (t e ty:TypeId) (g:P.underlying t=some (.slice e)) (d:∀ w,(zeroValue e).run P w=.ok (.agg #[.int .i64 0,.int .i64 0,.int .i64 0]) w) (b o n c:Nat) (k:0<n)
 (i:∀ j,j<n*3->(w.cell? ⟨b,o+j,none⟩).isSome=true) (h:∀ j,j<n*3->w.frozen? ⟨b,o+j,none⟩=false):
 (Builtin.clear_ #[t] ty #[.slice (some ⟨b,o,none⟩) n c]).run P w=.ok (.tuple #[]) (w.setCells b o (Zez n)):=by
 have a:=run_storeCells_cells (P:=P) b o (Zez n) 0 w (by rw[Zcl];simpa using i) (by rw[Zcl];simpa using h) (by intro v f;rw[ZiG n v f];rfl)
 simp only [Nat.add_zero] at a;obtain⟨m,rfl⟩:∃ m,n=m+1:=⟨n-1,by omega⟩
 simp[Builtin.clear_,run_underlying g,d,ZmX,a]
def ZrA (r s:Ent):Bool:=r.proc == s.proc && r.seq == s.seq && r.resp == s.resp
theorem ZwU (w:World) (r s:Ent):(binOp .neq 85 (.agg #[.int .i64 r.proc,.int .i64 r.seq,.int .i64 r.resp]) (.agg #[.int .i64 s.proc,.int .i64 s.seq,.int .i64 s.resp])).run prog w=.ok (.bool (!ZrA r s)) w:=by
 have e:=underlying3;have d:=Tryz.isAgg3;have c:=Tryz.sizeOf3;have b:prog.underlying 85=some (.struct (prog.fieldsOf 85)):=by kernel_rfl
 have a:prog.stoodInHeld 85=false:=by kernel_rfl
 unfold ZrA;rw[run_neq_struct,show(10000:Nat)=9999+1 from rfl,run_equalIn_agg w 9999 85 _ _ b a];simp only [Program.fieldsOf,underlying85]
 go_simp
 repeat' split
 all_goals simp_all
theorem ZwV:prog.eqGuardType prog.depth 85=false:=by kernel_rfl
theorem ZpK (r s:Ent):ZrA r s=true↔r=s:=by
 obtain⟨i,p,q⟩:=r;obtain⟨c,b,a⟩:=s;simp[ZrA];constructor
 ·rintro⟨⟨rfl,rfl⟩,rfl⟩
  simp
 ·rintro⟨rfl,rfl,rfl⟩
  simp
theorem ZuD (r:Ent):ZrA r r=true:=(ZpK r r).2 rfl
theorem ZwW {r s:Ent} (h:r≠s):ZrA r s=false:=by
 cases hq:ZrA r s
 ·rfl
 ·exact absurd ((ZpK _ _).1 hq) h
open Go.RowKit Go.Shelf
def Zzk:Go.Shelf.Ren:=⟨fun | 111=>89 | n=>n,fun | 28=>23 | 3=>3 | 4=>4 | 0=>0 | n=>n,fun | n=>n⟩
theorem ZCq:Go.Proofs.Lays.n111 prog Zzk:={
 mixed:=by kernel_rfl
 f111:=func89.trans (congrArg some (by kernel_rfl))
 t0:=underlying0
 a0:=Tryz.isAgg0
 z0:=Tryz.sizeOf0
 v0:=Tryz.zeroValue0
 t3:=underlying3
 a3:=Tryz.isAgg3
 z3:=Tryz.sizeOf3
 v3:=Tryz.zeroValue3
 t4:=underlying4
 a4:=Tryz.isAgg4
 z4:=Tryz.sizeOf4
 v4:=Tryz.zeroValue4
 t28:=underlying23
 a28:=Tryz.isAgg23
 z28:=Tryz.sizeOf23
 v28:=Tryz.zeroValue23 }
def ZuE:Go.Shelf.Ren:=⟨fun | 15=>39 | n=>n,fun | 22=>23 | 3=>3 | 4=>4 | n=>n,fun | n=>n⟩
theorem ZwX:Go.Proofs.Lays2.n15 prog ZuE:={
 mixed:=by kernel_rfl
 f15:=func39.trans (congrArg some (by kernel_rfl))
 t3:=underlying3
 a3:=Tryz.isAgg3
 z3:=Tryz.sizeOf3
 v3:=Tryz.zeroValue3
 t4:=underlying4
 a4:=Tryz.isAgg4
 z4:=Tryz.sizeOf4
 v4:=Tryz.zeroValue4
 t22:=underlying23
 a22:=Tryz.isAgg23
 z22:=Tryz.sizeOf23
 v22:=Tryz.zeroValue23
 i3:=by kernel_rfl }
def ZuF:Go.Shelf.Ren:=⟨fun | 23=>210 | n=>n,fun | 22=>23 | 3=>3 | 4=>4 | 0=>0 | n=>n,fun | n=>n⟩
theorem ZBF:Go.Proofs.Lays2.n23 prog ZuF:={
 mixed:=by kernel_rfl
 f23:=func210.trans (congrArg some (by kernel_rfl))
 t0:=underlying0
 a0:=Tryz.isAgg0
 z0:=Tryz.sizeOf0
 v0:=Tryz.zeroValue0
 t3:=underlying3
 a3:=Tryz.isAgg3
 z3:=Tryz.sizeOf3
 v3:=Tryz.zeroValue3
 t4:=underlying4
 a4:=Tryz.isAgg4
 z4:=Tryz.sizeOf4
 v4:=Tryz.zeroValue4
 t22:=underlying23
 a22:=Tryz.isAgg23
 z22:=Tryz.sizeOf23
 v22:=Tryz.zeroValue23
 i3:=by kernel_rfl }
def ZmY:Go.Shelf.Ren:=⟨fun | 21=>212 | 27=>223 | 28=>224 | 35=>229 | 39=>232 | n=>n,fun | 22=>23 | 3=>3 | 4=>4 | 0=>0 | n=>n,fun | n=>n⟩
theorem ZpL:Go.Proofs.Lays2.n21 prog ZmY:={
 mixed:=by kernel_rfl
 f21:=func212.trans (congrArg some (by kernel_rfl))
 f27:=func223.trans (congrArg some (by kernel_rfl))
 f28:=func224.trans (congrArg some (by kernel_rfl))
 f35:=func229.trans (congrArg some (by kernel_rfl))
 f39:=func232.trans (congrArg some (by kernel_rfl))
 t0:=underlying0
 a0:=Tryz.isAgg0
 z0:=Tryz.sizeOf0
 v0:=Tryz.zeroValue0
 t3:=underlying3
 a3:=Tryz.isAgg3
 z3:=Tryz.sizeOf3
 v3:=Tryz.zeroValue3
 t4:=underlying4
 a4:=Tryz.isAgg4
 z4:=Tryz.sizeOf4
 v4:=Tryz.zeroValue4
 t22:=underlying23
 a22:=Tryz.isAgg23
 z22:=Tryz.sizeOf23
 v22:=Tryz.zeroValue23
 i3:=by kernel_rfl }
def Zim (cur:Array Value):Nat->List Value->Array Value
 | _,[]=>cur
 | o,v::r=>Zim (cur.setIfInBounds o v) (o+1) r
theorem ZaG:∀ (vs:List Value) (o:Nat) (cur:Array Value),(Zim cur o vs).size=cur.size
 | [],_,_=>rfl
 | v::r,o,cur=>by rw[Zim,ZaG r];simp
theorem Zbg:∀ (vs:List Value) (o:Nat) (cur:Array Value) (j:Nat),j<cur.size->(Zim cur o vs)[j]?=if o<=j∧j<o+vs.length then vs[j-o]? else cur[j]?
 | [],o,cur,j,_=>by
  rw[Zim,if_neg (by rw[List.length_nil];omega)]
 | v::r,o,cur,j,hj=>by
  rw[Zim,Zbg r (o+1) _ j (by simpa using hj)]
  by_cases h:j=o
  ·subst h
   rw[if_neg (by omega),if_pos (by simp)]
   simp[hj]
  ·by_cases a:o+1<=j∧j<o+1+r.length
   ·rw[if_pos a,if_pos (by simp;omega)]
    rw[show j-o=(j-(o+1))+1 by omega]
    simp
   ·rw[if_neg a,if_neg (by simp;omega)]
    simp[show ¬ o=j by omega]
theorem ZaH (g:Nat) (t:TypeId):∀ (vs:List Value) (o:Nat) (w:World) (cur:Array Value),w.heap[g]?=some (.cells cur t (0,0))->(w.setCells g o vs).heap[g]?=some (.cells (Zim cur o vs) t (0,0))
 | [],_,_,_,h=>h
 | v::r,o,w,cur,h=>by
  rw[World.setCells,Zim];exact ZaH g t r (o+1) _ _ (heap_setCell_same w g o cur t v h)
theorem ZcI (b:B<=g):∀ (vs:List Value) (o:Nat) (w:World),Below B a w->Below B a (w.setCells g o vs)
 | [],_,_,h=>h
 | v::r,o,w,h=>by
  rw[World.setCells];exact ZcI b r (o+1) _ (h.setCell b v)
theorem ZkS (h:Below B a w):Below B a w.drew:=⟨h.os,h.tape,h.output,h.size,h.block⟩
theorem ZaB.ofRow {l:List Int} (b:B<=g) (e:w.heap[g]?=some (.cells cur 3 (0,0))) (f:l.length<=cap) (c:cap<=maxLen) (h:cur.size=cap) (d:∀ j,j<l.length->cur[j]?=some (.int .i64 (l.getD j 0))):
 ZaB w B (.slice (some ⟨g,0,none⟩) l.length cap) l:=by
 refine⟨by rw[Zbm,Nat.mul_one],.inr ⟨g,cap,cur,rfl,b,e,f,c,by rw[h,Nat.mul_one],?_⟩⟩
 apply List.ext_getElem?;intro j;rw[Nat.mul_one];by_cases a:j<l.length
 ·rw[List.getElem?_take_of_lt a,Zbu l j a,Array.getElem?_toList]
  exact d j a
 ·rw[List.getElem?_eq_none (by simp;omega),List.getElem?_eq_none (by rw[Zbm];omega)]
theorem ZaB.ofRowN {l:List Int} (d:n=l.length) (a:B<=g) (e:w.heap[g]?=some (.cells cur 3 (0,0))) (f:l.length<=cap) (b:cap<=maxLen) (h:cur.size=cap) (c:∀ j,j<l.length->cur[j]?=some (.int .i64 (l.getD j 0))):
 ZaB w B (.slice (some ⟨g,0,none⟩) n cap) l:=by
 subst d;exact ZaB.ofRow a e f b h c
theorem ZaB.row {l:List Int} (h:ZaB w B v l):(v=.slice none 0 0∧l=[])∨∃ g cap cur,v=.slice (some ⟨g,0,none⟩) l.length cap∧B<=g∧g<w.heap.size∧w.heap[g]?=some (.cells cur 3 (0,0))∧l.length<=cap∧cap<=maxLen∧cur.size=cap∧∀ j,j<l.length->cur[j]?=some (.int .i64 (l.getD j 0)):=by
 rcases h.2 with ⟨b,a⟩ | ⟨g,cap,cur,b,a,c,f,i,m,k⟩
 ·exact .inl ⟨b,eq_nil_of_length_eq_zero a⟩
 ·refine .inr ⟨g,cap,cur,b,a,(Array.getElem?_eq_some_iff.1 c).1,c,f,i,by rw[m,Nat.mul_one],fun j d=>?_⟩
  have e:=Zbu l j d;rw[<-k,Nat.mul_one,List.getElem?_take_of_lt d,Array.getElem?_toList] at e;exact e
theorem ZmZ (w:World) (q:Nat):(w.drewN q).heap=w.heap:=by
 induction q generalizing w with
 | zero=>rfl
 | succ n a=>exact a _
structure Mv (w w':World) (v v':Value):Prop where
 grown:w.grownBy w' v.ownBlock
 lies:∀ b,v'.ownBlock=some b->v.ownBlock=some b∨w.heap.size<=b
theorem Mv.size (h:Mv w w' v v'):w.heap.size<=w'.heap.size:=h.grown.size
theorem Mv.ofBelow (h:Below w.heap.size w w') (v:Value):Mv w w' v v:=⟨⟨h.os,h.tape,h.output,h.size,fun k a _=>h.block k a⟩,fun _ b=>.inl b⟩
theorem Mv.refl (w:World) (v:Value):Mv w w v v:=Mv.ofBelow (Below.refl _ _) v
theorem Mv.alloc (w:World) (v:Value) (X:Obj):Mv w (w.alloc X) v v:=Mv.ofBelow ((Below.refl _ _).alloc zL X) v
theorem Mv.trans {i:World} {f g:Value} (a:Mv w d v f) (c:Mv d i f g):Mv w i v g:=by
 have m:=a.size;refine⟨⟨c.grown.os.trans a.grown.os,c.grown.tape.trans a.grown.tape,c.grown.output.trans a.grown.output,Nat.le_trans m c.size,fun k l j=>?_⟩,fun b n=>?_⟩
 ·rw[c.grown.block k (by omega) (fun e=>?_)]
  ·exact a.grown.block k l j
  ·rcases a.lies k e.symm with h | h
   ·exact j h.symm
   ·omega
 ·rcases c.lies b n with h | h
  ·exact a.lies b h
  ·exact .inr (by omega)
theorem Mv.drew (h:Mv w w' v v'):Mv w w'.drew v v':=⟨⟨h.grown.os,h.grown.tape,h.grown.output,h.grown.size,h.grown.block⟩,h.lies⟩
theorem Mv.below (h:Mv w w' v v') {B:Nat} {l:List Int} (a:ZaB w B v l) (b:B<=w.heap.size):Below B w w':=
 ⟨h.grown.os,h.grown.tape,h.grown.output,h.size,fun k c=>h.grown.block k (by omega) (fun e=>by have:=(World.ownsRow.lt a k e.symm).1;omega)⟩
theorem Mv.app {N:Nat} (h:w.grownBy w' v.ownBlock) (e:w.heap.size=N) (a:v'.ownBlock=v.ownBlock∨∃ g,v'.ownBlock=some g∧N<=g):Mv w w' v v':=by
 refine⟨h,fun b c=>?_⟩
 rcases a with a | ⟨g,a,d⟩
 ·exact .inl (by rw[<-a];exact c)
 ·rw[a] at c
  injection c with c
  exact .inr (by omega)
theorem Zdm (g:Nat):∀ (vs:List Value) (o:Nat) (w:World) (k:Nat),k≠g->(w.setCells g o vs).heap[k]?=w.heap[k]?
 | [],_,_,_,_=>rfl
 | v::r,o,w,k,h=>by
  rw[World.setCells,Zdm g r (o+1) _ k h];exact Below.heap_setCell _ _ _ _ h
theorem Mv.cells {n' c':Nat} (h:Mv w w' v (.slice (some ⟨g,0,none⟩) n c)) (o:Nat) (vs:List Value):Mv w (w'.setCells g o vs) v (.slice (some ⟨g,0,none⟩) n' c'):=by
 have d:=ZcI (B:=0) (g:=g) (a:=w') (Nat.zero_le _) vs o w' (Below.refl _ _);refine⟨⟨d.os.trans h.grown.os,d.tape.trans h.grown.tape,d.output.trans h.grown.output,Nat.le_trans h.size d.size,fun k i f=>?_⟩,fun b d=>h.lies b d⟩
 rw[Zdm g vs o w' k (fun e=>?_)]
 ·exact h.grown.block k i f
 ·rcases h.lies g rfl with h' | h'
  ·exact f (by rw[e,h'])
  ·omega
theorem Mv.made {e:Value} (h:Mv w w' v e) (X:Obj) (n c:Nat):Mv w (w'.alloc X) v (.slice (some ⟨w'.heap.size,0,none⟩) n c):=by
 have a:=(Below.refl w'.heap.size w').alloc zL X;refine⟨⟨a.os.trans h.grown.os,a.tape.trans h.grown.tape,a.output.trans h.grown.output,Nat.le_trans h.size a.size,fun k d f=>?_⟩,fun b a=>.inr ?_⟩
 ·rw[a.block k (by have:=h.size;omega)]
  exact h.grown.block k d f
 ·have:=Zrb a
  have:=h.size;omega
theorem Mv.drewN (h:Mv w w' v v') (q:Nat):Mv w (w'.drewN q) v v':=by
 have a:=ZaI (Below.refl 0 w') q;exact⟨⟨a.os.trans h.grown.os,a.tape.trans h.grown.tape,a.output.trans h.grown.output,Nat.le_trans h.size a.size,fun k b c=>by rw[ZmZ];exact h.grown.block k b c⟩,h.lies⟩
theorem ZaB.put {l:List Int} (h:ZaB w B v l) (j:Nat) (d:j<l.length) (n:Int):
 ∃ g cap,v=.slice (some ⟨g,0,none⟩) l.length cap∧w.cell? ⟨g,j,none⟩=some (.int .i64 (l.getD j 0))∧w.frozen? ⟨g,j,none⟩=false∧B<=g∧g<w.heap.size∧ZaB (w.setCell ⟨g,j,none⟩ (.int .i64 n)) B v (l.set j n)∧Mv w (w.setCell ⟨g,j,none⟩ (.int .i64 n)) v v:=by
 rcases h.row with ⟨_,a⟩ | ⟨g,cap,cur,rfl,a,p,b,m,t,q,k⟩
 ·subst a;simp at d
 ·refine⟨g,cap,rfl,?_,frozen_of_row w g j _ _ b,a,p,?_,(Mv.refl w (.slice (some ⟨g,0,none⟩) l.length cap)).cells j [_]⟩
  ·rw[cell_of_row w g j _ _ _ b]
   exact k j d
  ·have e:l.length=(l.set j n).length:=by simp
   rw[e];refine ZaB.ofRow a (heap_setCell_same w g j _ _ _ b) (by rw[<-e];exact m) t (by simpa using q) (fun i c=>?_)
   rw[<-e] at c;by_cases f:i=j
   ·subst f
    have:i<cur.size:=by omega
    simp[this,List.getD,c]
   ·have u:¬ j=i:=fun h=>f h.symm
    have:=k i c;simp[u,this,List.getD]
theorem ZiH (v:Value) (l:List Int) (w:World) (k:RdI w v l) (n:l.length<=1000000):
 Calls prog 39 #[v] w fun e w'=>∃ v',e=.returned v'∧ZaB w' w.heap.size v' l∧Below w.heap.size w w':=by
 obtain⟨ao,cap,rfl,t,q,m,p,g⟩:=k
 cases ao with
 | none=>
  have i:=m rfl;have c:l=[]:=eq_nil_of_length_eq_zero (by omega)
  subst c;refine Calls.mono (Any.slices_Clone_int_nil ZwX _ cap w) ?_;rintro e w' ⟨rfl,rfl⟩;exact⟨_,rfl,ZaB.nil _ _,Below.refl _ _⟩
 | some a=>
  by_cases c:l=[]
  ·subst c
   refine Calls.mono (Any.slices_Clone_int_zero ZwX a cap w) ?_;rintro e w' ⟨v',rfl,d,_,h⟩;exact⟨v',rfl,d,h⟩
  ·rcases g with g | ⟨b,j,f,i⟩
   ·exact absurd g c
   ·injection f with f
    subst f;refine Calls.mono (Any.slices_Clone_int ZwX b j l.length cap l w zL (by omega) i) ?_
    rintro e w' ⟨v',rfl,d,_,h⟩;refine⟨v',rfl,?_,h⟩;rw[take_length] at d;exact d
theorem ZuG (i:Value) (A:List Int) (f:Value) (B:List Int) (w:World) (C:RdI w i A) (t:RdI w f B):
 Calls prog 89 #[i,f] w fun e w'=>e=.returned (.bool (decide (A=B)))∧Below w.heap.size w w':=by
 obtain⟨ao,cap,rfl,K,z,L,I,b⟩:=C;obtain⟨g,a,rfl,J,u,G,E,d⟩:=t;by_cases j:A.length=B.length
 ·by_cases c:A.length=0
  ·have l:A=[]:=eq_nil_of_length_eq_zero c
   have k:B=[]:=eq_nil_of_length_eq_zero (by omega)
   subst l;subst k;refine Calls.mono (Any.slices_Equal_int_empty ZCq ao g cap 0 a w (by omega)) ?_
   rintro e w' ⟨rfl,rfl⟩;exact⟨rfl,Below.refl _ _⟩
  ·rcases b with b | ⟨v,y,rfl,m⟩
   ·rw[b] at c;simp at c
   rcases d with d | ⟨n,x,rfl,p⟩
   ·have D:B.length=0:=by rw[d];rfl
    omega
   have F:cap<=9223372036854775807:=by unfold maxLen at z;omega
   have H:a<=9223372036854775807:=by unfold maxLen at u;omega
   refine Calls.mono (Any.slices_Equal_int ZCq v y A.length cap n x B.length a A B w zL zL (by omega) (by omega) m p) ?_
   rintro e w' ⟨rfl,q,rfl⟩;refine⟨?_,ZaI (Below.refl _ _) q⟩;rw[take_length,take_length];by_cases h:A=B
   ·rw[decide_eq_true h,beq_iff_eq.2 h]
   ·rw[decide_eq_false h,beq_eq_false_iff_ne.2 h]
 ·refine Calls.mono (Any.slices_Equal_int_lens ZCq ao g A.length cap B.length a w j) ?_
  rintro e w' ⟨rfl,rfl⟩;exact⟨by rw[decide_eq_false (fun h=>j (by rw[h]))],Below.refl _ _⟩
theorem ZkT (v:Value) (l:List Int) (B:Nat) (w:World) (x:ZaB w B v l) (i j:Nat) (z:i<j) (c:j<=l.length) (I J:Int) (h:I=i) (m:J=j):
 Calls prog 210 #[v,.int .i64 I,.int .i64 J] w fun e w'=>∃ v',e=.returned v'∧ZaB w' B v' (l.take i++l.drop j)∧Mv w w' v v':=by
 subst h;subst m;rcases x.row with ⟨_,p⟩ | ⟨g,cap,cur,rfl,d,A,b,u,t,f,y⟩
 ·subst p;simp at c;omega
 ·unfold maxLen at t
  refine Calls.mono (Any.slices_Delete_int_cells ZBF g 0 l.length cap i j l w zL u (by omega) (by omega) c
   (fun k a=>by rw[Nat.zero_add,cell_of_row w g k _ _ _ b];exact y k a) (fun k a=>by rw[Nat.zero_add];exact frozen_of_row w g k _ _ b)) ?_
  rintro e w' ⟨rfl,q,rfl⟩;refine⟨_,rfl,?_,((Mv.refl w (.slice (some ⟨g,0,none⟩) l.length cap)).drewN q).cells _ _⟩;have n:(l.take i++l.drop j).length=l.length-(j-i):=by simp;omega
  rw[<-n];refine ZaB.ofRow d (ZaH g _ _ _ _ cur (by rw[ZmZ];exact b)) (by omega) (by unfold maxLen;omega) (by rw[ZaG];exact f) (fun k a=>?_)
  rw[Zbg _ _ _ _ (by omega),take_length,if_pos (by simp at a ⊢;omega),Nat.sub_zero,List.map_append,List.getElem?_append_left (by simpa using a)]
  exact Zbu _ k a
theorem get3 {α:Type} (A vs:List α) (i:Nat) (d:i<=A.length) (j:Nat):(A.take i++(vs++A.drop i))[j]?=if j<i then A[j]? else if j<i+vs.length then vs[j-i]? else A[j-vs.length]?:=by
 have c:(A.take i).length=i:=by simp;omega
 by_cases a:j<i
 ·rw[if_pos a,List.getElem?_append_left (by omega),List.getElem?_take_of_lt a]
 ·rw[if_neg a,List.getElem?_append_right (by omega),c]
  by_cases b:j<i+vs.length
  ·rw[if_pos b,List.getElem?_append_left (by omega)]
  ·rw[if_neg b,List.getElem?_append_right (by omega),List.getElem?_drop]
   congr 1
   omega
theorem ZfZ (A B:List Int):Zal (A++B)=Zal A++Zal B:=by simp[Zal]
theorem Zoe (A:List Int) (i:Nat):Zal (A.take i)=(Zal A).take i:=by simp[Zal]
theorem Zof (A:List Int) (i:Nat):Zal (A.drop i)=(Zal A).drop i:=by simp[Zal]
theorem ZhL (l:List Int) (i:Nat) (b:i<=l.length) (x y:Int) (j:Nat) (a:j<(l.take i++([x,y]++l.drop i)).length):
 some (.int .i64 ((l.take i++([x,y]++l.drop i)).getD j 0))=if j<i then(Zal l)[j]? else if j<i+2 then[Value.int .i64 x,.int .i64 y][j-i]? else(Zal l)[j-2]?:=by
 rw[<-Zbu _ j a,ZfZ,ZfZ,Zoe,Zof];exact get3 (Zal l) (Zal [x,y]) i (by rw[Zbm];exact b) j
theorem ZrB (v:Value) (l:List Int) (B:Nat) (w:World) (ho:ZaB w B v l) (hB:B<=w.heap.size) (ag:l.length<=1000000) (i:Nat) (R:i<=l.length) (I:Int) (hI:I=i) (x y:Int) (N:Nat) (hN:N=w.heap.size):
 Calls prog 212 #[v,.int .i64 I,.slice (some ⟨N,0,none⟩) 2 2] (w.alloc (.cells #[.int .i64 x,.int .i64 y] 3)) fun e w'=>∃ v',e=.returned v'∧ZaB w' B v' (l.take i++([x,y]++l.drop i))∧Mv w w' v v':=by
 subst hI;subst hN;have q:Mv w (w.alloc (.cells #[.int .i64 x,.int .i64 y] 3)) v v:=Mv.alloc w v _;have G:=heap_alloc_new w (.cells #[.int .i64 x,.int .i64 y] 3);have ah:(w.alloc (.cells #[.int .i64 x,.int .i64 y] 3)).heap.size=w.heap.size+1:=by simp
 have ab:∀ k,k<w.heap.size->(w.alloc (.cells #[.int .i64 x,.int .i64 y] 3)).heap[k]?=w.heap[k]?:=fun k hk=>Below.heap_alloc _ _ _ hk
 generalize w.alloc (.cells #[.int .i64 x,.int .i64 y] 3)=W at *;have f:(l.take i++([x,y]++l.drop i)).length=l.length+2:=by simp;omega
 have A:∀ j u,[Value.int .i64 x,.int .i64 y][j]?=some u->W.cell? ⟨w.heap.size,0+j,none⟩=some u:=fun j u d=>by
  rw[Nat.zero_add,cell_of_row W w.heap.size j _ _ _ G];simpa using d
 have p:∀ u ∈ [Value.int .i64 x,.int .i64 y],u.oneCell'=true:=fun u d=>by
  simp at d;rcases d with rfl | rfl <;> rfl
 have m:=Zbm l;have Z:=ZoW l;have z:(Value.int .i64 0).cells.size=1:=rfl;have O:ZmY.t 3=3:=rfl;rcases ho.row with ⟨rfl,rfl⟩ | ⟨g,cap,cur,rfl,V,ac,hg,Y,Q,M,hc⟩
 ·have ad:i=0:=by simpa using R
  subst ad;refine Calls.mono (Any2.slices_Insert_int_end_grow ZpL none 0 0 w.heap.size 0 2 2 [] [.int .i64 x,.int .i64 y] W (by omega) (by omega) (by omega) (by omega) rfl rfl (fun _=>rfl) (fun a F=>by cases F) A p) ?_
  rintro e w' ⟨rfl,rfl⟩;rw[O];have P:=grownCap_ge W (0+2) 0 3;have D:=grownCap_le_maxLen W (0+2) 0 3 (by unfold maxLen;omega)
  refine⟨_,rfl,?_,q.drew.made _ _ _⟩;have e2:0+2=([x,y]:List Int).length:=rfl;show ZaB _ B (.slice (some ⟨W.heap.size,0,none⟩) (0+2) (grownCap W (0+2) 0 3)) [x,y];generalize grownCap W (0+2) 0 3=E at *
  exact ZaB.ofRow (by omega) (heap_alloc_new W.drew _) P D (by simp[size_zeroCells,z];omega) (fun j b=>by
   have ae:j=0∨j=1:=by simp at b;omega
   rcases ae with rfl | rfl <;> (rw[Array.getElem?_append_left (by simp)];rfl))
 ·have n:W.heap[g]?=some (.cells cur 3 (0,0)):=(ab g ac).trans hg
  have K:∀ j u,(Zal l)[j]?=some u->W.cell? ⟨g,0+j,none⟩=some u:=fun j u d=>by
   have b:j<l.length:=by rw[<-m];exact(List.getElem?_eq_some_iff.1 d).1
   rw[Nat.zero_add,cell_of_row W g j _ _ _ n,hc j b,<-Zbu l j b,d]
  have S:∀ j,j<l.length->cur[j]?=(Zal l)[j]?:=fun j b=>by rw[hc j b,Zbu l j b]
  have U:cap<=9223372036854775807:=by unfold maxLen at Q;omega
  by_cases T:l.length+2<=cap
  ·have X:∀ j,j<l.length+2->(W.cell? ⟨g,0+j,none⟩).isSome=true:=fun j b=>by
    rw[Nat.zero_add,cell_of_row W g j _ _ _ n,Array.getElem?_eq_getElem (by omega)]
    rfl
   have aa:∀ j,j<l.length+2->W.frozen? ⟨g,0+j,none⟩=false:=fun j b=>frozen_of_row W g _ _ _ n
   by_cases L:i=l.length
   ·subst L
    refine Calls.mono (Any2.slices_Insert_int_end_room ZpL g 0 l.length cap w.heap.size 0 2 2 [.int .i64 x,.int .i64 y] W (by omega) T U rfl
     (fun j b=>by rw[Nat.add_assoc];exact X _ (by omega)) (fun j b=>by rw[Nat.add_assoc];exact aa _ (by omega)) A p) ?_
    rintro e w' ⟨rfl,rfl⟩;refine⟨_,rfl,?_,q.cells _ _⟩;rw[<-f];refine ZaB.ofRow V (ZaH g _ _ _ _ cur n) (by omega) Q (by rw[ZaG];exact M) (fun j b=>?_)
    rw[Zbg _ _ _ _ (by omega),ZhL l l.length zL x y j b,Nat.zero_add]
    rw[f] at b;by_cases c:j<l.length
    ·rw[if_neg (by omega),if_pos c,S j c]
    ·rw[if_pos (by simp;omega),if_neg c,if_pos (by omega)]
   ·refine Calls.mono (Any2.slices_Insert_int_shift ZpL g 0 l.length cap i w.heap.size 0 2 2 (Zal l) [.int .i64 x,.int .i64 y] W (by omega) (by omega) T U (by omega) m rfl K X aa A Z p
     3 3 2 cap (by simp[World.shape?,G]) (by simp[World.shape?,n,M]) (by omega) (frozen_of_row W _ _ _ _ G) (frozen_of_row W _ _ _ _ G)) ?_
    rintro e w' ⟨rfl,rfl⟩;refine⟨_,rfl,?_,(Mv.cells (n':=0) (c':=0) q.drew _ _).cells _ _⟩;rw[<-f];refine ZaB.ofRow V (ZaH g _ _ _ _ _ (ZaH g _ _ _ _ cur n)) (by omega) Q (by rw[ZaG,ZaG];exact M) (fun j b=>?_)
    rw[Zbg _ _ _ _ (by rw[ZaG];omega),Zbg _ _ _ _ (by omega),ZhL l i R x y j b,Nat.zero_add,Nat.zero_add]
    rw[f] at b;have J:((Zal l).drop i).length=l.length-i:=by simp[Zal]
    rw[J];by_cases c:j<i
    ·rw[if_neg (by omega),if_neg (by omega),if_pos c,S j (by omega)]
    ·by_cases C:j<i+2
     ·rw[if_pos (by simp;omega),if_neg c,if_pos C]
     ·rw[if_neg (by simp;omega),if_pos (by omega),if_neg c,if_neg C,List.getElem?_drop]
      congr 1
      omega
  ·by_cases L:i=l.length
   ·subst L
    refine Calls.mono (Any2.slices_Insert_int_end_grow ZpL (some ⟨g,0,none⟩) l.length cap w.heap.size 0 2 2 (Zal l) [.int .i64 x,.int .i64 y] W (by omega) Y (by omega) (by omega) m rfl (fun h=>by cases h)
     (fun a F j u d=>by injection F with F;subst F;rw[Addr.add_lit];exact K j u d) A p) ?_
    rintro e w' ⟨rfl,rfl⟩;rw[O];have P:=grownCap_ge W (l.length+2) cap 3;have D:=grownCap_le_maxLen W (l.length+2) cap 3 (by unfold maxLen;omega)
    refine⟨_,rfl,?_,q.drew.made _ _ _⟩;show ZaB _ B (.slice (some ⟨W.heap.size,0,none⟩) (l.length+2) (grownCap W (l.length+2) cap 3)) _;generalize grownCap W (l.length+2) cap 3=E at *;rw[<-f];refine ZaB.ofRow (by omega) (heap_alloc_new W.drew _) (by omega) D (by simp[size_zeroCells,z,m];omega) (fun j b=>?_)
    rw[ZhL l l.length zL x y j b];rw[f] at b;rw[Array.getElem?_append_left (by simp[m];omega),List.getElem?_toArray]
    by_cases c:j<l.length
    ·rw[if_pos c,List.getElem?_append_left (by omega)]
    ·rw[if_neg c,if_pos (by omega),List.getElem?_append_right (by omega),m]
   ·refine Calls.mono (Any2.slices_Insert_int_grow ZpL g 0 l.length cap i w.heap.size 0 2 2 (Zal l) [.int .i64 x,.int .i64 y] W (by omega) (by omega) Y (by omega) (by omega) m rfl K A Z p) ?_
    rintro e w' ⟨rfl,rfl⟩;rw[O];have P:=grownCap_ge W (l.length+2) cap 3;have D:=grownCap_le_maxLen W (l.length+2) cap 3 (by unfold maxLen;omega)
    refine⟨_,rfl,?_,((q.made _ 0 0).drew.cells (n':=0) (c':=0) _ _).drew.cells _ _⟩;show ZaB _ B (.slice (some ⟨W.heap.size,0,none⟩) (l.length+2) (grownCap W (l.length+2) cap 3)) _;generalize grownCap W (l.length+2) cap 3=E at *;have H:((Zal l).take i).length=i:=by simp[m];omega
    have J:((Zal l).drop i).length=l.length-i:=by simp[Zal]
    refine ZaB.ofRowN f.symm (cur:=Zim (Zim (((Zal l).take i).toArray++Builtin.zeroCells (Value.int .i64 0).cells (l.length+2-i)++Builtin.zeroCells (Value.int .i64 0).cells (E-(l.length+2))) i [.int .i64 x,.int .i64 y]) (i+2) ((Zal l).drop i)) (by omega) (ZaH _ _ _ _ _ _ (ZaH _ _ _ _ _ _ (heap_alloc_new W _))) (by omega) D ?_ (fun j b=>?_)
    ·rw[ZaG,ZaG]
     simp[size_zeroCells,z,H];omega
    ·rw[ZhL l i R x y j b]
     rw[f] at b
     have af:(((Zal l).take i).toArray++Builtin.zeroCells (Value.int .i64 0).cells (l.length+2-i)++Builtin.zeroCells (Value.int .i64 0).cells (E-(l.length+2))).size=E:=by
      simp[size_zeroCells,z,H];omega
     rw[Zbg _ _ _ _ (by rw[ZaG];omega),Zbg _ _ _ _ (by omega),J]
     by_cases c:j<i
     ·rw[if_neg (by omega),if_neg (by omega),if_pos c,Array.getElem?_append_left (by simp[size_zeroCells,z,H];omega),Array.getElem?_append_left (by simp[H];omega),List.getElem?_toArray,List.getElem?_take_of_lt c]
     ·by_cases C:j<i+2
      ·rw[if_neg (by omega),if_pos (by simp;omega),if_neg c,if_pos C]
      ·rw[if_pos (by omega),if_neg c,if_neg C,List.getElem?_drop]
       congr 1
       omega
theorem Zbt.row (h:Zbt w B v l):(v=.slice none 0 0∧l=[])∨
 ∃ g cap cur,v=.slice (some ⟨g,0,none⟩) l.length cap∧B<=g∧g<w.heap.size∧w.heap[g]?=some (.cells cur 85 (0,0))∧l.length<=cap∧cap<=maxLen∧cur.size=cap*3∧∀ j,j<l.length*3->cur[j]?=(Zag l)[j]?:=by
 rcases h.2 with ⟨a,m⟩ | ⟨g,cap,cur,a,k,b,i,n,f,d⟩
 ·have e:l=[]:=eq_nil_of_length_eq_zero m
  subst e;exact .inl ⟨a,rfl⟩
 ·refine .inr ⟨g,cap,cur,a,k,(Array.getElem?_eq_some_iff.1 b).1,b,i,n,f,fun j c=>?_⟩
  rw[<-d,List.getElem?_take_of_lt c,Array.getElem?_toList]
theorem Zbt.ofRow (f:n=l.length) (b:B<=g) (e:w.heap[g]?=some (.cells cur 85 (0,0))) (d:l.length<=cap) (c:cap<=maxLen) (h:cur.size=cap*3) (i:∀ j,j<l.length*3->cur[j]?=(Zag l)[j]?):
 Zbt w B (.slice (some ⟨g,0,none⟩) n cap) l:=by
 subst f;refine⟨by rw[Zax],.inr ⟨g,cap,cur,rfl,b,e,d,c,h,?_⟩⟩
 apply List.ext_getElem?;intro j;by_cases a:j<l.length*3
 ·rw[List.getElem?_take_of_lt a,Array.getElem?_toList]
  exact i j a
 ·rw[List.getElem?_eq_none (by simp;omega),List.getElem?_eq_none (by rw[Zax];omega)]
theorem Zbt.empty (w:World) (B:Nat) (b:B<=w.heap.size):Zbt (w.alloc (.cells #[] 85)) B (.slice (some ⟨w.heap.size,0,none⟩) 0 0) []:=
 Zbt.ofRow (l:=[]) rfl b (heap_alloc_new w _) zL (Nat.zero_le _) rfl (fun j a=>absurd a (by simp))
theorem Zft:∀ (l:List Ent) (i:Nat),Zag (l.take i)=(Zag l).take (i*3)
 | l,0=>by simp[Zag]
 | [],i+1=>by simp[Zag]
 | x::t,i+1=>by
  rw[List.take_succ_cons,show(i+1)*3=i*3+1+1+1 by omega]
  show Value.int .i64 x.proc::.int .i64 x.seq::.int .i64 x.resp::Zag (t.take i)=(Value.int .i64 x.proc::.int .i64 x.seq::.int .i64 x.resp::Zag t).take (i*3+1+1+1);rw[Zft t i];rfl
theorem Zfu:∀ (l:List Ent) (i:Nat),Zag (l.drop i)=(Zag l).drop (i*3)
 | l,0=>by simp
 | [],i+1=>by simp[Zag]
 | x::t,i+1=>by
  rw[List.drop_succ_cons,show(i+1)*3=i*3+1+1+1 by omega]
  show Zag (t.drop i)=(Value.int .i64 x.proc::.int .i64 x.seq::.int .i64 x.resp::Zag t).drop (i*3+1+1+1);rw[Zfu t i];rfl
theorem Zbt.cut (h:Zbt w B (.slice (some ⟨g,0,none⟩) n cap) l) (i:Nat) (q:i<=l.length):Zbt w B (.slice (some ⟨g,0,none⟩) i cap) (l.take i):=by
 rcases h.row with ⟨a,-⟩ | ⟨g',p,cur,a,c,m,d,t,k,e,f⟩
 ·cases a
 ·injection a with a h2 h3
  injection a with a
  injection a with a
  subst a h3
  exact Zbt.ofRow (by rw[length_take];omega) c d (by rw[length_take];omega) k e (fun j b=>by
   rw[length_take] at b
   rw[f j (by omega),Zft,List.getElem?_take_of_lt (by omega)])
theorem Zbt.cells (h:Zbt w B (.slice (some ⟨g,0,none⟩) n cap) l) (o:Nat) (q:l.length*3<=o) (vs:List Value):Zbt (w.setCells g o vs) B (.slice (some ⟨g,0,none⟩) n cap) l:=by
 rcases h.row with ⟨a,-⟩ | ⟨g',p,cur,a,c,m,d,k,i,e,f⟩
 ·cases a
 ·injection a with a h2 h3
  injection a with a
  injection a with a
  subst a h3
  exact Zbt.ofRow h2 c (ZaH g _ vs o w cur d) k i (by rw[ZaG];exact e) (fun j b=>by
   rw[Zbg _ _ _ _ (by omega),if_neg (by omega)]
   exact f j b)
theorem Zbt.put (h:Zbt w B (.slice (some ⟨g,0,none⟩) n cap) l) (i:Nat) (x:i<l.length) (e:Ent):Zbt (w.setCells g (i*3) (Zag [e])) B (.slice (some ⟨g,0,none⟩) n cap) (l.set i e):=by
 rcases h.row with ⟨a,-⟩ | ⟨g',A,cur,a,f,z,m,y,v,p,u⟩
 ·cases a
 ·injection a with a h2 h3
  injection a with a
  injection a with a
  subst a h3;have t:(Zag [e]).length=3:=Zax [e];refine Zbt.ofRow (by rw[length_set];exact h2) f (ZaH g _ _ _ w cur m) (by rw[length_set];exact y) v (by rw[ZaG];exact p) (fun j d=>?_)
  rw[length_set] at d;obtain⟨q,k,b,rfl⟩:∃ q k,k<3∧j=q*3+k:=⟨j / 3,j % 3,Nat.mod_lt _ (by decide),by omega⟩
  rw[Zbg _ _ _ _ (by omega),t,Zbw (l.set i e) q k (by rw[length_set];omega) b]
  by_cases c:q=i
  ·subst c
   rw[if_pos (by omega),show q*3+k-q*3=0*3+k by omega,Zbw [e] 0 k (by simp) b]
   congr 2
   simp[List.getD,x]
  ·rw[if_neg (by omega),u _ (by omega),Zbw l q k (by omega) b]
   congr 2
   have:¬ i=q:=fun h=>c h.symm
   simp[List.getD,this]
theorem RdE.cells {a:Addr} (h:RdE w (.slice (some a) n cap) l):∀ j u,(Zag l)[j]?=some u->w.cell? (a.add j)=some u:=by
 obtain⟨ao,c,g,B,y,C,z,e⟩:=h
 injection g with g _ _
 subst g;intro j u d;have i:j<l.length*3:=by rw[<-Zax];exact(List.getElem?_eq_some_iff.1 d).1
 rcases e with e | ⟨b,A,f,v⟩
 ·rw[e] at i
  simp at i
 ·injection f with f
  subst f;obtain⟨q,k,m,rfl⟩:∃ q k,k<3∧j=q*3+k:=⟨j / 3,j % 3,Nat.mod_lt _ (by decide),by omega⟩
  rw[Zbw l q k (by omega) m] at d
  obtain⟨x,p,t⟩:=v q (by omega)
  rw[Addr.add_lit,<-Nat.add_assoc]
  match k,m with
  | 0,_=>exact x.trans d
  | 1,_=>exact p.trans d
  | 2,_=>exact t.trans d
theorem ZkU (w:World) (ty:TypeId) (B:Nat) (v:Value) (l:List Ent) (h:Zbt w B v l) (d:Value) (m:List Ent) (g:RdE w d m) (A:l.length+m.length<=1000000) (c:B<=w.heap.size):
 ∃ v' w',(Builtin.append_ #[39,39] ty #[v,d]).run prog w=.ok v' w'∧Zbt w' B v' (l++m)∧Below B w w':=by
 obtain⟨f,e,z,i,n⟩:=info_parts ZjT;have q:=g;obtain⟨ao,cap,rfl,F,E,y,C,D⟩:=g
 cases ao with
 | none=>
  have x:=y rfl;subst x;have t:m=[]:=eq_nil_of_length_eq_zero (by omega)
  subst t;have b:=run_append_owned_none (P:=prog) w B 39 ty 85 f 3 underlying39 e v l.length (Zag l) h;exact⟨v,w,b,by rw[append_nil];exact h,Below.refl _ _⟩
 | some a=>
  obtain⟨v',w',b,u,j,_⟩:=run_append_own (P:=prog) w B 39 ty 85 f _ 3 24 underlying39 e z i n rfl (by decide) v l.length (Zag l) h
   a m.length cap (Zag m) (Zax m) q.cells (ZcH m) (by unfold maxLen;omega) (by omega) c
  refine⟨v',w',b,?_,?_⟩
  ·unfold Zbt
   rw[length_append,Zdt];exact u
  ·exact(Below.refl _ _).grown j c (fun k p=>(World.ownsRow.lt h k p).1)
theorem ZcX (w:World) {c:Array Oper} {rest:List Oper} {o:Oper} {a:Act} {Q:Exit->Act->World->Prop} (p:o.guard=none) (s x:Operand)
 (u:o.op=.call { callee:=.builtin .append,args:=#[s,x],argTypes:=#[39,39] })
 (B:Nat) (v:Value) (l:List Ent) (f:a.eval s=v) (q:Zbt w B v l) (b:Value) (m:List Ent) (j:a.eval x=b) (t:RdE w b m)
 (d:l.length+m.length<=1000000) (k:B<=w.heap.size)
 (h:∀ v' w',Zbt w' B v' (l++m)->Below B w w'->wpList prog c Q rest (a.put o.dst v') w'):wpList prog c Q (o::rest) a w:=
 wpList_plain p fun _ e=>by
  obtain⟨v',w',i,n,g⟩:=ZkU w o.type B v l q b m t d k;unfold Oper.wp execOp;simp only [u,resolve,invoke,builtin,Sem.run_bind,Sem.run_pure,Result.andThen_ok,List.map_toArray,map_cons,map_nil,f,j,i];exact e _ _ (h v' w' n g)
theorem ZiI (v:Value) (l:List Ent) (w:World) (f:RdE w v l) (p:l.length<=1000000):
 Calls prog 40 #[v] w fun e w'=>∃ v',e=.returned v'∧Zbt w' w.heap.size v' l∧Below w.heap.size w w':=by
 have h:=ZZ f;obtain⟨ao,cap,rfl,m,-,b,-⟩:=f
 cases ao with
 | none=>
  obtain rfl:cap=0:=b rfl;obtain rfl:l=[]:=eq_nil_of_length_eq_zero (by omega)
  clear b m;have j:∀ w,(binOp .eql 39 (.slice none 0 0) (.slice none 0 0)).run prog w=.ok (.bool true) w:=fun w=>run_eql_slice_nil w _ _ none 0 0 underlying39
  go_enter func40,ntmps40
  go_wp2;go_ret;exact⟨_,rfl,Zbt.nil _ _,Below.refl _ _⟩
 | some a=>
  clear b;have j:∀ w,(binOp .eql 39 (.slice (some a) l.length cap) (.slice none 0 0)).run prog w=.ok (.bool false) w:=fun w=>run_eql_slice_nil w _ _ (some a) _ _ underlying39
  have d:Hid (∀ X,Below w.heap.size w (w.alloc X)):=fun X=>(Below.refl _ _).alloc zL X
  have k:Hid (Zbt (w.alloc (.cells #[] 85)) w.heap.size (.slice (some ⟨w.heap.size,0,none⟩) 0 0) []):=ZZ (Zbt.empty w _ zL)
  go_enter func40,ntmps40
  go_wp2_with(at_builtin;refine ZcX _ rfl _ _ rfl w.heap.size _ [] rfl k.o _ l rfl (h.o.below (d.o _) zL) (by simp;omega) (by simp) ?_)
  intro t q c g;have n:=ZZ c;have i:=ZZ ((d.o _).trans g);clear c g;go_wp2;go_ret;exact⟨_,rfl,n.o,i.o⟩
def ZAm (p:Ent->Bool) (l:List Ent) (k:Int):Prop:=(k=-1∧∀ j,j<l.length->p (l.getD j ZaP)=false)∨∃ i:Nat,k=(i:Int)∧i<l.length∧(∀ j,j<i->p (l.getD j ZaP)=false)∧p (l.getD i ZaP)=true
theorem ZgF (g R:Nat) (p:Ent->Bool) (v:Value) (l:List Ent) (w:World) (I:RdE w v l)
 (U:∀ args W,(callFunc g args).run prog W=.ok (.enter g args) W)
 (J:∀ W e,Below w.heap.size w W->Calls prog g #[ZuC e,.pointer (some ⟨R,0,none⟩)] W fun x w'=>x=.returned (.bool (p e))∧Below W.heap.size W w'):
 Calls prog 87 #[v,.func (.func g) #[] #[.pointer (some ⟨R,0,none⟩)]] w fun x w'=>∃ k:Int,x=.returned (.int .i64 k)∧ZAm p l k∧Below w.heap.size w w':=by
 have M:=ZZ I;have C:=ZZ J;obtain⟨Z,vc,rfl,P,K,-,-,D⟩:=I;have H:=ZZ D;have Y:(l.length:Int)<=9223372036854775807:=by unfold maxLen at K;omega
 clear J P K D
 go_enter func87,ntmps87
 go_wp2
 go_loopw[8] (fun i wr=>∃ q:Nat,i=.int .i64 (q:Int)∧q<=l.length∧Hid (∀ j,j<q->p (l.getD j ZaP)=false)∧Hid (Below w.heap.size w wr)) (fun i _=>l.length-(intOf i).toNat)
 case atStart=>exact⟨0,rfl,Nat.zero_le _,ZZ (fun j f=>absurd f (Nat.not_lt_zero _)),Below.refl _ _⟩
 case round=>
  obtain⟨q,rfl,hq,t,c⟩:=hrel;by_cases d:q<l.length
  case neg=>
   obtain rfl:q=l.length:=by omega
   go_wp2;go_ret;exact⟨-1,rfl,.inl ⟨rfl,t.out⟩,c.out⟩
  have S:(q:Int)<(l.length:Int):=by omega
  rcases H.o with O | ⟨b,X,rfl,u⟩
  ·rw[O] at d;simp at d
  obtain⟨G,z,A⟩:=(u q d).keep (c.out.block b (u q d).lt);have a:=ZZ (C.o wr (l.getD q ZaP) c.out);have N:Hid (∀ j,j<q+1->j=q∨j<q):=ZZ (fun j f=>by omega)
  obtain⟨e,m⟩:∃ e,e=l.getD q ZaP:=⟨_,rfl⟩;rw[<-m] at a G z A;have F:=ZZ m;obtain⟨y,n⟩:∃ y,y=p e:=⟨_,rfl⟩;rw[<-n] at a;have E:=ZZ n;clear m u C H M n;unfold ZuC at a;obtain⟨ep,T,V⟩:=e;simp only at a G z A
  go_wp2_with fail
  refine a.o.mono ?_;rintro x Q ⟨rfl,L⟩;have B:=ZZ (c.out.trans (L.mono c.out.size));clear L a
  cases y with
  | true=>
   go_wp2;go_ret;exact⟨(q:Int),rfl,.inr ⟨q,rfl,d,t.out,by rw[<-F.o];exact E.o.symm⟩,B.o⟩
  | false=>
   go_wp2;go_roundw
   case rel=>exact⟨q+1,by go_num,by omega,ZZ (fun j f=>by
    rcases N.o j f with h | h
    ·rw[h,<-F.o];exact E.o.symm
    ·exact t.out j h),B⟩
   case measure=>simp[intOf];omega
theorem Zhb (p:Ent->Bool) (l:List Ent) (j:Nat) (a:j<l.length):(l.take (j+1)).filter (fun e=>!p e)=(l.take j).filter (fun e=>!p e)++if p (l.getD j ZaP)=true then[] else[l.getD j ZaP]:=by
 have b:l.take (j+1)=l.take j++[l.getD j ZaP]:=by
  rw[take_add_one,List.getElem?_eq_getElem a];simp[List.getD,a]
 rw[b,List.filter_append]
 congr 1
 generalize l.getD j ZaP=x
 cases h:p x <;> simp[h]
theorem ZkV (p:Ent->Bool) (l:List Ent) (i:Nat) (c:i<=l.length) (h:∀ j,j<i->p (l.getD j ZaP)=false):(l.take i).filter (fun e=>!p e)=l.take i:=by
 rw[List.filter_eq_self];intro e b;obtain⟨j,a,rfl⟩:=List.getElem_of_mem b;rw[length_take] at a;have:=h j (by omega)
 rw[List.getElem_take];simp only [List.getD,List.getElem?_eq_getElem (show j<l.length by omega),Option.getD_some] at this
 simp[this]
def ZjE (p:Ent->Bool) (l L:List Ent) (i j:Nat):Prop:=L.length=l.length∧L.take i=(l.take j).filter (fun e=>!p e)∧L.drop j=l.drop j∧i<j
theorem ZjE.start {p:Ent->Bool} (b:i<l.length) (h:∀ j,j<i->p (l.getD j ZaP)=false) (a:p (l.getD i ZaP)=true):ZjE p l l i (i+1):=by
 refine⟨rfl,?_,rfl,Nat.lt_succ_self _⟩;rw[Zhb p l i b,if_pos a,append_nil,ZkV p l i (by omega) h]
theorem ZjE.at {p:Ent->Bool} (h:ZjE p l L i j):L.getD j ZaP=l.getD j ZaP:=by
 obtain⟨f,d,a,e⟩:=h;have c:(L.drop j).getD 0 ZaP=L.getD j ZaP:=by simp[List.getD]
 have b:(l.drop j).getD 0 ZaP=l.getD j ZaP:=by simp[List.getD]
 rw[<-c,<-b,a]
theorem ZpM (h:L.drop j=l.drop j):L.drop (j+1)=l.drop (j+1):=by
 rw[<-drop_drop,<-drop_drop,h]
theorem ZjE.skip {p:Ent->Bool} (h:ZjE p l L i j) (b:j<l.length) (d:p (l.getD j ZaP)=true):ZjE p l L i (j+1):=by
 obtain⟨e,c,a,f⟩:=h;refine⟨e,?_,ZpM a,by omega⟩
 rw[Zhb p l j b,if_pos d,append_nil,c]
theorem ZjE.keep {p:Ent->Bool} (h:ZjE p l L i j) (b:j<l.length) (d:p (l.getD j ZaP)=false):ZjE p l (L.set i (l.getD j ZaP)) (i+1) (j+1):=by
 obtain⟨e,c,a,f⟩:=h;refine⟨by rw[length_set,e],?_,?_,by omega⟩
 ·rw[Zhb p l j b,if_neg (by rw[d];simp),<-c,take_add_one,List.take_set_of_le zL]
  congr 1
  rw[List.getElem?_set_self (by omega)]
  rfl
 ·rw[List.drop_set_of_lt (by omega)]
  exact ZpM a
theorem Zbt.put3 (h:Zbt w B (.slice (some ⟨g,0,none⟩) n cap) l) (i:Nat) (f:i<l.length) (p s r:Int) (a b c:Nat) (j:a=i*3) (e:b=i*3+1) (d:c=i*3+2):
 Zbt (((w.setCell ⟨g,a,none⟩ (.int .i64 p)).setCell ⟨g,b,none⟩ (.int .i64 s)).setCell ⟨g,c,none⟩ (.int .i64 r)) B (.slice (some ⟨g,0,none⟩) n cap) (l.set i ⟨p,s,r⟩):=by
 subst j e d;exact h.put i f ⟨p,s,r⟩
theorem Zbt.ent (h:Zbt w B (.slice (some ⟨g,0,none⟩) n cap) l) (i:Nat) (m:i<l.length):ZpF w g (i*3) (l.getD i ZaP)∧(∀ k,w.frozen? ⟨g,k,none⟩=false)∧B<=g∧l.length<=cap∧cap<=maxLen∧n=l.length:=by
 rcases h.row with ⟨a,-⟩ | ⟨g',u,cur,a,d,q,c,p,j,t,f⟩
 ·cases a
 ·injection a with a h2 h3
  injection a with a
  injection a with a
  subst a h3
  have b:∀ k,k<3->w.cell? ⟨g,i*3+k,none⟩=(ZfM (l.getD i ZaP))[k]?:=fun k e=>by
   rw[cell_of_row w g (i*3+k) _ _ _ c,f _ (by omega),Zbw l i k m e]
  exact⟨⟨b 0 (by decide),b 1 (by decide),b 2 (by decide)⟩,fun k=>frozen_of_row w g k _ _ c,d,p,j,h2⟩
theorem ZrC {b:World} (h:Below C b w) (R:Nat) (a:C<=R) (c d e:Nat) (f i g:Value):Below C b (((w.setCell ⟨R,c,none⟩ f).setCell ⟨R,d,none⟩ i).setCell ⟨R,e,none⟩ g):=
 ((h.setCell a _).setCell a _).setCell a _
theorem Zog (w:World):(zeroValue 85).run prog w=.ok (.agg #[.int .i64 0,.int .i64 0,.int .i64 0]) w:=Tryz.zeroValue85 w
theorem ZkW (g R:Nat) (p:Ent->Bool) (v:Value) (l:List Ent) (B:Nat) (w:World) (E:Zbt w B v l) (hI:∀ e ∈ l,Zod e) (J:B<=w.heap.size) (ar:l.length<=1000000)
 (eg:∀ args W,(callFunc g args).run prog W=.ok (.enter g args) W)
 (O:∀ W e,Below B w W->Calls prog g #[ZuC e,.pointer (some ⟨R,0,none⟩)] W fun x w'=>x=.returned (.bool (p e))∧Below W.heap.size W w'):
 Calls prog 86 #[v,.func (.func g) #[] #[.pointer (some ⟨R,0,none⟩)]] w fun x w'=>∃ v',x=.returned v'∧Zbt w' B v' (l.filter (fun e=>!p e))∧Below B w w':=by
 have HO:=ZZ E;have HP:=ZZ O;have Z:=ZZ (ZgF g R p v l w (E.rd hI) eg (fun W e h=>O W e (h.mono J)))
 obtain⟨va,c,hv⟩:=E.shape;subst hv;clear E O
 go_enter func86,ntmps86
 go_wp2_with fail
 refine Z.o.mono ?_;rintro x W0 ⟨k,rfl,a,T⟩;have N:=ZZ (T.mono J);have H:=ZZ (HO.o.below T zL);clear Z T HO;rcases a with ⟨rfl,a⟩ | ⟨V,rfl,I,a,ah⟩
 ·have HE:Hid (l.filter (fun e=>!p e)=l):=ZZ (by
   have:=ZkV p l l.length zL a
   rwa [take_length] at this)
  clear a;go_wp2;go_ret;exact⟨_,rfl,by rw[HE.o];exact H.o,N.o⟩
 have ab:=ZZ (ZjE.start I a ah);clear a ah;rcases H.o.row with ⟨-,h2⟩ | ⟨n,cap,cur,K,aa,-,-,ap,ai,-,-⟩
 ·rw[h2] at I;simp at I
 injection K with K _ h3
 subst K h3;have av:(l.length:Int)<=1000000:=by omega
 clear cur ai;have ei:((V:Int) == -1)=false:=beq_eq_false_iff_ne.2 (by omega)
 go_wp2
 go_loopw[5,6] (fun v5 U wr=>∃ (i j:Nat) (L:List Ent),v5=.int .i64 (i:Int)∧U=.int .i64 (j:Int)∧i<j∧j<=l.length∧Hid (Zbt wr B (.slice (some ⟨n,0,none⟩) l.length c) L)∧Hid (ZjE p l L i j)∧Hid (Below B w wr)) (fun _ U _=>l.length-(intOf U).toNat)
 case atStart=>exact⟨V,V+1,l,rfl,by go_num,by omega,by omega,H,ab,N⟩
 case round=>
  clear H ab N ei;obtain⟨i,j,L,rfl,rfl,ak,ax,t,b,y⟩:=hrel;by_cases ad:j<l.length
  case neg=>
   obtain rfl:j=l.length:=by omega
   have hL:L.length=l.length:=b.out.1;have HT:Hid (L.take i=l.filter (fun e=>!p e)):=ZZ (by rw[b.out.2.1,take_length])
   have hE:=(t.out.ent i (by omega)).2.1
   have HK:Hid (∀ ty,(Builtin.clear_ #[39] ty #[.slice (some ⟨n,i*3,none⟩) (l.length-i) (c-i)]).run prog wr=.ok (.tuple #[]) (wr.setCells n (i*3) (Zez (l.length-i)))):=ZZ (fun ty=>
    ZkR wr _ _ _ underlying39 Zog n (i*3) (l.length-i) (c-i) (by omega) (fun k hk=>by
     obtain⟨q,r,hr,rfl⟩:∃ q r,r<3∧k=q*3+r:=⟨k / 3,k % 3,Nat.mod_lt _ (by decide),by omega⟩
     have:=(t.out.ent (i+q) (by omega)).1
     rw[show i*3+(q*3+r)=(i+q)*3+r by omega]
     match r,hr with
     | 0,_=>rw[show(i+q)*3+0=(i+q)*3 from rfl,this.1];rfl
     | 1,_=>rw[this.2.1];rfl
     | 2,_=>rw[this.2.2];rfl) (fun k _=>hE _))
   have ag:=ZZ ((t.out.cut i (by omega)).cells (i*3) (by rw[length_take];omega) (Zez (l.length-i)))
   rw[HT.o] at ag;have aj:=ZZ (ZcI aa (Zez (l.length-i)) (i*3) wr y.out);have ay:¬ (c=i):=by omega
   have u:(i:Int)<=(l.length:Int):=by omega
   have az:(i:Int)<=(c:Int):=by omega
   have al:i<=l.length:=by omega
   have aw:i<=c:=by omega
   clear hE;have hK:=HK.o;go_wp2;go_ret;exact⟨_,rfl,ag.o,aj.o⟩
  have am:(j:Int)<(l.length:Int):=by omega
  have an:L.length=l.length:=b.out.1;obtain⟨⟨G,C,A⟩,-,-⟩:=t.out.ent j (by omega)
  rw[b.out.at] at G C A;have Q:=ZZ (b.out.skip ad);have F:=ZZ (b.out.keep ad);obtain⟨e,he⟩:∃ e,e=l.getD j ZaP:=⟨_,rfl⟩;rw[<-he] at G C A Q F;obtain⟨P,ac⟩:∃ P,P=p e:=⟨_,rfl⟩;have z:=ZZ (fun W h=>HP.o W e h)
  rw[<-ac] at z Q F;obtain⟨d,f,m⟩:=e;unfold ZuC at z;simp only at z G C A F;clear he ac b;have S:Hid (∀ X,Below B w (wr.alloc X)):=ZZ (fun X=>y.out.alloc (Nat.le_trans J y.out.size) X)
  have HX:Hid (Be (wr.alloc (.cells #[.int .i64 d,.int .i64 f,.int .i64 m] 85)) wr.heap.size #[.int .i64 d,.int .i64 f,.int .i64 m]):=ZZ (heap_alloc_new wr _);have af:Hid (∀ X,Zbt (wr.alloc X) B (.slice (some ⟨n,0,none⟩) l.length c) L):=ZZ (fun X=>t.out.below ((Below.refl _ _).alloc zL X) zL)
  go_wp2_with fail
  refine(z.o _ (S.o _)).mono ?_;rintro x W1 ⟨rfl,u⟩;have ae:=ZZ ((S.o (.cells #[.int .i64 d,.int .i64 f,.int .i64 m] 85)).trans (u.mono (by have:=y.out.size;simp;omega)))
  have Y:=ZZ (HX.o.below u zL);have M:=ZZ ((af.o (.cells #[.int .i64 d,.int .i64 f,.int .i64 m] 85)).below u zL);clear u z S HX af G C A t y
  cases P with
  | true=>
   go_wp2;go_roundw
   case rel=>exact⟨i,j+1,L,rfl,by go_num,by omega,by omega,M,ZZ (Q.o (by simp)),ae⟩
   case measure=>simp[intOf];omega
  | false=>
   obtain⟨⟨d0,d1,d2⟩,D,ao,-⟩:=M.o.ent i (by omega)
   obtain⟨b0,f0⟩:=Y.o.cell 0;obtain⟨b1,f1⟩:=Y.o.cell 1;obtain⟨b2,f2⟩:=Y.o.cell 2;have z0:=D (i*3);have z1:=D (i*3+1);have z2:=D (i*3+2);have aq:(i:Int)<(l.length:Int):=by omega
   have au:i<l.length:=by omega
   clear D;go_wp2;go_roundw
   case rel=>exact⟨i+1,j+1,L.set i ⟨d,f,m⟩,by go_num,by go_num,by omega,by omega,ZZ (M.o.put3 i (by omega) d f m _ _ _ (by omega) (by omega) (by omega)),ZZ (F.o (by simp)),ZZ (ZrC ae.o n aa _ _ _ _ _ _)⟩
   case measure=>simp[intOf];omega
theorem RdE.one (w:World) (e:Ent) (b:Zod e):RdE (w.alloc (.cells (ZfM e) 85)) (.slice (some ⟨w.heap.size,0,none⟩) 1 1) [e]:=by
 have h:=Zbt.ofRow (w:=w.alloc (.cells (ZfM e) 85)) (B:=w.heap.size) (g:=w.heap.size) (cap:=1) (l:=[e]) (n:=1) rfl zL (heap_alloc_new w _) zL (by unfold maxLen;decide) rfl (fun j a=>by
  rw[List.length_singleton] at a
  match j,a with
  | 0,_=>rfl
  | 1,_=>rfl
  | 2,_=>rfl)
 exact h.rd (fun x c=>by rw[List.mem_singleton.1 c];exact b)
theorem Zna (l:List Ent) (i:Nat) (p:i<=l.length) (e:Ent) (f:Nat->Option Value) (k:∀ j,j<i*3->f j=(Zag l)[j]?) (c:∀ j,j<3->f (i*3+j)=(Zag [e])[j]?)
 (b:∀ j,j<(l.length-i)*3->f ((i+1)*3+j)=(Zag (l.drop i))[j]?) (j:Nat) (m:j<(l.length+1)*3):f j=(Zag (l.take i++(e::l.drop i)))[j]?:=by
 have d:l.take i++(e::l.drop i)=l.take i++([e]++l.drop i):=rfl;have h:(Zag (l.take i)).length=i*3:=by rw[Zax,length_take];congr 1;omega
 have g:(Zag [e]).length=3:=Zax [e];rw[d,Zdt,Zdt];by_cases a:j<i*3
 ·rw[List.getElem?_append_left (by omega),k j a,Zft,List.getElem?_take_of_lt a]
 ·rw[List.getElem?_append_right (by omega),h]
  by_cases n:j<i*3+3
  ·rw[List.getElem?_append_left (by omega),<-c (j-i*3) (by omega)]
   congr 1
   omega
  ·rw[List.getElem?_append_right (by omega),g,<-b (j-i*3-3) (by omega)]
   congr 1
   omega
theorem ZdZ (l:List Ent) (i:Nat) (a:i<=l.length) (e:Ent):(l.take i++(e::l.drop i)).length=l.length+1:=by simp;omega
def ZBs (w:World) (B:Nat) (L:List Ent) (x:Ending) (w':World):Prop:=∃ v',x=.returned v'∧Zbt w' B v' L∧Below B w w'
theorem ZrD (v:Value) (l:List Ent) (B:Nat) (w:World) (c:Zbt w B v l) (p:B<=w.heap.size) (E:l.length<=100000) (e:Ent) (t:Zod e) (I:Int) (z:I=(l.length:Nat)) (N:Nat) (C:N=w.heap.size):
 Calls prog 88 #[v,.int .i64 I,.slice (some ⟨N,0,none⟩) 1 1] (w.alloc (.cells (ZfM e) 85)) fun x w'=>ZBs w B (l.take l.length++(e::l.drop l.length)) x w':=by
 subst z C;have f:Hid (l.take l.length++(e::l.drop l.length)=l++[e]):=ZZ (by rw[take_length,List.drop_length])
 rw[f.o];have i:=ZZ (RdE.one w e t);have n:Hid (∀ X,Below B w (w.alloc X)):=fun X=>(Below.refl _ _).alloc p X
 have j:=ZZ (c.below ((Below.refl w.heap.size w).alloc zL (.cells (ZfM e) 85)) zL);have k:B<=(w.alloc (.cells (ZfM e) 85)).heap.size:=by simp;omega
 rcases c.row with ⟨rfl,rfl⟩ | ⟨g,cap,cur,rfl,J,F,q,K,m,u,D⟩
 ·clear c f
  go_enter func88,ntmps88
  go_wp2_with(at_builtin;refine ZcX _ rfl _ _ rfl B _ [] rfl j.o _ [e] rfl i.o (by simp) k ?_)
  intro A y a b;have h:=ZZ a;have d:=ZZ ((n.o _).trans b);clear a b;go_wp2;go_ret;exact⟨_,rfl,h.o,d.o⟩
 ·have H:(cap:Int)<=9223372036854775807:=by unfold maxLen at m;omega
  have G:(l.length:Int)<=(cap:Int):=by omega
  clear c f D q u m;by_cases L:cap=l.length
  all_goals
   go_enter func88,ntmps88
   go_wp2_with(at_builtin;refine ZcX _ rfl _ _ rfl B _ l rfl j.o _ [e] rfl i.o (by simp;omega) k ?_)
   intro A y a b;have h:=ZZ a;have d:=ZZ ((n.o _).trans b);clear a b;go_wp2;go_ret;exact⟨_,rfl,h.o,d.o⟩
theorem ZBG (w:World) (g N a b:Nat) (n:N≠g) (f c h i o:Nat) (l:w.shape? N=some (85,a)) (m:w.shape? g=some (85,b)) (j:b≠0) (d:∀ k,w.frozen? ⟨N,k,none⟩=false):
 (callFunc 129 #[.slice (some ⟨N,0,none⟩) f c,.slice (some ⟨g,o,none⟩) h i]).run prog w=.ok (.value (.bool false)) w:=by
 rw[run_callFunc_extern func129 (by kernel_rfl) (by kernel_rfl) (by kernel_rfl) (e:=Extern.SlicesOverlaps.overlaps #[39,39] #[4]) (by kernel_rfl),
  Lib.run_overlaps_apart w 39 4 85 underlying39 3 Tryz.sizeOf85 ⟨N,0,none⟩ ⟨g,o,none⟩ f c h i n _ _ a b l m j (d 0) (d a)]
 rfl
theorem ZjU:(prog.info? 85).map (·.size)=some 3:=by
 obtain⟨e,b,d,a,c⟩:=info_parts ZjT;rw[b];simp[a]
theorem ZpN (g cap:Nat) (l:List Ent) (B:Nat) (w:World) (T:Zbt w B (.slice (some ⟨g,0,none⟩) l.length cap) l) (hB:B<=w.heap.size) (i:Nat) (hi:i<l.length) (ac:l.length+1<=cap) (e:Ent) (I:Int) (hI:I=(i:Nat)) (N:Nat) (K:N=w.heap.size):
 Calls prog 88 #[.slice (some ⟨g,0,none⟩) l.length cap,.int .i64 I,.slice (some ⟨N,0,none⟩) 1 1] (w.alloc (.cells (ZfM e) 85)) fun x w'=>ZBs w B (l.take i++(e::l.drop i)) x w':=by
 subst hI;rcases T.row with ⟨d,-⟩ | ⟨g',av,cur,d,q,ab,Q,hn,A,G,C⟩
 ·cases d
 injection d with d _ h3
 injection d with d
 injection d with d
 subst d h3;clear T;have n:(w.alloc (.cells (ZfM e) 85)).heap[N]?=some (.cells (ZfM e) 85 (0,0)):=by rw[K];exact heap_alloc_new w _
 have f:(w.alloc (.cells (ZfM e) 85)).heap[g]?=some (.cells cur 85 (0,0)):=(Below.heap_alloc _ _ _ ab).trans Q;have O:Hid (Below B w (w.alloc (.cells (ZfM e) 85))):=(Below.refl _ _).alloc hB _;generalize w.alloc (.cells (ZfM e) 85)=W at *;have P:N≠g:=by omega
 have ae:(cap:Int)<=9223372036854775807:=by unfold maxLen at A;omega
 have S:∀ (j:Nat),W.frozen? ⟨g,j,none⟩=false:=fun j=>frozen_of_row W g j _ _ f
 have aa:∀ y F z u o,(callFunc 129 #[.slice (some ⟨N,0,none⟩) y F,.slice (some ⟨g,o,none⟩) z u]).run prog W=.ok (.value (.bool false)) W:=fun y F z u o=>
  ZBG W g N 3 (cap*3) P y F z u o (by simp[World.shape?,n,ZfM]) (by simp[World.shape?,f,G]) (by omega) (fun k=>frozen_of_row W N k _ _ n)
 have t:(Zag (l.drop i)).length=(l.length-i)*3:=by rw[Zax,length_drop]
 have L:∀ j,j<(l.length+1)*3->(W.cell? ⟨g,j,none⟩).isSome=true:=fun j a=>by
  rw[cell_of_row W g j _ _ _ f,Array.getElem?_eq_getElem (by omega)]
  rfl
 have R:∀ W',(∀ x,W'.cell? x=W.cell? x)->(∀ x,W'.frozen? x=W.frozen? x)->∀ ty c sc,(Builtin.copy_ #[39,39] ty #[.slice (some ⟨g,(i+1)*3,none⟩) (l.length-i) c,.slice (some ⟨g,i*3,none⟩) (l.length+1-i) sc]).run prog W'=.ok (goInt (Nat.min (l.length+1-i) (l.length-i))) (W'.setCells g ((i+1)*3) (Zag (l.drop i))):=fun W' m E ty c sc=>
  ZdQ W' _ _ ty 85 3 g ((i+1)*3) (l.length-i) c ⟨g,i*3,none⟩ (l.length+1-i) sc (Zag (l.drop i)) underlying39 ZjU (by rw[t];simp only [Nat.min_def];split <;> omega)
   (fun j v a=>by
    have X:j<(l.length-i)*3:=by rw[<-t];exact(List.getElem?_eq_some_iff.1 a).1
    rw[Addr.add_lit,m,cell_of_row W g _ _ _ _ f,C _ (by omega)]
    rw[Zfu,List.getElem?_drop] at a
    exact a)
   (fun j a=>by rw[m];exact L _ (by omega)) (fun j a=>by rw[E];exact S _) (ZcH _)
 obtain⟨b,h⟩:∃ b,b=W.drew.setCells g ((i+1)*3) (Zag (l.drop i)):=⟨_,rfl⟩;have p:b.heap[g]?=some (.cells (Zim cur ((i+1)*3) (Zag (l.drop i))) 85 (0,0)):=by rw[h];exact ZaH g _ _ _ W.drew cur f
 have H:b.heap[N]?=some (.cells (ZfM e) 85 (0,0)):=by rw[h,Zdm g _ _ _ N P];exact n
 have D:(Zag [e]).length=3:=Zax [e]
 have M:∀ W',(∀ x,W'.cell? x=b.cell? x)->(∀ x,W'.frozen? x=b.frozen? x)->∀ ty c,(Builtin.copy_ #[39,39] ty #[.slice (some ⟨g,i*3,none⟩) (l.length+1-i) c,.slice (some ⟨N,0,none⟩) 1 1]).run prog W'=.ok (goInt (Nat.min 1 (l.length+1-i))) (W'.setCells g (i*3) (Zag [e])):=fun W' m E ty c=>
  ZdQ W' _ _ ty 85 3 g (i*3) (l.length+1-i) c ⟨N,0,none⟩ 1 1 (Zag [e]) underlying39 ZjU (by rw[D];simp only [Nat.min_def];split <;> omega)
   (fun j v a=>by
    rw[Addr.add_lit,m,Nat.zero_add,cell_of_row b N _ _ _ _ H]
    have:(Zag [e])[j]?=(ZfM e)[j]?:=by
     have X:j<3:=by rw[<-D];exact(List.getElem?_eq_some_iff.1 a).1
     have:=Zbw [e] 0 j (by simp) X
     rwa [Nat.zero_mul,Nat.zero_add] at this
    rw[<-this]
    exact a)
   (fun j a=>by
    rw[m,cell_of_row b g _ _ _ _ p,Array.getElem?_eq_getElem (by rw[ZaG];omega)]
    rfl) (fun j a=>by rw[E];exact frozen_of_row b g _ _ _ p) (ZcH _)
 have U:Hid (ZBs w B (l.take i++(e::l.drop i)) (.returned (.slice (some ⟨g,0,none⟩) (l.length+1) cap)) (b.setCells g (i*3) (Zag [e]))):=ZZ (by
  refine⟨_,rfl,Zbt.ofRow (ZdZ l i (by omega) e).symm q (ZaH g _ _ _ b _ p) (by rw[ZdZ l i (by omega) e];exact ac) A (by rw[ZaG,ZaG];exact G) (fun j a=>?_),?_⟩
  ·rw[ZdZ l i (by omega) e] at a
   refine Zna l i (by omega) e (fun j=>(Zim (Zim cur ((i+1)*3) (Zag (l.drop i))) (i*3) (Zag [e]))[j]?) (fun k V=>?_) (fun k V=>?_) (fun k V=>?_) j a
   ·show(Zim (Zim cur ((i+1)*3) (Zag (l.drop i))) (i*3) (Zag [e]))[k]?=_
    rw[Zbg _ _ _ _ (by rw[ZaG];omega),if_neg (by omega),Zbg _ _ _ _ (by omega),if_neg (by omega)]
    exact C k (by omega)
   ·show(Zim (Zim cur ((i+1)*3) (Zag (l.drop i))) (i*3) (Zag [e]))[i*3+k]?=_
    rw[Zbg _ _ _ _ (by rw[ZaG];omega),if_pos (by omega),Nat.add_sub_cancel_left]
   ·show(Zim (Zim cur ((i+1)*3) (Zag (l.drop i))) (i*3) (Zag [e]))[(i+1)*3+k]?=_
    rw[Zbg _ _ _ _ (by rw[ZaG];omega),if_neg (by omega),Zbg _ _ _ _ (by omega),if_pos (by omega),Nat.add_sub_cancel_left]
  ·rw[h]
   exact ZcI q _ _ _ (ZcI q _ _ _ (ZkS O.o)))
 have Y:=fun ty c sc=>R W.drew (fun _=>rfl) (fun _=>rfl) ty c sc
 have J:=fun ty c=>M b (fun _=>rfl) (fun _=>rfl) ty c
 clear R M;rw[h] at U J;clear h p H C G Q f n L S A O t D K;have aw:prog.follows .mixedOrders=true:=by kernel_rfl
 have Z:¬ ((i:Int)=(l.length:Int)):=by omega
 have aj:((i:Int) == (l.length:Int))=false:=beq_eq_false_iff_ne.2 Z;have am:IntKind.i64.wrap ((i:Int)+1)=(i:Int)+1:=by rw[IntKind.wrap_i64];omega
 have au:IntKind.i64.wrap ((l.length:Int)+1)=(l.length:Int)+1:=by rw[IntKind.wrap_i64];omega
 have ar:(0:Int)<=(i:Int)+1:=by omega
 have an:i<=l.length:=by omega
 have ai:(i:Int)<=(l.length:Int):=by omega
 have ak:((i:Int)+1).toNat=i+1:=by omega
 have ao:((l.length:Int)+1).toNat=l.length+1:=by omega
 have ax:¬ (cap=i+1):=by omega
 have af:(i:Int)<=(l.length:Int)+1:=by omega
 have ap:¬ (cap=i):=by omega
 have ag:¬ ((cap:Int)<(l.length:Int)+1):=by omega
 have aq:(l.length:Int)+1<=(cap:Int):=by omega
 have ad:(i:Int)+1<=(l.length:Int)+1:=by omega
 generalize Zag (l.drop i)=al at *;generalize Zag [e]=ah at *;generalize l.take i++(e::l.drop i)=LL at *
 go_enter func88,ntmps88
 go_wp2_with(simp only [aa])
 go_region_law_o (refine step_copy_runI rfl _ _ 39 39 rfl _ _ (by simp[Act.eval,Act.put]) (by simp[Act.eval,Act.put]) (Y _ _ _) ?_)
 go_wp2_with(at_builtin;refine wpList_copy_runI _ rfl _ _ 39 39 rfl _ _ rfl rfl (J _ _) ?_)
 go_wp2;go_ret;exact U.o
theorem ZpO (g cap:Nat) (l:List Ent) (B:Nat) (w:World) (ho:Zbt w B (.slice (some ⟨g,0,none⟩) l.length cap) l) (hB:B<=w.heap.size) (i:Nat) (hi:i<l.length) (aq:cap<l.length+1) (ap:l.length<=100000) (e:Ent) (I:Int) (hI:I=(i:Nat)) (N:Nat) (Y:N=w.heap.size):
 Calls prog 88 #[.slice (some ⟨g,0,none⟩) l.length cap,.int .i64 I,.slice (some ⟨N,0,none⟩) 1 1] (w.alloc (.cells (ZfM e) 85)) fun x w'=>ZBs w B (l.take i++(e::l.drop i)) x w':=by
 subst hI;rcases ho.row with ⟨f,-⟩ | ⟨g',aL,cur,f,al,ag,hg,hn,hm,hs,L⟩
 ·cases f
 injection f with f _ h3
 injection f with f
 injection f with f
 subst f h3;clear ho;obtain⟨i0,V,aj,aa,q⟩:=info_parts ZjT;have hv:(w.alloc (.cells (ZfM e) 85)).heap[N]?=some (.cells (ZfM e) 85 (0,0)):=by rw[Y];exact heap_alloc_new w _
 have O:(w.alloc (.cells (ZfM e) 85)).heap[g]?=some (.cells cur 85 (0,0)):=(Below.heap_alloc _ _ _ ag).trans hg;have ad:Hid (Below B w (w.alloc (.cells (ZfM e) 85))):=(Below.refl _ _).alloc hB _;have am:(w.alloc (.cells (ZfM e) 85)).heap.size=w.heap.size+1:=by simp
 generalize w.alloc (.cells (ZfM e) 85)=W at *;have P:(Zag [e]).length=3:=Zax [e];have K:(Zag (l.drop i)).length=(l.length-i)*3:=by rw[Zax,length_drop]
 have p:((Zag l).take (i*3)).length=i*3:=by rw[length_take,Zax];omega
 have ab:(Builtin.firstCells i0.size i (.slice (some ⟨g,0,none⟩) i cap)).run prog W.drew=.ok ((Zag l).take (i*3)).toArray W.drew:=by
  rw[aa]
  exact run_firstCells_some W.drew 3 i ⟨g,0,none⟩ i cap ((Zag l).take (i*3)) p (fun j v a=>by
   have D:j<i*3:=by rw[<-p];exact(List.getElem?_eq_some_iff.1 a).1
   rw[List.getElem?_take_of_lt D] at a;rw[Addr.add_lit,Nat.zero_add,cell_of_row W.drew g j _ _ _ O,L j (by omega)]
   exact a)
 have F:i+(l.length+1-i)=l.length+1:=by omega
 have U:(l.length:Int)+1-(i:Int)=((l.length+1-i:Nat):Int):=by omega
 obtain⟨G,C⟩:∃ G,G=grownCap W (l.length+1) cap 85:=⟨_,rfl⟩;obtain⟨b,A⟩:∃ b,b=((Zag l).take (i*3)).toArray++Builtin.zeroCells (Value.agg #[.int .i64 0,.int .i64 0,.int .i64 0]).cells (l.length+1-i)++Builtin.zeroCells (Value.agg #[.int .i64 0,.int .i64 0,.int .i64 0]).cells (G-(l.length+1)):=⟨_,rfl⟩
 have ak:∀ ty,(Builtin.append_ #[39,3] ty #[.slice (some ⟨g,0,none⟩) i cap,.int .i64 ((l.length:Int)+1-(i:Int))]).run prog W=.ok (.slice (some ⟨W.heap.size,0,none⟩) (l.length+1) G) ((W.alloc (.cells b 85)).drew):=fun ty=>by
  have h:=Lib.run_append_grow_zeros W 39 3 ty 85 i0 _ .i64 .i64 underlying39 underlying3 V aj (some ⟨g,0,none⟩) i cap _ ab (l.length+1-i) (by omega) (by omega) (by omega) (by omega) (by rw[q];omega) (by rw[q,F];exact growslice_fits_wide aq (by omega))
  rw[F,<-C,<-A,<-U] at h;exact h
 have ao:l.length+1<=G:=by rw[C];exact grownCap_ge W _ _ _
 have Z:G<=maxLen:=by rw[C];exact grownCap_le_maxLen W (l.length+1) cap 85 (by unfold maxLen;omega)
 have M:∀ n,(Builtin.zeroCells (Value.agg #[.int .i64 0,.int .i64 0,.int .i64 0]).cells n).size=n*3:=fun n=>by
  rw[<-Array.length_toList,ZmX,Zcl]
 have ac:b.size=G*3:=by
  rw[A,Array.size_append,Array.size_append,M,M,List.size_toArray,p];omega
 have ah:∀ j,j<i*3->b[j]?=(Zag l)[j]?:=fun j a=>by
  rw[A,Array.append_assoc,Array.getElem?_append_left (by rw[List.size_toArray,p];exact a),List.getElem?_toArray,List.getElem?_take_of_lt a]
 have u:(W.alloc (.cells b 85)).drew.heap[W.heap.size]?=some (.cells b 85 (0,0)):=heap_alloc_new W _;have H:(W.alloc (.cells b 85)).drew.heap[N]?=some (.cells (ZfM e) 85 (0,0)):=(Below.heap_alloc W _ N (by omega)).trans hv
 have E:(W.alloc (.cells b 85)).drew.heap[g]?=some (.cells cur 85 (0,0)):=(Below.heap_alloc W _ g (by omega)).trans O
 have T:Hid (Below B w (W.alloc (.cells b 85)).drew):=ZZ (ZkS (ad.o.alloc (by omega) _))
 have y:B<=W.heap.size:=by omega
 have an:N≠W.heap.size:=by omega
 have af:g≠W.heap.size:=by omega
 obtain⟨d,R⟩:∃ d,d=(W.alloc (.cells b 85)).drew:=⟨_,rfl⟩;rw[<-R] at u H E T
 have X:∀ ty m,(Builtin.copy_ #[39,39] ty #[.slice (some ⟨W.heap.size,i*3,none⟩) (l.length+1-i) m,.slice (some ⟨N,0,none⟩) 1 1]).run prog d=.ok (goInt (Nat.min 1 (l.length+1-i))) (d.setCells W.heap.size (i*3) (Zag [e])):=fun ty m=>
  ZdQ d _ _ ty 85 3 W.heap.size (i*3) (l.length+1-i) m ⟨N,0,none⟩ 1 1 (Zag [e]) underlying39 ZjU (by rw[P];simp only [Nat.min_def];split <;> omega)
   (fun j v a=>by
    rw[Addr.add_lit,Nat.zero_add,cell_of_row d N _ _ _ _ H]
    have:(Zag [e])[j]?=(ZfM e)[j]?:=by
     have D:j<3:=by rw[<-P];exact(List.getElem?_eq_some_iff.1 a).1
     have:=Zbw [e] 0 j (by simp) D
     rwa [Nat.zero_mul,Nat.zero_add] at this
    rw[<-this]
    exact a)
   (fun j a=>by
    rw[cell_of_row d _ _ _ _ _ u,Array.getElem?_eq_getElem (by omega)]
    rfl) (fun j a=>frozen_of_row d _ _ _ _ u) (ZcH _)
 obtain⟨c,t⟩:∃ c,c=(d.setCells W.heap.size (i*3) (Zag [e])).drew:=⟨_,rfl⟩;have z:c.heap[W.heap.size]?=some (.cells (Zim b (i*3) (Zag [e])) 85 (0,0)):=by rw[t];exact ZaH _ _ _ _ d b u
 have ae:c.heap[g]?=some (.cells cur 85 (0,0)):=by
  rw[t];exact(Zdm W.heap.size _ _ d g af).trans E
 have ai:Hid (Below B w c):=ZZ (by rw[t];exact ZkS (ZcI y _ _ _ T.o))
 have J:∀ ty m sc,(Builtin.copy_ #[39,39] ty #[.slice (some ⟨W.heap.size,(i+1)*3,none⟩) (l.length-i) m,.slice (some ⟨g,i*3,none⟩) (l.length-i) sc]).run prog c=.ok (goInt (Nat.min (l.length-i) (l.length-i))) (c.setCells W.heap.size ((i+1)*3) (Zag (l.drop i))):=fun ty m sc=>
  ZdQ c _ _ ty 85 3 W.heap.size ((i+1)*3) (l.length-i) m ⟨g,i*3,none⟩ (l.length-i) sc (Zag (l.drop i)) underlying39 ZjU (by rw[K];simp only [Nat.min_def];split <;> omega)
   (fun j v a=>by
    have D:j<(l.length-i)*3:=by rw[<-K];exact(List.getElem?_eq_some_iff.1 a).1
    rw[Addr.add_lit,cell_of_row c g _ _ _ _ ae,L _ (by omega)]
    rw[Zfu,List.getElem?_drop] at a
    exact a)
   (fun j a=>by
    rw[cell_of_row c _ _ _ _ _ z,Array.getElem?_eq_getElem (by rw[ZaG];omega)]
    rfl) (fun j a=>frozen_of_row c _ _ _ _ z) (ZcH _)
 have Q:Hid (ZBs w B (l.take i++(e::l.drop i)) (.returned (.slice (some ⟨W.heap.size,0,none⟩) (l.length+1) G)) (c.setCells W.heap.size ((i+1)*3) (Zag (l.drop i)))):=ZZ (by
  refine⟨_,rfl,Zbt.ofRow (ZdZ l i (by omega) e).symm y (ZaH _ _ _ _ c _ z) (by rw[ZdZ l i (by omega) e];exact ao) Z (by rw[ZaG,ZaG];exact ac) (fun j a=>?_),?_⟩
  ·rw[ZdZ l i (by omega) e] at a
   refine Zna l i (by omega) e (fun j=>(Zim (Zim b (i*3) (Zag [e])) ((i+1)*3) (Zag (l.drop i)))[j]?) (fun k S=>?_) (fun k S=>?_) (fun k S=>?_) j a
   ·show(Zim (Zim b (i*3) (Zag [e])) ((i+1)*3) (Zag (l.drop i)))[k]?=_
    rw[Zbg _ _ _ _ (by rw[ZaG];omega),if_neg (by omega),Zbg _ _ _ _ (by omega),if_neg (by omega)]
    exact ah k S
   ·show(Zim (Zim b (i*3) (Zag [e])) ((i+1)*3) (Zag (l.drop i)))[i*3+k]?=_
    rw[Zbg _ _ _ _ (by rw[ZaG];omega),if_neg (by omega),Zbg _ _ _ _ (by omega),if_pos (by omega),Nat.add_sub_cancel_left]
   ·show(Zim (Zim b (i*3) (Zag [e])) ((i+1)*3) (Zag (l.drop i)))[(i+1)*3+k]?=_
    rw[Zbg _ _ _ _ (by rw[ZaG];omega),if_pos (by omega),Nat.add_sub_cancel_left]
  ·exact ZcI y _ _ _ ai.o)
 rw[t] at Q J;rw[R] at Q J X;clear t R ae z u H E ac ah M ai T ab A L hs hg O hv hm ad K P p q aa aj V C an af Z U F am Y y;have aM:prog.follows .mixedOrders=true:=by kernel_rfl
 have q:¬ ((i:Int)=(l.length:Int)):=by omega
 have aA:((i:Int) == (l.length:Int))=false:=beq_eq_false_iff_ne.2 q;have aD:IntKind.i64.wrap ((i:Int)+1)=(i:Int)+1:=by rw[IntKind.wrap_i64];omega
 have aK:IntKind.i64.wrap ((l.length:Int)+1)=(l.length:Int)+1:=by rw[IntKind.wrap_i64];omega
 have aI:(0:Int)<=(i:Int)+1:=by omega
 have aE:i<=l.length:=by omega
 have az:(i:Int)<=(l.length:Int):=by omega
 have aH:(i:Int)<=(cap:Int):=by omega
 have au:i<=cap:=by omega
 have aB:((i:Int)+1).toNat=i+1:=by omega
 have p:((l.length:Int)+1).toNat=l.length+1:=by omega
 have aN:¬ (G=i+1):=by omega
 have aw:(i:Int)<=(l.length:Int)+1:=by omega
 have aG:¬ (cap=i):=by omega
 have aJ:¬ (G=i):=by omega
 have ax:(cap:Int)<(l.length:Int)+1:=by omega
 have av:(i:Int)+1<=(l.length:Int)+1:=by omega
 have aF:(l.length:Int)<=100000:=by omega
 have ar:IntKind.i64.wrap ((l.length:Int)+1-(i:Int))=(l.length:Int)+1-(i:Int):=by rw[IntKind.wrap_i64];omega
 clear hB al ag ap;generalize Zag (l.drop i)=aC at *;generalize Zag [e]=ay at *;generalize l.take i++(e::l.drop i)=LL at *
 go_enter func88,ntmps88
 go_wp2_with(first
  | (at_builtin;refine Lib.wpList_append_run _ rfl _ _ _ _ rfl _ _ rfl rfl _ _ (ak _) ?_)
  | (at_builtin;refine wpList_copy_runI _ rfl _ _ 39 39 rfl _ _ rfl rfl (X _ _) ?_))
 go_region_law_o (refine step_copy_runI rfl _ _ 39 39 rfl _ _ (by simp[Act.eval,Act.put]) (by simp[Act.eval,Act.put]) (J _ _ _) ?_)
 go_wp2;go_ret;exact Q.o
theorem ZrE (v:Value) (l:List Ent) (B:Nat) (w:World) (a:Zbt w B v l) (b:B<=w.heap.size) (f:l.length<=100000) (i:Nat) (k:i<=l.length) (e:Ent) (j:Zod e) (I:Int) (c:I=(i:Nat)) (N:Nat) (d:N=w.heap.size):
 Calls prog 88 #[v,.int .i64 I,.slice (some ⟨N,0,none⟩) 1 1] (w.alloc (.cells (ZfM e) 85)) fun x w'=>ZBs w B (l.take i++(e::l.drop i)) x w':=by
 by_cases h:i=l.length
 ·subst h
  exact ZrD v l B w a b f e j I c N d
 ·rcases a.row with ⟨-,rfl⟩ | ⟨g,cap,cur,rfl,-⟩
  ·exact absurd (by simpa using k) (by simpa using h)
  ·by_cases m:l.length+1<=cap
   ·exact ZpN g cap l B w a b i (by omega) m e I c N d
   ·exact ZpO g cap l B w a b i (by omega) (by omega) f e I c N d
theorem Zcg {l:List UInt8} {n:Int} (b:0<=n) (a:n<4611686018427387904):Zuw l n=l++Lib.uvarint n.toNat:=if_pos ⟨b,a⟩
theorem ZyG {n:Int} (h:I64 n):(Lib.uvarint (Lib.zigzag n)).length<=10:=Lib.uvarint_length64 (ZeV h)
theorem ZdD (h:n<4611686018427387904):(Lib.uvarint n).length<=10:=Lib.uvarint_length64 (by omega)
theorem ZrF (w:World) (X Y:Obj):((w.alloc X).alloc Y).heap[w.heap.size+1]?=some Y:=by
 have h:=heap_alloc_new (w.alloc X) Y;have e:(w.alloc X).heap.size=w.heap.size+1:=by simp
 rwa [e] at h
def ZwY (w:World) (l:List UInt8) (e:Ending) (w':World):Prop:=
 e=.returned (.tuple #[opV (ZaC l).1,.int .i64 ((ZaC l).2:Nat)])∧Below w.heap.size w w'
def ZuH (r:Rec):Value:=.agg #[.int .i64 r.idx,.int .i64 r.proc,.int .i64 r.seq,.int .i64 r.op.code,.int .i64 r.op.a,.int .i64 r.op.b,.int .i64 r.resp]
def Zeo (r:Rec):Array Value:=#[.int .i64 r.idx,.int .i64 r.proc,.int .i64 r.seq,.int .i64 r.op.code,.int .i64 r.op.a,.int .i64 r.op.b,.int .i64 r.resp]
def Zga (r:Rec):Prop:=I64 r.idx∧I64 r.proc∧I64 r.seq∧ZAx r.op∧I64 r.resp
def Br (w:World) (b:Nat) (cs:Array Value):Prop:=w.heap[b]?=some (.cells cs 62 (0,0))
theorem Br.lt (h:Br w b cs):b<w.heap.size:=(Array.getElem?_eq_some_iff.1 h).1
theorem Br.below (h:Br w b cs) (a:Below B w w') (c:w.heap.size<=B):Br w' b cs:=(a.block b (by have:=h.lt;omega)).trans h
theorem Br.cell (h:Br w b cs) (j:Nat):w.cell? ⟨b,j,none⟩=cs[j]?∧w.frozen? ⟨b,j,none⟩=false:=⟨cell_of_row w b j _ _ _ h,frozen_of_row w b j _ _ h⟩
theorem ZwZ (r:Rec) (R:Nat) (e:Ent) (W:World) (d:Br W R (Zeo r)):
 Calls prog 84 #[ZuC e,.pointer (some ⟨R,0,none⟩)] W fun x w'=>x=.returned (.bool (decide (e.proc=r.proc)))∧Below W.heap.size W w':=by
 have f:Hid (∀ X,Below W.heap.size W (W.alloc X)):=fun X=>(Below.refl _ _).alloc zL X
 have i:R<W.heap.size:=(Array.getElem?_eq_some_iff.1 d).1
 have g:Hid (∀ X,(W.alloc X).cell? ⟨R,1,none⟩=some (.int .i64 r.proc)):=ZZ (fun X=>by
  rw[(f.o X).cell (p:=⟨R,1,none⟩) i]
  exact cell_of_row W R 1 _ _ _ d)
 obtain⟨c,k,l⟩:=e;unfold ZuC;simp only;have m:=g.o;generalize r.proc=b at *;clear d g;by_cases h:c=b
 ·have a:Hid (decide (c=b)=true):=decide_eq_true h
  have j:(c == b)=true:=beq_iff_eq.2 h;rw[a.o];clear a h
  go_enter func84,ntmps84
  go_wp2;go_ret;exact⟨rfl,f.o _⟩
 ·have a:Hid (decide (c=b)=false):=decide_eq_false h
  have j:(c == b)=false:=beq_eq_false_iff_ne.2 h;rw[a.o];clear a h
  go_enter func84,ntmps84
  go_wp2;go_ret;exact⟨rfl,f.o _⟩
theorem Zxa (r:Rec) (R:Nat) (e:Ent) (W:World) (f:Br W R (Zeo r)):
 Calls prog 85 #[ZuC e,.pointer (some ⟨R,0,none⟩)] W fun x w'=>x=.returned (.bool (decide (r.proc<e.proc)))∧Below W.heap.size W w':=by
 have c:Hid (∀ X,Below W.heap.size W (W.alloc X)):=fun X=>(Below.refl _ _).alloc zL X
 have i:R<W.heap.size:=(Array.getElem?_eq_some_iff.1 f).1
 have g:Hid (∀ X,(W.alloc X).cell? ⟨R,1,none⟩=some (.int .i64 r.proc)):=ZZ (fun X=>by
  rw[(c.o X).cell (p:=⟨R,1,none⟩) i]
  exact cell_of_row W R 1 _ _ _ f)
 obtain⟨b,l,k⟩:=e;unfold ZuC;simp only;have j:=g.o;generalize r.proc=d at *;clear f g;by_cases h:d<b
 ·have a:Hid (decide (d<b)=true):=decide_eq_true h
  rw[a.o];clear a
  go_enter func85,ntmps85
  go_wp2;go_ret;exact⟨rfl,c.o _⟩
 ·have a:Hid (decide (d<b)=false):=decide_eq_false h
  rw[a.o];clear a
  go_enter func85,ntmps85
  go_wp2;go_ret;exact⟨rfl,c.o _⟩
theorem ZuI {k:Int} (h:ZAm (fun e=>decide (p<e.proc)) t k):(k<0∧Zdu p t=t.length)∨(0<=k∧k=(Zdu p t:Nat)):=by
 rcases h with ⟨rfl,h⟩ | ⟨i,rfl,c,d,b⟩
 ·exact .inl ⟨by omega,ZmW (fun j a=>of_decide_eq_false (h j a))⟩
 ·refine .inr ⟨by omega,?_⟩
  rw[ZpI c (fun j a=>of_decide_eq_false (d j a)) (of_decide_eq_true b)]
theorem Zzl {P:Ent->Prop} (h:∀ e ∈ t,P e):∀ e ∈ Zrx p t,P e:=fun e a=>h e (List.mem_filter.1 a).1
theorem Zxb (v:Value) (t:List Ent) (r:Rec) (w:World) (u:RdE w v t) (m:Zga r) (D:t.length<=2000):
 Calls prog 43 #[v,ZuH r] w fun e w'=>∃ v',e=.returned v'∧Zbt w' w.heap.size v' (ZfU t ⟨r.proc,r.seq,r.resp⟩)∧Below w.heap.size w w':=by
 have R:∀ e ∈ t,Zod e:=u.choose_spec.choose_spec.2.2.2.2.1;have A:=ZZ R;have HX:Hid (Br (w.alloc (.cells (Zeo r) 62)) w.heap.size (Zeo r)):=ZZ (heap_alloc_new w _);have S:Hid (Below w.heap.size w (w.alloc (.cells (Zeo r) 62))):=ZZ ((Below.refl _ _).alloc zL _);have am:(w.alloc (.cells (Zeo r) 62)).heap.size=w.heap.size+1:=by simp
 have T:=ZZ (u.below S.o zL);have ag:Hid (Zod ⟨r.proc,r.seq,r.resp⟩):=ZZ ⟨m.2.1,m.2.2.1,m.2.2.2.2⟩;have O:∀ args W,(callFunc 84 args).run prog W=.ok (.enter 84 args) W:=enters_of func84 (by kernel_rfl) rfl
 have Y:∀ args W,(callFunc 85 args).run prog W=.ok (.enter 85 args) W:=enters_of func85 (by kernel_rfl) rfl
 have al:=ZZ O;have ae:=ZZ Y;have X:Hid (ZfU t ⟨r.proc,r.seq,r.resp⟩=(Zrx r.proc t).take (Zdu r.proc (Zrx r.proc t))++(⟨r.proc,r.seq,r.resp⟩::(Zrx r.proc t).drop (Zdu r.proc (Zrx r.proc t)))):=ZZ (ZpH ⟨r.proc,r.seq,r.resp⟩ t);have U:Hid (t.filter (fun e=>!decide (e.proc=r.proc))=Zrx r.proc t):=ZZ (by unfold Zrx;simp)
 have ai:=ZZ (fun W e h=>ZwZ r w.heap.size e W h)
 have ah:=ZZ (fun W e h=>Zxa r w.heap.size e W h)
 have y:Hid (∀ W,Below (w.heap.size+1) (w.alloc (.cells (Zeo r) 62)) W->Br W w.heap.size (Zeo r)):=ZZ (fun W h=>(h.block w.heap.size (by omega)).trans HX.o)
 have ao:∀ (fn:Fn) (first cap:Array Value) (w:World),(Instr.makeFunc fn first cap).run prog w=.ok (.func fn first cap) w:=fun _ _ _ _=>rfl
 have ad:=ZZ (fun W v l h h2=>ZiI v l W h h2)
 clear O Y R m u;unfold ZuH Zeo at *
 go_enter func43,ntmps43
 go_wp2_with fail
 refine(ad.o _ _ t T.o (by omega)).mono ?_
 rintro x W1 ⟨v1,rfl,K,H⟩;rw[am] at K H;have ac:=ZZ K;have j:=ZZ H;clear K H;have Q:=ZZ (ZkW 84 w.heap.size (fun e=>decide (e.proc=r.proc)) v1 t (w.heap.size+1) W1 ac.o A.o (by have:=j.o.size;omega) (by omega) al.o (fun W e h=>ai.o W e (y.o W (j.o.trans h))))
 go_wp2_with fail
 refine Q.o.mono ?_;rintro x W2 ⟨v2,rfl,B,Z⟩;rw[U.o] at B;have c:=ZZ B;have g:=ZZ (j.o.trans Z);have aa:=ZZ (Zzl (p:=r.proc) A.o);have J:(Zrx r.proc t).length<=2000:=Nat.le_trans (Zzj _ _) D;clear B Z Q ac j T A U;obtain⟨a,V⟩:∃ a,a=Zrx r.proc t:=⟨_,rfl⟩;rw[<-V] at c aa X J;clear V;have P:=ZZ (ZgF 85 w.heap.size (fun e=>decide (r.proc<e.proc)) v2 a W2 (c.o.rd aa.o) ae.o (fun W e h=>ah.o W e (y.o W (g.o.trans (h.mono (by have:=g.o.size;omega))))))
 obtain⟨va,vc,ak⟩:=c.o.shape;subst ak
 go_wp2_with fail
 refine P.o.mono ?_;rintro x E ⟨k,rfl,F,q⟩;have af:=ZZ (c.o.below q zL);have G:=ZZ (g.o.trans (q.mono (by have:=g.o.size;omega)))
 have L:=ZZ (y.o E G.o);have ab:=ZZ (S.o.trans (G.o.mono (by omega)))
 have aj:w.heap.size+1<=E.heap.size:=by have:=G.o.size;omega
 clear q P c g;obtain⟨q1,f1⟩:=L.o.cell 1;obtain⟨q2,f2⟩:=L.o.cell 2;obtain⟨q4,f4⟩:=L.o.cell 6;have C:=ZpG r.proc a;have i:=ZZ (fun I hI N hN=>ZrE (.slice va a.length vc) a (w.heap.size+1) E af.o aj (by omega) (Zdu r.proc a) C ⟨r.proc,r.seq,r.resp⟩ ag.o I hI N hN)
 rw[<-X.o] at i;unfold ZfM at i;have ap:(a.length:Int)<=2000:=by omega
 rcases ZuI F with ⟨hk,b⟩ | ⟨hk,b⟩
 ·clear F
  have n:=ZZ b;clear b C J D
  go_wp2_with fail
  refine(i.o _ (by rw[n.o]) _ rfl).mono ?_
  rintro x W4 ⟨v4,rfl,d,f⟩;have M:=ZZ (d.mono (B':=w.heap.size) (by omega))
  have z:=ZZ (ab.o.trans (f.mono (by omega)))
  clear d f;go_wp2;go_ret;exact⟨_,rfl,M.o,z.o⟩
 ·clear F
  have an:¬ k<0:=by omega
  have n:=ZZ b;clear b C J D
  go_wp2_with fail
  refine(i.o _ n.o _ rfl).mono ?_;rintro x W4 ⟨v4,rfl,d,f⟩;have M:=ZZ (d.mono (B':=w.heap.size) (by omega))
  have z:=ZZ (ab.o.trans (f.mono (by omega)))
  clear d f;go_wp2;go_ret;exact⟨_,rfl,M.o,z.o⟩
def Bn (w:World) (b:Nat) (cs:Array Value):Prop:=w.heap[b]?=some (.cells cs 41 (0,0))
theorem Bn.lt (h:Bn w b cs):b<w.heap.size:=(Array.getElem?_eq_some_iff.1 h).1
theorem Bn.below (h:Bn w b cs) (a:Below B w w') (c:w.heap.size<=B):Bn w' b cs:=(a.block b (by have:=h.lt;omega)).trans h
theorem Bn.cell (h:Bn w b cs) (j:Nat):w.cell? ⟨b,j,none⟩=cs[j]?∧w.frozen? ⟨b,j,none⟩=false:=⟨cell_of_row w b j _ _ _ h,frozen_of_row w b j _ _ h⟩
theorem Zhc (w:World) (X Y:Obj):((w.alloc X).alloc Y).heap[w.heap.size+1]?=some Y:=by
 have h:=heap_alloc_new (w.alloc X) Y;have e:(w.alloc X).heap.size=w.heap.size+1:=by simp
 rw[e] at h;exact h
def ZrG (a b:ZaW):Prop:=ZoY a.st b.st∧a.idx=b.idx∧a.tab=b.tab
instance (a b:ZaW):Decidable (ZrG a b):=by unfold ZrG;infer_instance
theorem Znb {q:Nat} (h:q<l.length):l.take (q+1)=l.take q++[l.getD q ZaP]:=by
 rw[take_add_one];simp[List.getD,h]
theorem RdE.but (h:RdE w v l) {R T:Nat} (p:But R T w w') (hn:l=[]∨∀ b,v.ownBlock=some b->b≠R∧b≠T):RdE w' v l:=by
 obtain⟨ao,cap,rfl,q,i,t,k,a⟩:=h;refine⟨ao,cap,rfl,q,i,t,k,?_⟩;rcases a with a | ⟨b,m,f,n⟩
 ·exact .inl a
 ·by_cases e:l=[]
  ·exact .inl e
  ·refine .inr ⟨b,m,f,fun j g=>?_⟩
   have d:=n j g;rcases hn with hn | hn
   ·exact absurd hn e
   ·have c:=hn b (by rw[f];rfl)
    exact d.keep (p.block b d.lt c.1 c.2)
theorem RdE.block (h:RdE w v l):l=[]∨∀ b,v.ownBlock=some b->b<w.heap.size:=by
 obtain⟨ao,cap,rfl,m,i,n,j,a⟩:=h;rcases a with a | ⟨b,k,rfl,f⟩
 ·exact .inl a
 ·by_cases d:l=[]
  ·exact .inl d
  ·refine .inr fun c g=>?_
   have e:b=c:=by simpa[Value.ownBlock] using g
   rw[<-e];exact(f 0 (List.length_pos_iff.2 d)).lt
theorem RdI.old {l:List Int} (h:RdI w v l):l=[]∨∀ b,v.ownBlock=some b->b<w.heap.size:=by
 rcases h.block with h | ⟨_,b,d,e⟩
 ·exact .inl h
 ·refine .inr fun c a=>?_
  rw[d] at a
  injection a with a
  omega
theorem Zbt.fresh (h:Zbt w B v l):∀ b,v.ownBlock=some b->B<=b:=fun b a=>(World.ownsRow.lt h b a).1
def Zfv (w:World) (r:ZaW × Int) (e:Ending) (w':World):Prop:=
 ∃ vl vt,e=.returned (.tuple #[.agg #[.int .i64 r.1.idx,.int .i64 r.1.st.kind,vl,.bool r.1.st.shut,.int .i64 r.1.st.eng,vt],.int .i64 r.2])∧RdI w' vl r.1.st.L∧I64 r.1.st.kind∧I64 r.1.st.eng∧RdE w' vt r.1.tab∧I64 r.1.idx∧(∀ b,vl.ownBlock=some b->w.heap.size<=b)∧(∀ b,vt.ownBlock=some b->w.heap.size<=b)∧Below w.heap.size w w'
theorem Zfv.zero (n:Int) (a:Below w.heap.size w w'):Zfv w (Zbl,n) (.returned (.tuple #[.agg #[.int .i64 0,.int .i64 0,.slice none 0 0,.bool false,.int .i64 0,.slice none 0 0],.int .i64 n])) w':=
 ⟨_,_,rfl,RdI.nil _,(Zai (by decide) (by decide):I64 0),(Zai (by decide) (by decide):I64 0),RdE.nil _,(Zai (by decide) (by decide):I64 0),fun b a=>by simp[Value.ownBlock] at a,fun b a=>by simp[Value.ownBlock] at a,a⟩
theorem SnV.below {s:ZaW} (h:SnV w v s) {B:Nat} (b:Below B w w') (a:w.heap.size<=B):SnV w' v s:=by
 obtain⟨f,d,e,c,g,i,j,k⟩:=h;exact⟨f,d,e,c.below b a,g,i,j.below b a,k⟩
def six (w:World) (R:Nat) (x0 x1 x2 x3 x4 x5:Value):World:=(((((w.setCell ⟨R,0,none⟩ x0).setCell ⟨R,1,none⟩ x1).setCell ⟨R,2,none⟩ x2).setCell ⟨R,3,none⟩ x3).setCell ⟨R,4,none⟩ x4).setCell ⟨R,5,none⟩ x5
theorem ZhM {b:World} (h:Below C b w) (R:Nat) (a:C<=R) (e i g c f d:Value):Below C b (six w R e i g c f d):=
 (((((h.setCell a _).setCell a _).setCell a _).setCell a _).setCell a _).setCell a _
theorem Zei (h:Below C d w) (R:Nat) (i:C<=R) (c g f a e b:Value):Below C d ((((((w.setCell ⟨R,0,none⟩ c).setCell ⟨R,1,none⟩ g).setCell ⟨R,2,none⟩ f).setCell ⟨R,3,none⟩ a).setCell ⟨R,4,none⟩ e).setCell ⟨R,5,none⟩ b):=ZhM h R i c g f a e b
theorem Ztp (w:World) (R:Nat) (b e d a c f:Value):But R R w (six w R b e d a c f):=
 ((((((But.refl R R w).set _ _ (.inl rfl) _).set _ _ (.inl rfl) _).set _ _ (.inl rfl) _).set _ _ (.inl rfl) _).set _ _ (.inl rfl) _).set _ _ (.inl rfl) _
theorem Bn.set (h:Bn w b cs) (j:Nat) (x:Value):Bn (w.setCell ⟨b,j,none⟩ x) b (cs.setIfInBounds j x):=by
 have:=heap_setCell_same w b j _ _ x h;unfold Bn;simpa using this
theorem Bn.other (h:Bn w b cs) (j:Nat) (x:Value) (a:b≠c):Bn (w.setCell ⟨c,j,none⟩ x) b cs:=(Below.heap_setCell _ _ _ _ a).trans h
end Go.Proofs.YtnahjngbneicaaaGreatDoor
