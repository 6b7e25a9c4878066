import Derived.Test.YtnahjngbneicaaaGreatDoorPack4
import Derived.Shelf.Slices.Empties2
import Derived.Shelf.Slices.Clone
import Derived.Shelf.Slices.Cells
import Derived.Shelf.Spec.SlicesInsertGrow
import Derived.Deep.DeepAppendWide
namespace Go.Proofs.YtnahjngbneicaaaGreatDoor
open _root_.Go.Proofs.Tryz
open List (append_nil drop_drop eq_nil_of_length_eq_zero length_append length_cons length_drop length_set length_take map_cons map_nil mem_cons take_add_one take_length)
set_option maxHeartbeats 4000000
set_option maxRecDepth 100000
open Go.RowKit
variable {a w w':World} {B B' C b c cap g i j n o:Nat} {cs cur:Array Value} {e:Ent} {v v':Value} {L l t:List Ent} {p:Int}
def Zrm (e:Ent):Value:=.agg #[.int .i64 e.proc,.int .i64 e.seq,.int .i64 e.resp]
def Jq (e:Ent):Array Value:=#[.int .i64 e.proc,.int .i64 e.seq,.int .i64 e.resp]
def ZkN (e:Ent):Prop:=I64 e.proc∧I64 e.seq∧I64 e.resp
def Be (w:World) (b:Nat) (cs:Array Value):Prop:=w.heap[b]?=some (.cells cs 85 (0,0))
theorem Be.lt (h:Be w b cs):b<w.heap.size:=(Array.getElem?_eq_some_iff.1 h).1
theorem Be.below (h:Be w b cs) (a:Below B w w') (c:w.heap.size<=B):Be w' b cs:=(a.block b (by have:=h.lt;omega)).trans h
theorem Be.cell (h:Be w b cs) (j:Nat):w.cell? ⟨b,j,none⟩=cs[j]?∧w.frozen? ⟨b,j,none⟩=false:=⟨cell_of_row w b j _ _ _ h,frozen_of_row w b j _ _ h⟩
def Zmp (w:World) (b o:Nat) (e:Ent):Prop:=
 w.cell? ⟨b,o,none⟩=some (.int .i64 e.proc)∧w.cell? ⟨b,o+1,none⟩=some (.int .i64 e.seq)∧w.cell? ⟨b,o+2,none⟩=some (.int .i64 e.resp)
theorem Zmp.lt (h:Zmp w b o e):b<w.heap.size:=World.block_lt_of_cell? w ⟨b,o,none⟩ h.1
theorem Zmp.keep (h:Zmp w b o e) (c:w'.heap[b]?=w.heap[b]?):Zmp w' b o e:=by
 have d:∀ i,w'.cell? ⟨b,i,none⟩=w.cell? ⟨b,i,none⟩:=fun i=>World.cell?_of_block (a:=⟨b,i,none⟩) c
 unfold Zmp at h ⊢;simp only [d];exact h
def RdE (w:World) (v:Value) (l:List Ent):Prop:=
 ∃ ao cap,v=.slice ao l.length cap∧l.length<=cap∧cap<=maxLen∧(ao=none->cap=0)∧(∀ e ∈ l,ZkN e)∧
  (l=[]∨∃ b off,ao=some ⟨b,off,none⟩∧∀ j,j<l.length->Zmp w b (off+j*3) (l.getD j Q8))
theorem RdE.nil (w:World):RdE w (.slice none 0 0) []:=⟨none,0,rfl,Nat.le_refl _,Nat.zero_le _,fun _=>rfl,(fun r h=>by simp at h),.inl rfl⟩
theorem RdE.below (h:RdE w v l) {B:Nat} (d:Below B w w') (t:w.heap.size<=B):RdE w' v l:=by
 obtain⟨ao,cap,k,e,n,m,i,a⟩:=h;refine⟨ao,cap,k,e,n,m,i,?_⟩;rcases a with a | ⟨b,p,g,q⟩
 ·exact .inl a
 ·refine .inr ⟨b,p,g,fun j f=>?_⟩
  have c:=q j f;exact c.keep (d.block b (by have:=c.lt;omega))
def Qg:List Ent->List Value
 | []=>[]
 | r::t=>(Jq r).toList++Qg t
theorem Q7:∀ l:List Ent,(Qg l).length=l.length*3
 | []=>rfl
 | r::t=>by
  rw[Qg,length_append,Q7 t,length_cons];simp[Jq];omega
theorem Zaw:∀ a b:List Ent,Qg (a++b)=Qg a++Qg b
 | [],_=>rfl
 | r::t,b=>by rw[List.cons_append,Qg,Zaw t b,Qg,List.append_assoc]
theorem Y4:∀ (l:List Ent) (j k:Nat),j<l.length->k<3->(Qg l)[j*3+k]?=(Jq (l.getD j Q8))[k]?
 | r::t,0,k,_,hk=>by
  rw[Qg,Nat.zero_mul,Nat.zero_add,List.getElem?_append_left (by simp[Jq];omega)]
  simp[List.getD]
 | r::t,j+1,k,hj,hk=>by
  have e:(j+1)*3+k=(Jq r).toList.length+(j*3+k):=by simp[Jq];omega
  rw[Qg,e,List.getElem?_append_right (by omega),Nat.add_sub_cancel_left,Y4 t j k (by simpa using hj) hk]
  simp[List.getD]
theorem Zac (l:List Ent):∀ u ∈ Qg l,u.oneCell'=true:=by
 induction l with
 | nil=>intro u a;simp[Qg] at a
 | cons r t b=>
  intro u a;rw[Qg] at a;rcases List.mem_append.1 a with h | h
  ·simp[Jq] at h
   rcases h with rfl | rfl | rfl <;> rfl
  ·exact b u h
def Xc (w:World) (B:Nat) (v:Value) (l:List Ent):Prop:=w.ownsRow B 85 3 v l.length (Qg l)
theorem Xc.nil (w:World) (B:Nat):Xc w B (.slice none 0 0) []:=World.ownsRow_nil w B 85 3
theorem Xc.rd (h:Xc w B v l) (c:∀ r ∈ l,ZkN r):RdE w v l:=by
 rcases h.2 with ⟨a,d⟩ | ⟨g,cap,cur,a,q,y,m,p,x,t⟩
 ·exact⟨none,0,by rw[a,d],by omega,Nat.zero_le _,fun _=>rfl,c,.inl (eq_nil_of_length_eq_zero d)⟩
 ·refine⟨some ⟨g,0,none⟩,cap,a,m,p,(fun e=>by cases e),c,.inr ⟨g,0,rfl,fun j i=>?_⟩⟩
  have b:∀ k u,k<3->(Jq (l.getD j Q8))[k]?=some u->w.cell? ⟨g,0+j*3+k,none⟩=some u:=fun k u f n=>by
   have:=World.ownsRow.cells h (g:=g) (by rw[a];rfl) (j*3+k) u ((Y4 l j k i f).trans n)
   rw[Addr.add_lit] at this;rw[Nat.add_assoc];exact this
  exact⟨b 0 _ (by decide) rfl,b 1 _ (by decide) rfl,b 2 _ (by decide) rfl⟩
theorem Xc.below (h:Xc w B v l) (c:Below B' w w') (j:w.heap.size<=B'):Xc w' B v l:=by
 obtain⟨d,a⟩:=h;refine⟨d,?_⟩;rcases a with a | ⟨g,cap,cur,e,f,b,r⟩
 ·exact .inl a
 ·have i:g<w.heap.size:=(Array.getElem?_eq_some_iff.1 b).1
  exact .inr ⟨g,cap,cur,e,f,by rw[c.block g (by omega)];exact b,r⟩
theorem Xc.mono (h:Xc w B v l) (e:B'<=B):Xc w B' v l:=by
 obtain⟨b,a⟩:=h;refine⟨b,?_⟩;rcases a with a | ⟨g,cap,cur,c,d,r⟩
 ·exact .inl a
 ·exact .inr ⟨g,cap,cur,c,by omega,r⟩
theorem Xc.shape (h:Xc w B v l):∃ ao cap,v=.slice ao l.length cap:=by
 rcases h.2 with ⟨a,b⟩ | ⟨g,cap,cur,a,_⟩
 ·exact⟨none,0,by rw[a,b]⟩
 ·exact⟨_,_,a⟩
theorem RdE.shape (h:RdE w v l):∃ ao cap,v=.slice ao l.length cap:=by
 obtain⟨ao,cap,a,_⟩:=h;exact⟨ao,cap,a⟩
theorem ZgD:(prog.info? 85).map (fun i=>(i.zero,i.size,i.bytes))=some (some (.agg #[.int .i64 0,.int .i64 0,.int .i64 0]),3,24):=by kernel_rfl
theorem ZiZ (w:World) (ty:TypeId) (B:Nat) (v:Value) (l:List Ent) (h:Xc w B v l) (r:Ent) (q:l.length<=1000000) (g:B<=w.heap.size):
 ∃ v' w',(Builtin.append_ #[39,39] ty #[v,.slice (some ⟨w.heap.size,0,none⟩) 1 1]).run prog (w.alloc (.cells (Jq r) 85))=.ok v' w'∧Xc w' B v' (l++[r])∧Below B w w':=by
 obtain⟨p,e,m,d,c⟩:=info_parts ZgD
 obtain⟨v',w',i,n,f,_⟩:=run_append_own (P:=prog) (w.alloc (.cells (Jq r) 85)) B 39 ty 85 p _ 3 24 underlying39 e m d c rfl (by decide) v l.length (Qg l) (h.alloc _)
  ⟨w.heap.size,0,none⟩ 1 1 (Qg [r]) (Q7 [r]) (fun j u b=>by
   rw[Addr.add_lit,Nat.zero_add,cell_of_row _ w.heap.size j _ 85 (0,0) (heap_alloc_new w _)]
   simpa[Qg] using b) (Zac [r]) (by unfold maxLen;omega) (by omega) (by simp;omega)
 refine⟨v',w',i,?_,?_⟩
 ·unfold Xc
  rw[length_append,Zaw];exact n
 ·exact((Below.refl _ _).alloc g _).grown f (by simp;omega) (fun k a=>(World.ownsRow.lt h k a).1)
theorem Zfp (w:World) {b:Array Oper} {rest:List Oper} {o:Oper} {a:Act} {Q:Exit->Act->World->Prop} (j:o.guard=none) (s x:Operand)
 (p:o.op=.call { callee:=.builtin .append,args:=#[s,x],argTypes:=#[39,39] })
 (B:Nat) (v:Value) (l:List Ent) (g:a.eval s=v) (e:Xc w B v l) (r:Ent) (k:a.eval x=.slice (some ⟨w.heap.size,0,none⟩) 1 1)
 (f:l.length<=1000000) (m:B<=w.heap.size)
 (h:∀ v' w',Xc w' B v' (l++[r])->Below B w w'->wpList prog b Q rest (a.put o.dst v') w'):wpList prog b Q (o::rest) a (w.alloc (.cells (Jq r) 85)):=
 wpList_plain j fun _ d=>by
  obtain⟨v',w',n,c,i⟩:=ZiZ w o.type B v l e r f m;unfold Oper.wp execOp;simp only [p,resolve,invoke,builtin,Sem.run_bind,Sem.run_pure,Result.andThen_ok,List.map_toArray,map_cons,map_nil,g,k,n];exact d _ _ (h v' w' c i)
def SnV (w:World) (v:Value) (s:Qv):Prop:=
 ∃ vl vt,v=.agg #[.int .i64 s.idx,.int .i64 s.st.kind,vl,.bool s.st.shut,.int .i64 s.st.eng,vt]∧RdI w vl s.st.L∧I64 s.st.kind∧I64 s.st.eng∧RdE w vt s.tab∧I64 s.idx
def J1 (p:Int):List Ent->Nat
 | []=>0
 | x::t=>if p<x.proc then 0 else J1 p t+1
theorem Zmq (p:Int):∀ t,J1 p t<=t.length
 | []=>Nat.le_refl _
 | x::t=>by
  rw[J1];split
  ·exact Nat.zero_le _
  ·have:=Zmq p t
   rw[length_cons];omega
def Zoh (p:Int) (t:List Ent):List Ent:=t.filter (fun x=>decide (x.proc≠p))
theorem ZvT (p:Int) (t:List Ent):(Zoh p t).length<=t.length:=List.length_filter_le _ _
theorem Zmr (e:Ent):∀ t:List Ent,ZcE t e=(Zoh e.proc t).take (J1 e.proc (Zoh e.proc t))++(e::(Zoh e.proc t).drop (J1 e.proc (Zoh e.proc t)))
 | []=>rfl
 | x::t=>by
  have b:=Zmr e t;unfold ZcE at b ⊢;unfold Zoh at b ⊢
  have d:(x::t).filter (fun y=>decide (y.proc≠e.proc))=if x.proc=e.proc then t.filter (fun y=>decide (y.proc≠e.proc)) else x::t.filter (fun y=>decide (y.proc≠e.proc)):=by
   rw[List.filter_cons];by_cases h:x.proc=e.proc <;> simp[h]
  rw[Zfh,d];by_cases c:x.proc=e.proc
  ·have a:¬ e.proc<x.proc:=by omega
   simp only [c,if_true];rw[if_neg (by simp),decide_eq_false (by omega),Bool.false_or,b]
   rfl
  ·simp only [if_neg c]
   by_cases a:e.proc<x.proc
   ·rw[if_pos (by simp[a]),decide_eq_true a,Bool.or_true,Zfi,J1,if_pos a]
    rfl
   ·rw[if_neg (fun h=>a h.2),decide_eq_false a,Bool.or_false,J1,if_neg a,b]
    rfl
theorem ZjG:∀ {t:List Ent},(∀ j,j<t.length->¬ p<(t.getD j Q8).proc)->J1 p t=t.length
 | [],_=>rfl
 | x::t,h=>by
  have a:=h 0 (by simp)
  rw[show(x::t).getD 0 Q8=x from rfl] at a;rw[J1,if_neg a,ZjG (fun j b=>h (j+1) (by simpa using b))]
  rfl
theorem Zms:∀ {t:List Ent} {i:Nat},i<t.length->(∀ j,j<i->¬ p<(t.getD j Q8).proc)->p<(t.getD i Q8).proc->J1 p t=i
 | [],i,hi,_,_=>absurd hi (Nat.not_lt_zero _)
 | x::t,0,_,_,h=>by
  rw[show(x::t).getD 0 Q8=x from rfl] at h;rw[J1,if_pos h]
 | x::t,i+1,hi,hb,h=>by
  have a:=hb 0 (by omega)
  rw[show(x::t).getD 0 Q8=x from rfl] at a;rw[J1,if_neg a,Zms (i:=i) (by simpa using hi) (fun j b=>hb (j+1) (by omega)) h]
theorem ZtA {b:List UInt8} {r:List Ent × List UInt8} (h:Zbf n b=some r):n<=b.length:=by
 obtain⟨t,x⟩:=r;obtain⟨c,a⟩:=ZdH n b t x h;have:=Zth t;rw[a,length_append];omega
theorem Zmt {b:List UInt8} (c:(Qb b).2≠0):ZbK b=(Zbf (Qb b).1 (b.drop (Qb b).2)).bind (fun r=>if r.2=[] then some r.1 else none):=by
 unfold ZbK;by_cases a:b.length<(Qb b).1
 ·rw[if_pos (.inr a)]
  cases h:Zbf (Qb b).1 (b.drop (Qb b).2) with
  | none=>rfl
  | some r=>
   have:=ZtA h;rw[length_drop] at this;omega
 rw[if_neg (by omega)]
 cases Zbf (Qb b).1 (b.drop (Qb b).2) with
 | none=>rfl
 | some p=>
  obtain⟨t,x⟩:=p
  cases x <;> rfl
theorem Zoi {l:List UInt8} {a:Nat} (h:a<l.length):Xu (l.drop a)=(l.drop a).take 64::Xu (l.drop (a+64)):=by
 rw[Y7 (fun e=>by
  have:=congrArg List.length e;rw[length_drop,List.length_nil] at this
  omega),drop_drop]
theorem ZtB (P:List (List UInt8)):Zfg P↔P=Xu P.flatten:=
 ⟨fun h=>(ZcD P h).symm,fun h=>by rw[h];exact ZfN _ _ zL⟩
theorem ZtC (e:Ent):Qw ⟨0,e.proc,e.seq,⟨0,0,0⟩,e.resp⟩↔ZbZ e:=by
 unfold Qw ZbZ Jg;simp only;omega
def ZhA (t:List Ent):Nat->Int
 | 0=>0
 | k+1=>(t.getD k Q8).proc+1
theorem Zoj {k:Nat}:Jh t (k+1)↔Jh t k∧ZbZ (t.getD k Q8)∧ZhA t k<=(t.getD k Q8).proc:=by
 rw[Jh.next];constructor
 ·rintro⟨h1,h2,h3⟩
  refine⟨h1,h2,?_⟩
  cases k with
  | zero=>exact h2.1
  | succ k=>
   have:=h3 (by omega)
   rw[Nat.add_sub_cancel] at this;rw[ZhA];omega
 ·rintro⟨h1,h2,h3⟩
  refine⟨h1,h2,fun h=>?_⟩
  cases k with
  | zero=>omega
  | succ k=>
   rw[ZhA] at h3;rw[Nat.add_sub_cancel];omega
theorem ZtD (i:Int) (t:List Ent):¬ Zdk ⟨i,ZcA,t⟩:=by
 rintro⟨-,h,-⟩
 revert h
 show ¬ X8 ZcA;decide
def Y0:Nat->List UInt8->Option (List Nat × List UInt8)
 | 0,b=>some ([],b)
 | n+1,b=>if(Qb b).2=0 then none else(Y0 n (b.drop (Qb b).2)).map (fun r=>((Qb b).1::r.1,r.2))
theorem ZaI {P:Program} (w:World) (l B ty c:TypeId) (k:Nat) (b o d p:Nat) (a:Addr) (e z:Nat) (cs:List Value)
 (u:P.underlying l=some (.slice c)) (g:(P.info? c).map (·.size)=some k) (x:cs.length=Nat.min e d*k)
 (t:∀ j v,cs[j]?=some v->w.cell? (a.add j)=some v) (m:∀ j,j<cs.length->(w.cell? ⟨b,o+j,none⟩).isSome=true) (A:∀ j,j<cs.length->w.frozen? ⟨b,o+j,none⟩=false) (n:∀ v ∈ cs,v.oneCell'=true):
 (Builtin.copy_ #[l,B] ty #[.slice (some ⟨b,o,none⟩) d p,.slice (some a) e z]).run P w=.ok (goInt (Nat.min e d)) (w.setCells b o cs):=by
 have f:=run_loadCells_list (P:=P) w a cs t;have q:=run_storeCells_cells (P:=P) b o cs 0 w (by simpa using m) (by simpa using A) n
 cases hq:P.info? c with
 | none=>simp[hq] at g
 | some i=>
  have y:i.size=k:=by simpa[hq] using g
  rw[x] at f;simp[Builtin.copy_,run_underlying u,Builtin.lenOf,Builtin.firstCells,sizeOf,typeInfo,hq,y,f,q]
def Zbo:Nat->List Value
 | 0=>[]
 | n+1=>.int .i64 0::.int .i64 0::.int .i64 0::Zbo n
theorem Jl:∀ n,(Zbo n).length=n*3
 | 0=>rfl
 | n+1=>by rw[Zbo,length_cons,length_cons,length_cons,Jl n];omega
theorem Zfq:∀ n,∀ v ∈ Zbo n,v=.int .i64 0
 | 0,v,h=>by simp[Zbo] at h
 | n+1,v,h=>by
  rw[Zbo,mem_cons,mem_cons,mem_cons] at h;rcases h with h | h | h | h
  ·exact h
  ·exact h
  ·exact h
  ·exact Zfq n v h
theorem ZjH (n:Nat):(Builtin.zeroCells (Value.agg #[.int .i64 0,.int .i64 0,.int .i64 0]).cells n).toList=Zbo n:=by
 have c:(Value.agg #[.int .i64 0,.int .i64 0,.int .i64 0]).cells=#[.int .i64 0,.int .i64 0,.int .i64 0]:=by rfl
 rw[c];apply List.ext_getElem?;intro i;by_cases h:i<n*3
 ·have a:i<(Zbo n).length:=by rw[Jl];exact h
  have f:(Zbo n)[i]?=some (.int .i64 0):=by
   rw[List.getElem?_eq_getElem a,Zfq n _ (List.getElem_mem a)]
  rw[f];have g:i % 3=0∨i % 3=1∨i % 3=2:=by omega
  simp only [Builtin.zeroCells,Array.getElem?_toList,Array.getElem?_map];have b:(Array.range (n*(#[Value.int .i64 0,.int .i64 0,.int .i64 0]:Array Value).size))[i]?=some i:=by simp[h]
  rw[b];have d:(#[Value.int .i64 0,.int .i64 0,.int .i64 0]:Array Value).size=3:=rfl;rw[d];rcases g with e | e | e <;> rw[Option.map_some,e] <;> rfl
 ·rw[List.getElem?_eq_none (by simp[Builtin.zeroCells];omega),List.getElem?_eq_none (by rw[Jl];omega)]
theorem ZhB {P:Program} (w:World) (t e ty:TypeId) (i:P.underlying t=some (.slice e)) (g:∀ w,(zeroValue e).run P w=.ok (.agg #[.int .i64 0,.int .i64 0,.int .i64 0]) w) (b o n c:Nat) (l:0<n)
 (d:∀ j,j<n*3->(w.cell? ⟨b,o+j,none⟩).isSome=true) (k:∀ j,j<n*3->w.frozen? ⟨b,o+j,none⟩=false):
 (Builtin.clear_ #[t] ty #[.slice (some ⟨b,o,none⟩) n c]).run P w=.ok (.tuple #[]) (w.setCells b o (Zbo n)):=by
 have a:=run_storeCells_cells (P:=P) b o (Zbo n) 0 w (by rw[Jl];simpa using d) (by rw[Jl];simpa using k) (by intro v f;rw[Zfq n v f];rfl)
 simp only [Nat.add_zero] at a;obtain⟨m,rfl⟩:∃ m,n=m+1:=⟨n-1,by omega⟩
 simp[Builtin.clear_,run_underlying i,g,ZjH,a]
def Zok (r s:Ent):Bool:=r.proc == s.proc && r.seq == s.seq && r.resp == s.resp
theorem ZtE (w:World) (r s:Ent):(binOp .neq 85 (.agg #[.int .i64 r.proc,.int .i64 r.seq,.int .i64 r.resp]) (.agg #[.int .i64 s.proc,.int .i64 s.seq,.int .i64 s.resp])).run prog w=.ok (.bool (!Zok r s)) w:=by
 have e:=underlying3;have d:=Tryz.isAgg3;have c:=Tryz.sizeOf3;have a:prog.underlying 85=some (.struct (prog.fieldsOf 85)):=by kernel_rfl
 have b:prog.stoodInHeld 85=false:=by kernel_rfl
 unfold Zok;rw[run_neq_struct,show(10000:Nat)=9999+1 from rfl,run_equalIn_agg w 9999 85 _ _ a b];simp only [Program.fieldsOf,underlying85]
 go_simp
 repeat' split
 all_goals simp_all
theorem ZtF:prog.eqGuardType prog.depth 85=false:=by kernel_rfl
theorem Zmu (r s:Ent):Zok r s=true↔r=s:=by
 obtain⟨i,p,q⟩:=r;obtain⟨b,a,c⟩:=s;simp[Zok];constructor
 ·rintro⟨⟨rfl,rfl⟩,rfl⟩
  simp
 ·rintro⟨rfl,rfl,rfl⟩
  simp
theorem Zrn (r:Ent):Zok r r=true:=(Zmu r r).2 rfl
theorem ZtG {r s:Ent} (h:r≠s):Zok r s=false:=by
 cases hq:Zok r s
 ·rfl
 ·exact absurd ((Zmu _ _).1 hq) h
open Go.RowKit Go.Shelf
def ZvU:Go.Shelf.Ren:=⟨fun | 111=>89 | n=>n,fun | 28=>23 | 3=>3 | 4=>4 | 0=>0 | n=>n,fun | n=>n⟩
theorem Zza:Go.Proofs.Lays.n111 prog ZvU:={
 mixed:=by kernel_rfl
 f111:=func89.trans (congrArg some (by kernel_rfl))
 t0:=underlying0
 a0:=Tryz.isAgg0
 z0:=Tryz.sizeOf0
 v0:=Tryz.zeroValue0
 t3:=underlying3
 a3:=Tryz.isAgg3
 z3:=Tryz.sizeOf3
 v3:=Tryz.zeroValue3
 t4:=underlying4
 a4:=Tryz.isAgg4
 z4:=Tryz.sizeOf4
 v4:=Tryz.zeroValue4
 t28:=underlying23
 a28:=Tryz.isAgg23
 z28:=Tryz.sizeOf23
 v28:=Tryz.zeroValue23 }
def Zro:Go.Shelf.Ren:=⟨fun | 15=>39 | n=>n,fun | 22=>23 | 3=>3 | 4=>4 | n=>n,fun | n=>n⟩
theorem ZtH:Go.Proofs.Lays2.n15 prog Zro:={
 mixed:=by kernel_rfl
 f15:=func39.trans (congrArg some (by kernel_rfl))
 t3:=underlying3
 a3:=Tryz.isAgg3
 z3:=Tryz.sizeOf3
 v3:=Tryz.zeroValue3
 t4:=underlying4
 a4:=Tryz.isAgg4
 z4:=Tryz.sizeOf4
 v4:=Tryz.zeroValue4
 t22:=underlying23
 a22:=Tryz.isAgg23
 z22:=Tryz.sizeOf23
 v22:=Tryz.zeroValue23
 i3:=by kernel_rfl }
def Zrp:Go.Shelf.Ren:=⟨fun | 23=>210 | n=>n,fun | 22=>23 | 3=>3 | 4=>4 | 0=>0 | n=>n,fun | n=>n⟩
theorem Zyp:Go.Proofs.Lays2.n23 prog Zrp:={
 mixed:=by kernel_rfl
 f23:=func210.trans (congrArg some (by kernel_rfl))
 t0:=underlying0
 a0:=Tryz.isAgg0
 z0:=Tryz.sizeOf0
 v0:=Tryz.zeroValue0
 t3:=underlying3
 a3:=Tryz.isAgg3
 z3:=Tryz.sizeOf3
 v3:=Tryz.zeroValue3
 t4:=underlying4
 a4:=Tryz.isAgg4
 z4:=Tryz.sizeOf4
 v4:=Tryz.zeroValue4
 t22:=underlying23
 a22:=Tryz.isAgg23
 z22:=Tryz.sizeOf23
 v22:=Tryz.zeroValue23
 i3:=by kernel_rfl }
def ZjI:Go.Shelf.Ren:=⟨fun | 21=>212 | 27=>223 | 28=>224 | 35=>229 | 39=>232 | n=>n,fun | 22=>23 | 3=>3 | 4=>4 | 0=>0 | n=>n,fun | n=>n⟩
theorem Zmv:Go.Proofs.Lays2.n21 prog ZjI:={
 mixed:=by kernel_rfl
 f21:=func212.trans (congrArg some (by kernel_rfl))
 f27:=func223.trans (congrArg some (by kernel_rfl))
 f28:=func224.trans (congrArg some (by kernel_rfl))
 f35:=func229.trans (congrArg some (by kernel_rfl))
 f39:=func232.trans (congrArg some (by kernel_rfl))
 t0:=underlying0
 a0:=Tryz.isAgg0
 z0:=Tryz.sizeOf0
 v0:=Tryz.zeroValue0
 t3:=underlying3
 a3:=Tryz.isAgg3
 z3:=Tryz.sizeOf3
 v3:=Tryz.zeroValue3
 t4:=underlying4
 a4:=Tryz.isAgg4
 z4:=Tryz.sizeOf4
 v4:=Tryz.zeroValue4
 t22:=underlying23
 a22:=Tryz.isAgg23
 z22:=Tryz.sizeOf23
 v22:=Tryz.zeroValue23
 i3:=by kernel_rfl }
def ZeW (cur:Array Value):Nat->List Value->Array Value
 | _,[]=>cur
 | o,v::r=>ZeW (cur.setIfInBounds o v) (o+1) r
theorem Xd:∀ (vs:List Value) (o:Nat) (cur:Array Value),(ZeW cur o vs).size=cur.size
 | [],_,_=>rfl
 | v::r,o,cur=>by rw[ZeW,Xd r];simp
theorem Yb:∀ (vs:List Value) (o:Nat) (cur:Array Value) (j:Nat),j<cur.size->(ZeW cur o vs)[j]?=if o<=j∧j<o+vs.length then vs[j-o]? else cur[j]?
 | [],o,cur,j,_=>by
  rw[ZeW,if_neg (by rw[List.length_nil];omega)]
 | v::r,o,cur,j,hj=>by
  rw[ZeW,Yb r (o+1) _ j (by simpa using hj)]
  by_cases h:j=o
  ·subst h
   rw[if_neg (by omega),if_pos (by simp)]
   simp[hj]
  ·by_cases a:o+1<=j∧j<o+1+r.length
   ·rw[if_pos a,if_pos (by simp;omega)]
    rw[show j-o=(j-(o+1))+1 by omega]
    simp
   ·rw[if_neg a,if_neg (by simp;omega)]
    simp[show ¬ o=j by omega]
theorem Xl (g:Nat) (t:TypeId):∀ (vs:List Value) (o:Nat) (w:World) (cur:Array Value),w.heap[g]?=some (.cells cur t (0,0))->(w.setCells g o vs).heap[g]?=some (.cells (ZeW cur o vs) t (0,0))
 | [],_,_,_,h=>h
 | v::r,o,w,cur,h=>by
  rw[World.setCells,ZeW];exact Xl g t r (o+1) _ _ (heap_setCell_same w g o cur t v h)
theorem Jw (b:B<=g):∀ (vs:List Value) (o:Nat) (w:World),Below B a w->Below B a (w.setCells g o vs)
 | [],_,_,h=>h
 | v::r,o,w,h=>by
  rw[World.setCells];exact Jw b r (o+1) _ (h.setCell b v)
theorem ZhC (h:Below B a w):Below B a w.drew:=⟨h.os,h.tape,h.output,h.size,h.block⟩
theorem Qo.ofRow {l:List Int} (e:B<=g) (f:w.heap[g]?=some (.cells cur 3 (0,0))) (b:l.length<=cap) (d:cap<=maxLen) (c:cur.size=cap) (i:∀ j,j<l.length->cur[j]?=some (.int .i64 (l.getD j 0))):
 Qo w B (.slice (some ⟨g,0,none⟩) l.length cap) l:=by
 refine⟨by rw[Yw,Nat.mul_one],.inr ⟨g,cap,cur,rfl,e,f,b,d,by rw[c,Nat.mul_one],?_⟩⟩
 apply List.ext_getElem?;intro j;rw[Nat.mul_one];by_cases a:j<l.length
 ·rw[List.getElem?_take_of_lt a,Y3 l j a,Array.getElem?_toList]
  exact i j a
 ·rw[List.getElem?_eq_none (by simp;omega),List.getElem?_eq_none (by rw[Yw];omega)]
theorem Qo.ofRowN {l:List Int} (a:n=l.length) (e:B<=g) (f:w.heap[g]?=some (.cells cur 3 (0,0))) (b:l.length<=cap) (d:cap<=maxLen) (c:cur.size=cap) (i:∀ j,j<l.length->cur[j]?=some (.int .i64 (l.getD j 0))):
 Qo w B (.slice (some ⟨g,0,none⟩) n cap) l:=by
 subst a;exact Qo.ofRow e f b d c i
theorem Qo.row {l:List Int} (h:Qo w B v l):(v=.slice none 0 0∧l=[])∨∃ g cap cur,v=.slice (some ⟨g,0,none⟩) l.length cap∧B<=g∧g<w.heap.size∧w.heap[g]?=some (.cells cur 3 (0,0))∧l.length<=cap∧cap<=maxLen∧cur.size=cap∧∀ j,j<l.length->cur[j]?=some (.int .i64 (l.getD j 0)):=by
 rcases h.2 with ⟨a,b⟩ | ⟨g,cap,cur,a,b,c,f,i,k,m⟩
 ·exact .inl ⟨a,eq_nil_of_length_eq_zero b⟩
 ·refine .inr ⟨g,cap,cur,a,b,(Array.getElem?_eq_some_iff.1 c).1,c,f,i,by rw[k,Nat.mul_one],fun j d=>?_⟩
  have e:=Y3 l j d;rw[<-m,Nat.mul_one,List.getElem?_take_of_lt d,Array.getElem?_toList] at e;exact e
theorem ZjJ (w:World) (q:Nat):(w.drewN q).heap=w.heap:=by
 induction q generalizing w with
 | zero=>rfl
 | succ n a=>exact a _
structure Mv (w w':World) (v v':Value):Prop where
 grown:w.grownBy w' v.ownBlock
 lies:∀ b,v'.ownBlock=some b->v.ownBlock=some b∨w.heap.size<=b
theorem Mv.size (h:Mv w w' v v'):w.heap.size<=w'.heap.size:=h.grown.size
theorem Mv.ofBelow (h:Below w.heap.size w w') (v:Value):Mv w w' v v:=⟨⟨h.os,h.tape,h.output,h.size,fun k b _=>h.block k b⟩,fun _ a=>.inl a⟩
theorem Mv.refl (w:World) (v:Value):Mv w w v v:=Mv.ofBelow (Below.refl _ _) v
theorem Mv.alloc (w:World) (v:Value) (X:Obj):Mv w (w.alloc X) v v:=Mv.ofBelow ((Below.refl _ _).alloc zL X) v
theorem Mv.trans {g i:World} {f j:Value} (a:Mv w g v f) (c:Mv g i f j):Mv w i v j:=by
 have n:=a.size;refine⟨⟨c.grown.os.trans a.grown.os,c.grown.tape.trans a.grown.tape,c.grown.output.trans a.grown.output,Nat.le_trans n c.size,fun k m d=>?_⟩,fun b l=>?_⟩
 ·rw[c.grown.block k (by omega) (fun e=>?_)]
  ·exact a.grown.block k m d
  ·rcases a.lies k e.symm with h | h
   ·exact d h.symm
   ·omega
 ·rcases c.lies b l with h | h
  ·exact a.lies b h
  ·exact .inr (by omega)
theorem Mv.drew (h:Mv w w' v v'):Mv w w'.drew v v':=⟨⟨h.grown.os,h.grown.tape,h.grown.output,h.grown.size,h.grown.block⟩,h.lies⟩
theorem Mv.below (h:Mv w w' v v') {B:Nat} {l:List Int} (a:Qo w B v l) (c:B<=w.heap.size):Below B w w':=
 ⟨h.grown.os,h.grown.tape,h.grown.output,h.size,fun k b=>h.grown.block k (by omega) (fun e=>by have:=(World.ownsRow.lt a k e.symm).1;omega)⟩
theorem Mv.app {N:Nat} (h:w.grownBy w' v.ownBlock) (d:w.heap.size=N) (a:v'.ownBlock=v.ownBlock∨∃ g,v'.ownBlock=some g∧N<=g):Mv w w' v v':=by
 refine⟨h,fun b c=>?_⟩
 rcases a with a | ⟨g,a,e⟩
 ·exact .inl (by rw[<-a];exact c)
 ·rw[a] at c
  injection c with c
  exact .inr (by omega)
theorem Zar (g:Nat):∀ (vs:List Value) (o:Nat) (w:World) (k:Nat),k≠g->(w.setCells g o vs).heap[k]?=w.heap[k]?
 | [],_,_,_,_=>rfl
 | v::r,o,w,k,h=>by
  rw[World.setCells,Zar g r (o+1) _ k h];exact Below.heap_setCell _ _ _ _ h
theorem Mv.cells {n' c':Nat} (h:Mv w w' v (.slice (some ⟨g,0,none⟩) n c)) (o:Nat) (vs:List Value):Mv w (w'.setCells g o vs) v (.slice (some ⟨g,0,none⟩) n' c'):=by
 have d:=Jw (B:=0) (g:=g) (a:=w') (Nat.zero_le _) vs o w' (Below.refl _ _);refine⟨⟨d.os.trans h.grown.os,d.tape.trans h.grown.tape,d.output.trans h.grown.output,Nat.le_trans h.size d.size,fun k i f=>?_⟩,fun b d=>h.lies b d⟩
 rw[Zar g vs o w' k (fun e=>?_)]
 ·exact h.grown.block k i f
 ·rcases h.lies g rfl with h' | h'
  ·exact f (by rw[e,h'])
  ·omega
theorem Mv.made {e:Value} (h:Mv w w' v e) (X:Obj) (n c:Nat):Mv w (w'.alloc X) v (.slice (some ⟨w'.heap.size,0,none⟩) n c):=by
 have a:=(Below.refl w'.heap.size w').alloc zL X;refine⟨⟨a.os.trans h.grown.os,a.tape.trans h.grown.tape,a.output.trans h.grown.output,Nat.le_trans h.size a.size,fun k f d=>?_⟩,fun b a=>.inr ?_⟩
 ·rw[a.block k (by have:=h.size;omega)]
  exact h.grown.block k f d
 ·have:=ZnL a
  have:=h.size;omega
theorem Mv.drewN (h:Mv w w' v v') (q:Nat):Mv w (w'.drewN q) v v':=by
 have a:=Xn (Below.refl 0 w') q;exact⟨⟨a.os.trans h.grown.os,a.tape.trans h.grown.tape,a.output.trans h.grown.output,Nat.le_trans h.size a.size,fun k c b=>by rw[ZjJ];exact h.grown.block k c b⟩,h.lies⟩
theorem Qo.put {l:List Int} (h:Qo w B v l) (j:Nat) (d:j<l.length) (n:Int):
 ∃ g cap,v=.slice (some ⟨g,0,none⟩) l.length cap∧w.cell? ⟨g,j,none⟩=some (.int .i64 (l.getD j 0))∧w.frozen? ⟨g,j,none⟩=false∧B<=g∧g<w.heap.size∧Qo (w.setCell ⟨g,j,none⟩ (.int .i64 n)) B v (l.set j n)∧Mv w (w.setCell ⟨g,j,none⟩ (.int .i64 n)) v v:=by
 rcases h.row with ⟨_,a⟩ | ⟨g,cap,cur,rfl,a,m,b,t,p,u,f⟩
 ·subst a;simp at d
 ·refine⟨g,cap,rfl,?_,frozen_of_row w g j _ _ b,a,m,?_,(Mv.refl w (.slice (some ⟨g,0,none⟩) l.length cap)).cells j [_]⟩
  ·rw[cell_of_row w g j _ _ _ b]
   exact f j d
  ·have e:l.length=(l.set j n).length:=by simp
   rw[e];refine Qo.ofRow a (heap_setCell_same w g j _ _ _ b) (by rw[<-e];exact t) p (by simpa using u) (fun i c=>?_)
   rw[<-e] at c;by_cases k:i=j
   ·subst k
    have:i<cur.size:=by omega
    simp[this,List.getD,c]
   ·have q:¬ j=i:=fun h=>k h.symm
    have:=f i c;simp[q,this,List.getD]
theorem Zfr (v:Value) (l:List Int) (w:World) (k:RdI w v l) (p:l.length<=1000000):
 Calls prog 39 #[v] w fun e w'=>∃ v',e=.returned v'∧Qo w' w.heap.size v' l∧Below w.heap.size w w':=by
 obtain⟨ao,cap,rfl,u,t,n,q,g⟩:=k
 cases ao with
 | none=>
  have j:=n rfl;have c:l=[]:=eq_nil_of_length_eq_zero (by omega)
  subst c;refine Calls.mono (Any.slices_Clone_int_nil ZtH _ cap w) ?_;rintro e w' ⟨rfl,rfl⟩;exact⟨_,rfl,Qo.nil _ _,Below.refl _ _⟩
 | some a=>
  by_cases c:l=[]
  ·subst c
   refine Calls.mono (Any.slices_Clone_int_zero ZtH a cap w) ?_;rintro e w' ⟨v',rfl,d,_,f⟩;exact⟨v',rfl,d,f⟩
  ·rcases g with g | ⟨b,m,i,j⟩
   ·exact absurd g c
   ·injection i with i
    subst i;refine Calls.mono (Any.slices_Clone_int ZtH b m l.length cap l w zL (by omega) j) ?_
    rintro e w' ⟨v',rfl,d,_,f⟩;refine⟨v',rfl,?_,f⟩;rw[take_length] at d;exact d
theorem Zrq (j:Value) (A:List Int) (i:Value) (B:List Int) (w:World) (n:RdI w j A) (l:RdI w i B):
 Calls prog 89 #[j,i] w fun e w'=>e=.returned (.bool (decide (A=B)))∧Below w.heap.size w w':=by
 obtain⟨ao,cap,rfl,K,z,I,H,d⟩:=n;obtain⟨f,a,rfl,D,C,J,G,b⟩:=l;by_cases g:A.length=B.length
 ·by_cases c:A.length=0
  ·have t:A=[]:=eq_nil_of_length_eq_zero c
   have m:B=[]:=eq_nil_of_length_eq_zero (by omega)
   subst t;subst m;refine Calls.mono (Any.slices_Equal_int_empty Zza ao f cap 0 a w (by omega)) ?_
   rintro e w' ⟨rfl,rfl⟩;exact⟨rfl,Below.refl _ _⟩
  ·rcases d with d | ⟨x,k,rfl,p⟩
   ·rw[d] at c;simp at c
   rcases b with b | ⟨v,y,rfl,u⟩
   ·have F:B.length=0:=by rw[b];rfl
    omega
   have E:cap<=9223372036854775807:=by unfold maxLen at z;omega
   have L:a<=9223372036854775807:=by unfold maxLen at C;omega
   refine Calls.mono (Any.slices_Equal_int Zza x k A.length cap v y B.length a A B w zL zL (by omega) (by omega) p u) ?_
   rintro e w' ⟨rfl,q,rfl⟩;refine⟨?_,Xn (Below.refl _ _) q⟩;rw[take_length,take_length];by_cases h:A=B
   ·rw[decide_eq_true h,beq_iff_eq.2 h]
   ·rw[decide_eq_false h,beq_eq_false_iff_ne.2 h]
 ·refine Calls.mono (Any.slices_Equal_int_lens Zza ao f A.length cap B.length a w g) ?_
  rintro e w' ⟨rfl,rfl⟩;exact⟨by rw[decide_eq_false (fun h=>g (by rw[h]))],Below.refl _ _⟩
theorem ZhD (v:Value) (l:List Int) (B:Nat) (w:World) (y:Qo w B v l) (i j:Nat) (C:i<j) (c:j<=l.length) (I J:Int) (x:I=i) (p:J=j):
 Calls prog 210 #[v,.int .i64 I,.int .i64 J] w fun e w'=>∃ v',e=.returned v'∧Qo w' B v' (l.take i++l.drop j)∧Mv w w' v v':=by
 subst x;subst p;rcases y.row with ⟨_,d⟩ | ⟨g,cap,cur,rfl,m,A,b,t,f,u,n⟩
 ·subst d;simp at c;omega
 ·unfold maxLen at f
  refine Calls.mono (Any.slices_Delete_int_cells Zyp g 0 l.length cap i j l w zL t (by omega) (by omega) c
   (fun k a=>by rw[Nat.zero_add,cell_of_row w g k _ _ _ b];exact n k a) (fun k a=>by rw[Nat.zero_add];exact frozen_of_row w g k _ _ b)) ?_
  rintro e w' ⟨rfl,q,rfl⟩;refine⟨_,rfl,?_,((Mv.refl w (.slice (some ⟨g,0,none⟩) l.length cap)).drewN q).cells _ _⟩;have z:(l.take i++l.drop j).length=l.length-(j-i):=by simp;omega
  rw[<-z];refine Qo.ofRow m (Xl g _ _ _ _ cur (by rw[ZjJ];exact b)) (by omega) (by unfold maxLen;omega) (by rw[Xd];exact u) (fun k a=>?_)
  rw[Yb _ _ _ _ (by omega),take_length,if_pos (by simp at a ⊢;omega),Nat.sub_zero,List.map_append,List.getElem?_append_left (by simpa using a)]
  exact Y3 _ k a
theorem get3 {α:Type} (A vs:List α) (i:Nat) (d:i<=A.length) (j:Nat):(A.take i++(vs++A.drop i))[j]?=if j<i then A[j]? else if j<i+vs.length then vs[j-i]? else A[j-vs.length]?:=by
 have c:(A.take i).length=i:=by simp;omega
 by_cases a:j<i
 ·rw[if_pos a,List.getElem?_append_left (by omega),List.getElem?_take_of_lt a]
 ·rw[if_neg a,List.getElem?_append_right (by omega),c]
  by_cases b:j<i+vs.length
  ·rw[if_pos b,List.getElem?_append_left (by omega)]
  ·rw[if_neg b,List.getElem?_append_right (by omega),List.getElem?_drop]
   congr 1
   omega
theorem ZcJ (A B:List Int):Qn (A++B)=Qn A++Qn B:=by simp[Qn]
theorem ZkO (A:List Int) (i:Nat):Qn (A.take i)=(Qn A).take i:=by simp[Qn]
theorem ZkP (A:List Int) (i:Nat):Qn (A.drop i)=(Qn A).drop i:=by simp[Qn]
theorem Zev (l:List Int) (i:Nat) (a:i<=l.length) (x y:Int) (j:Nat) (b:j<(l.take i++([x,y]++l.drop i)).length):
 some (.int .i64 ((l.take i++([x,y]++l.drop i)).getD j 0))=if j<i then(Qn l)[j]? else if j<i+2 then[Value.int .i64 x,.int .i64 y][j-i]? else(Qn l)[j-2]?:=by
 rw[<-Y3 _ j b,ZcJ,ZcJ,ZkO,ZkP];exact get3 (Qn l) (Qn [x,y]) i (by rw[Yw];exact a) j
theorem Zol (v:Value) (l:List Int) (B:Nat) (w:World) (ho:Qo w B v l) (hB:B<=w.heap.size) (ai:l.length<=1000000) (i:Nat) (M:i<=l.length) (I:Int) (hI:I=i) (x y:Int) (N:Nat) (hN:N=w.heap.size):
 Calls prog 212 #[v,.int .i64 I,.slice (some ⟨N,0,none⟩) 2 2] (w.alloc (.cells #[.int .i64 x,.int .i64 y] 3)) fun e w'=>∃ v',e=.returned v'∧Qo w' B v' (l.take i++([x,y]++l.drop i))∧Mv w w' v v':=by
 subst hI;subst hN;have D:Mv w (w.alloc (.cells #[.int .i64 x,.int .i64 y] 3)) v v:=Mv.alloc w v _;have H:=heap_alloc_new w (.cells #[.int .i64 x,.int .i64 y] 3);have ag:(w.alloc (.cells #[.int .i64 x,.int .i64 y] 3)).heap.size=w.heap.size+1:=by simp
 have ad:∀ k,k<w.heap.size->(w.alloc (.cells #[.int .i64 x,.int .i64 y] 3)).heap[k]?=w.heap[k]?:=fun k hk=>Below.heap_alloc _ _ _ hk
 generalize w.alloc (.cells #[.int .i64 x,.int .i64 y] 3)=W at *;have m:(l.take i++([x,y]++l.drop i)).length=l.length+2:=by simp;omega
 have q:∀ j u,[Value.int .i64 x,.int .i64 y][j]?=some u->W.cell? ⟨w.heap.size,0+j,none⟩=some u:=fun j u d=>by
  rw[Nat.zero_add,cell_of_row W w.heap.size j _ _ _ H];simpa using d
 have z:∀ u ∈ [Value.int .i64 x,.int .i64 y],u.oneCell'=true:=fun u d=>by
  simp at d;rcases d with rfl | rfl <;> rfl
 have f:=Yw l;have Y:=ZlG l;have E:(Value.int .i64 0).cells.size=1:=rfl;have Q:ZjI.t 3=3:=rfl;rcases ho.row with ⟨rfl,rfl⟩ | ⟨g,cap,cur,rfl,S,ac,hg,Z,K,L,V⟩
 ·have af:i=0:=by simpa using M
  subst af;refine Calls.mono (Any2.slices_Insert_int_end_grow Zmv none 0 0 w.heap.size 0 2 2 [] [.int .i64 x,.int .i64 y] W (by omega) (by omega) (by omega) (by omega) rfl rfl (fun _=>rfl) (fun a A=>by cases A) q z) ?_
  rintro e w' ⟨rfl,rfl⟩;rw[Q];have J:=grownCap_ge W (0+2) 0 3;have C:=grownCap_le_maxLen W (0+2) 0 3 (by unfold maxLen;omega)
  refine⟨_,rfl,?_,D.drew.made _ _ _⟩;have e2:0+2=([x,y]:List Int).length:=rfl;show Qo _ B (.slice (some ⟨W.heap.size,0,none⟩) (0+2) (grownCap W (0+2) 0 3)) [x,y];generalize grownCap W (0+2) 0 3=F at *
  exact Qo.ofRow (by omega) (heap_alloc_new W.drew _) J C (by simp[size_zeroCells,E];omega) (fun j b=>by
   have ae:j=0∨j=1:=by simp at b;omega
   rcases ae with rfl | rfl <;> (rw[Array.getElem?_append_left (by simp)];rfl))
 ·have n:W.heap[g]?=some (.cells cur 3 (0,0)):=(ad g ac).trans hg
  have O:∀ j u,(Qn l)[j]?=some u->W.cell? ⟨g,0+j,none⟩=some u:=fun j u d=>by
   have b:j<l.length:=by rw[<-f];exact(List.getElem?_eq_some_iff.1 d).1
   rw[Nat.zero_add,cell_of_row W g j _ _ _ n,V j b,<-Y3 l j b,d]
  have U:∀ j,j<l.length->cur[j]?=(Qn l)[j]?:=fun j b=>by rw[V j b,Y3 l j b]
  have ab:cap<=9223372036854775807:=by unfold maxLen at K;omega
  by_cases aa:l.length+2<=cap
  ·have T:∀ j,j<l.length+2->(W.cell? ⟨g,0+j,none⟩).isSome=true:=fun j b=>by
    rw[Nat.zero_add,cell_of_row W g j _ _ _ n,Array.getElem?_eq_getElem (by omega)]
    rfl
   have X:∀ j,j<l.length+2->W.frozen? ⟨g,0+j,none⟩=false:=fun j b=>frozen_of_row W g _ _ _ n
   by_cases R:i=l.length
   ·subst R
    refine Calls.mono (Any2.slices_Insert_int_end_room Zmv g 0 l.length cap w.heap.size 0 2 2 [.int .i64 x,.int .i64 y] W (by omega) aa ab rfl
     (fun j b=>by rw[Nat.add_assoc];exact T _ (by omega)) (fun j b=>by rw[Nat.add_assoc];exact X _ (by omega)) q z) ?_
    rintro e w' ⟨rfl,rfl⟩;refine⟨_,rfl,?_,D.cells _ _⟩;rw[<-m];refine Qo.ofRow S (Xl g _ _ _ _ cur n) (by omega) K (by rw[Xd];exact L) (fun j b=>?_)
    rw[Yb _ _ _ _ (by omega),Zev l l.length zL x y j b,Nat.zero_add]
    rw[m] at b;by_cases c:j<l.length
    ·rw[if_neg (by omega),if_pos c,U j c]
    ·rw[if_pos (by simp;omega),if_neg c,if_pos (by omega)]
   ·refine Calls.mono (Any2.slices_Insert_int_shift Zmv g 0 l.length cap i w.heap.size 0 2 2 (Qn l) [.int .i64 x,.int .i64 y] W (by omega) (by omega) aa ab (by omega) f rfl O T X q Y z
     3 3 2 cap (by simp[World.shape?,H]) (by simp[World.shape?,n,L]) (by omega) (frozen_of_row W _ _ _ _ H) (frozen_of_row W _ _ _ _ H)) ?_
    rintro e w' ⟨rfl,rfl⟩;refine⟨_,rfl,?_,(Mv.cells (n':=0) (c':=0) D.drew _ _).cells _ _⟩;rw[<-m];refine Qo.ofRow S (Xl g _ _ _ _ _ (Xl g _ _ _ _ cur n)) (by omega) K (by rw[Xd,Xd];exact L) (fun j b=>?_)
    rw[Yb _ _ _ _ (by rw[Xd];omega),Yb _ _ _ _ (by omega),Zev l i M x y j b,Nat.zero_add,Nat.zero_add]
    rw[m] at b;have P:((Qn l).drop i).length=l.length-i:=by simp[Qn]
    rw[P];by_cases c:j<i
    ·rw[if_neg (by omega),if_neg (by omega),if_pos c,U j (by omega)]
    ·by_cases p:j<i+2
     ·rw[if_pos (by simp;omega),if_neg c,if_pos p]
     ·rw[if_neg (by simp;omega),if_pos (by omega),if_neg c,if_neg p,List.getElem?_drop]
      congr 1
      omega
  ·by_cases R:i=l.length
   ·subst R
    refine Calls.mono (Any2.slices_Insert_int_end_grow Zmv (some ⟨g,0,none⟩) l.length cap w.heap.size 0 2 2 (Qn l) [.int .i64 x,.int .i64 y] W (by omega) Z (by omega) (by omega) f rfl (fun h=>by cases h)
     (fun a A j u d=>by injection A with A;subst A;rw[Addr.add_lit];exact O j u d) q z) ?_
    rintro e w' ⟨rfl,rfl⟩;rw[Q];have J:=grownCap_ge W (l.length+2) cap 3;have C:=grownCap_le_maxLen W (l.length+2) cap 3 (by unfold maxLen;omega)
    refine⟨_,rfl,?_,D.drew.made _ _ _⟩;show Qo _ B (.slice (some ⟨W.heap.size,0,none⟩) (l.length+2) (grownCap W (l.length+2) cap 3)) _;generalize grownCap W (l.length+2) cap 3=F at *;rw[<-m];refine Qo.ofRow (by omega) (heap_alloc_new W.drew _) (by omega) C (by simp[size_zeroCells,E,f];omega) (fun j b=>?_)
    rw[Zev l l.length zL x y j b];rw[m] at b;rw[Array.getElem?_append_left (by simp[f];omega),List.getElem?_toArray]
    by_cases c:j<l.length
    ·rw[if_pos c,List.getElem?_append_left (by omega)]
    ·rw[if_neg c,if_pos (by omega),List.getElem?_append_right (by omega),f]
   ·refine Calls.mono (Any2.slices_Insert_int_grow Zmv g 0 l.length cap i w.heap.size 0 2 2 (Qn l) [.int .i64 x,.int .i64 y] W (by omega) (by omega) Z (by omega) (by omega) f rfl O q Y z) ?_
    rintro e w' ⟨rfl,rfl⟩;rw[Q];have J:=grownCap_ge W (l.length+2) cap 3;have C:=grownCap_le_maxLen W (l.length+2) cap 3 (by unfold maxLen;omega)
    refine⟨_,rfl,?_,((D.made _ 0 0).drew.cells (n':=0) (c':=0) _ _).drew.cells _ _⟩;show Qo _ B (.slice (some ⟨W.heap.size,0,none⟩) (l.length+2) (grownCap W (l.length+2) cap 3)) _;generalize grownCap W (l.length+2) cap 3=F at *;have G:((Qn l).take i).length=i:=by simp[f];omega
    have P:((Qn l).drop i).length=l.length-i:=by simp[Qn]
    refine Qo.ofRowN m.symm (cur:=ZeW (ZeW (((Qn l).take i).toArray++Builtin.zeroCells (Value.int .i64 0).cells (l.length+2-i)++Builtin.zeroCells (Value.int .i64 0).cells (F-(l.length+2))) i [.int .i64 x,.int .i64 y]) (i+2) ((Qn l).drop i)) (by omega) (Xl _ _ _ _ _ _ (Xl _ _ _ _ _ _ (heap_alloc_new W _))) (by omega) C ?_ (fun j b=>?_)
    ·rw[Xd,Xd]
     simp[size_zeroCells,E,G];omega
    ·rw[Zev l i M x y j b]
     rw[m] at b
     have aj:(((Qn l).take i).toArray++Builtin.zeroCells (Value.int .i64 0).cells (l.length+2-i)++Builtin.zeroCells (Value.int .i64 0).cells (F-(l.length+2))).size=F:=by
      simp[size_zeroCells,E,G];omega
     rw[Yb _ _ _ _ (by rw[Xd];omega),Yb _ _ _ _ (by omega),P]
     by_cases c:j<i
     ·rw[if_neg (by omega),if_neg (by omega),if_pos c,Array.getElem?_append_left (by simp[size_zeroCells,E,G];omega),Array.getElem?_append_left (by simp[G];omega),List.getElem?_toArray,List.getElem?_take_of_lt c]
     ·by_cases p:j<i+2
      ·rw[if_neg (by omega),if_pos (by simp;omega),if_neg c,if_pos p]
      ·rw[if_pos (by omega),if_neg c,if_neg p,List.getElem?_drop]
       congr 1
       omega
theorem Xc.row (h:Xc w B v l):(v=.slice none 0 0∧l=[])∨
 ∃ g cap cur,v=.slice (some ⟨g,0,none⟩) l.length cap∧B<=g∧g<w.heap.size∧w.heap[g]?=some (.cells cur 85 (0,0))∧l.length<=cap∧cap<=maxLen∧cur.size=cap*3∧∀ j,j<l.length*3->cur[j]?=(Qg l)[j]?:=by
 rcases h.2 with ⟨a,k⟩ | ⟨g,cap,cur,a,c,b,i,n,m,f⟩
 ·have e:l=[]:=eq_nil_of_length_eq_zero k
  subst e;exact .inl ⟨a,rfl⟩
 ·refine .inr ⟨g,cap,cur,a,c,(Array.getElem?_eq_some_iff.1 b).1,b,i,n,m,fun j d=>?_⟩
  rw[<-f,List.getElem?_take_of_lt d,Array.getElem?_toList]
theorem Xc.ofRow (b:n=l.length) (f:B<=g) (i:w.heap[g]?=some (.cells cur 85 (0,0))) (k:l.length<=cap) (e:cap<=maxLen) (c:cur.size=cap*3) (d:∀ j,j<l.length*3->cur[j]?=(Qg l)[j]?):
 Xc w B (.slice (some ⟨g,0,none⟩) n cap) l:=by
 subst b;refine⟨by rw[Q7],.inr ⟨g,cap,cur,rfl,f,i,k,e,c,?_⟩⟩
 apply List.ext_getElem?;intro j;by_cases a:j<l.length*3
 ·rw[List.getElem?_take_of_lt a,Array.getElem?_toList]
  exact d j a
 ·rw[List.getElem?_eq_none (by simp;omega),List.getElem?_eq_none (by rw[Q7];omega)]
theorem Xc.empty (w:World) (B:Nat) (b:B<=w.heap.size):Xc (w.alloc (.cells #[] 85)) B (.slice (some ⟨w.heap.size,0,none⟩) 0 0) []:=
 Xc.ofRow (l:=[]) rfl b (heap_alloc_new w _) zL (Nat.zero_le _) rfl (fun j a=>absurd a (by simp))
theorem Zce:∀ (l:List Ent) (i:Nat),Qg (l.take i)=(Qg l).take (i*3)
 | l,0=>by simp[Qg]
 | [],i+1=>by simp[Qg]
 | x::t,i+1=>by
  rw[List.take_succ_cons,show(i+1)*3=i*3+1+1+1 by omega]
  show Value.int .i64 x.proc::.int .i64 x.seq::.int .i64 x.resp::Qg (t.take i)=(Value.int .i64 x.proc::.int .i64 x.seq::.int .i64 x.resp::Qg t).take (i*3+1+1+1);rw[Zce t i];rfl
theorem Zcf:∀ (l:List Ent) (i:Nat),Qg (l.drop i)=(Qg l).drop (i*3)
 | l,0=>by simp
 | [],i+1=>by simp[Qg]
 | x::t,i+1=>by
  rw[List.drop_succ_cons,show(i+1)*3=i*3+1+1+1 by omega]
  show Qg (t.drop i)=(Value.int .i64 x.proc::.int .i64 x.seq::.int .i64 x.resp::Qg t).drop (i*3+1+1+1);rw[Zcf t i];rfl
theorem Xc.cut (h:Xc w B (.slice (some ⟨g,0,none⟩) n cap) l) (i:Nat) (q:i<=l.length):Xc w B (.slice (some ⟨g,0,none⟩) i cap) (l.take i):=by
 rcases h.row with ⟨a,-⟩ | ⟨g',t,cur,a,d,m,k,p,c,e,f⟩
 ·cases a
 ·injection a with a h2 h3
  injection a with a
  injection a with a
  subst a h3
  exact Xc.ofRow (by rw[length_take];omega) d k (by rw[length_take];omega) c e (fun j b=>by
   rw[length_take] at b
   rw[f j (by omega),Zce,List.getElem?_take_of_lt (by omega)])
theorem Xc.cells (h:Xc w B (.slice (some ⟨g,0,none⟩) n cap) l) (o:Nat) (q:l.length*3<=o) (vs:List Value):Xc (w.setCells g o vs) B (.slice (some ⟨g,0,none⟩) n cap) l:=by
 rcases h.row with ⟨a,-⟩ | ⟨g',p,cur,a,d,m,k,e,c,f,i⟩
 ·cases a
 ·injection a with a h2 h3
  injection a with a
  injection a with a
  subst a h3
  exact Xc.ofRow h2 d (Xl g _ vs o w cur k) e c (by rw[Xd];exact f) (fun j b=>by
   rw[Yb _ _ _ _ (by omega),if_neg (by omega)]
   exact i j b)
theorem Xc.put (h:Xc w B (.slice (some ⟨g,0,none⟩) n cap) l) (i:Nat) (v:i<l.length) (e:Ent):Xc (w.setCells g (i*3) (Qg [e])) B (.slice (some ⟨g,0,none⟩) n cap) (l.set i e):=by
 rcases h.row with ⟨a,-⟩ | ⟨g',A,cur,a,m,z,x,p,f,t,u⟩
 ·cases a
 ·injection a with a h2 h3
  injection a with a
  injection a with a
  subst a h3;have y:(Qg [e]).length=3:=Q7 [e];refine Xc.ofRow (by rw[length_set];exact h2) m (Xl g _ _ _ w cur x) (by rw[length_set];exact p) f (by rw[Xd];exact t) (fun j d=>?_)
  rw[length_set] at d;obtain⟨q,k,b,rfl⟩:∃ q k,k<3∧j=q*3+k:=⟨j / 3,j % 3,Nat.mod_lt _ (by decide),by omega⟩
  rw[Yb _ _ _ _ (by omega),y,Y4 (l.set i e) q k (by rw[length_set];omega) b]
  by_cases c:q=i
  ·subst c
   rw[if_pos (by omega),show q*3+k-q*3=0*3+k by omega,Y4 [e] 0 k (by simp) b]
   congr 2
   simp[List.getD,v]
  ·rw[if_neg (by omega),u _ (by omega),Y4 l q k (by omega) b]
   congr 2
   have:¬ i=q:=fun h=>c h.symm
   simp[List.getD,this]
theorem RdE.cells {a:Addr} (h:RdE w (.slice (some a) n cap) l):∀ j u,(Qg l)[j]?=some u->w.cell? (a.add j)=some u:=by
 obtain⟨ao,c,f,y,B,A,z,g⟩:=h
 injection f with f _ _
 subst f;intro j u d;have m:j<l.length*3:=by rw[<-Q7];exact(List.getElem?_eq_some_iff.1 d).1
 rcases g with g | ⟨b,C,e,x⟩
 ·rw[g] at m
  simp at m
 ·injection e with e
  subst e;obtain⟨q,k,i,rfl⟩:∃ q k,k<3∧j=q*3+k:=⟨j / 3,j % 3,Nat.mod_lt _ (by decide),by omega⟩
  rw[Y4 l q k (by omega) i] at d
  obtain⟨v,p,t⟩:=x q (by omega)
  rw[Addr.add_lit,<-Nat.add_assoc]
  match k,i with
  | 0,_=>exact v.trans d
  | 1,_=>exact p.trans d
  | 2,_=>exact t.trans d
theorem ZhE (w:World) (ty:TypeId) (B:Nat) (v:Value) (l:List Ent) (h:Xc w B v l) (f:Value) (m:List Ent) (c:RdE w f m) (C:l.length+m.length<=1000000) (e:B<=w.heap.size):
 ∃ v' w',(Builtin.append_ #[39,39] ty #[v,f]).run prog w=.ok v' w'∧Xc w' B v' (l++m)∧Below B w w':=by
 obtain⟨g,d,y,t,j⟩:=info_parts ZgD;have p:=c;obtain⟨ao,cap,rfl,F,E,x,A,D⟩:=c
 cases ao with
 | none=>
  have n:=x rfl;subst n;have q:m=[]:=eq_nil_of_length_eq_zero (by omega)
  subst q;have b:=run_append_owned_none (P:=prog) w B 39 ty 85 g 3 underlying39 d v l.length (Qg l) h;exact⟨v,w,b,by rw[append_nil];exact h,Below.refl _ _⟩
 | some a=>
  obtain⟨v',w',b,z,u,_⟩:=run_append_own (P:=prog) w B 39 ty 85 g _ 3 24 underlying39 d y t j rfl (by decide) v l.length (Qg l) h
   a m.length cap (Qg m) (Q7 m) p.cells (Zac m) (by unfold maxLen;omega) (by omega) e
  refine⟨v',w',b,?_,?_⟩
  ·unfold Xc
   rw[length_append,Zaw];exact z
  ·exact(Below.refl _ _).grown u e (fun k i=>(World.ownsRow.lt h k i).1)
theorem Zak (w:World) {c:Array Oper} {rest:List Oper} {o:Oper} {a:Act} {Q:Exit->Act->World->Prop} (n:o.guard=none) (s x:Operand)
 (u:o.op=.call { callee:=.builtin .append,args:=#[s,x],argTypes:=#[39,39] })
 (B:Nat) (v:Value) (l:List Ent) (j:a.eval s=v) (f:Xc w B v l) (b:Value) (m:List Ent) (p:a.eval x=b) (i:RdE w b m)
 (g:l.length+m.length<=1000000) (q:B<=w.heap.size)
 (h:∀ v' w',Xc w' B v' (l++m)->Below B w w'->wpList prog c Q rest (a.put o.dst v') w'):wpList prog c Q (o::rest) a w:=
 wpList_plain n fun _ e=>by
  obtain⟨v',w',t,d,k⟩:=ZhE w o.type B v l f b m i g q;unfold Oper.wp execOp;simp only [u,resolve,invoke,builtin,Sem.run_bind,Sem.run_pure,Result.andThen_ok,List.map_toArray,map_cons,map_nil,j,p,t];exact e _ _ (h v' w' d k)
theorem Zfs (v:Value) (l:List Ent) (w:World) (g:RdE w v l) (t:l.length<=1000000):
 Calls prog 40 #[v] w fun e w'=>∃ v',e=.returned v'∧Xc w' w.heap.size v' l∧Below w.heap.size w w':=by
 have i:=ZZ g;obtain⟨ao,cap,rfl,m,-,b,-⟩:=g
 cases ao with
 | none=>
  obtain rfl:cap=0:=b rfl;obtain rfl:l=[]:=eq_nil_of_length_eq_zero (by omega)
  clear b m;have k:∀ w,(binOp .eql 39 (.slice none 0 0) (.slice none 0 0)).run prog w=.ok (.bool true) w:=fun w=>run_eql_slice_nil w _ _ none 0 0 underlying39
  go_enter func40,ntmps40
  go_wp2;go_ret;exact⟨_,rfl,Xc.nil _ _,Below.refl _ _⟩
 | some a=>
  clear b;have k:∀ w,(binOp .eql 39 (.slice (some a) l.length cap) (.slice none 0 0)).run prog w=.ok (.bool false) w:=fun w=>run_eql_slice_nil w _ _ (some a) _ _ underlying39
  have c:Hid (∀ X,Below w.heap.size w (w.alloc X)):=fun X=>(Below.refl _ _).alloc zL X
  have p:Hid (Xc (w.alloc (.cells #[] 85)) w.heap.size (.slice (some ⟨w.heap.size,0,none⟩) 0 0) []):=ZZ (Xc.empty w _ zL)
  go_enter func40,ntmps40
  go_wp2_with(at_builtin;refine Zak _ rfl _ _ rfl w.heap.size _ [] rfl p.o _ l rfl (i.o.below (c.o _) zL) (by simp;omega) (by simp) ?_)
  intro q u d f;have n:=ZZ d;have j:=ZZ ((c.o _).trans f);clear d f;go_wp2;go_ret;exact⟨_,rfl,n.o,j.o⟩
def ZwW (p:Ent->Bool) (l:List Ent) (k:Int):Prop:=(k=-1∧∀ j,j<l.length->p (l.getD j Q8)=false)∨∃ i:Nat,k=(i:Int)∧i<l.length∧(∀ j,j<i->p (l.getD j Q8)=false)∧p (l.getD i Q8)=true
theorem Zdp (g R:Nat) (p:Ent->Bool) (v:Value) (l:List Ent) (w:World) (C:RdE w v l)
 (Z:∀ args W,(callFunc g args).run prog W=.ok (.enter g args) W)
 (L:∀ W e,Below w.heap.size w W->Calls prog g #[Zrm e,.pointer (some ⟨R,0,none⟩)] W fun x w'=>x=.returned (.bool (p e))∧Below W.heap.size W w'):
 Calls prog 87 #[v,.func (.func g) #[] #[.pointer (some ⟨R,0,none⟩)]] w fun x w'=>∃ k:Int,x=.returned (.int .i64 k)∧ZwW p l k∧Below w.heap.size w w':=by
 have N:=ZZ C;have F:=ZZ L;obtain⟨va,U,rfl,P,H,-,-,E⟩:=C;have K:=ZZ E;have T:(l.length:Int)<=9223372036854775807:=by unfold maxLen at H;omega
 clear L P H E
 go_enter func87,ntmps87
 go_wp2
 go_loopw[8] (fun i wr=>∃ q:Nat,i=.int .i64 (q:Int)∧q<=l.length∧Hid (∀ j,j<q->p (l.getD j Q8)=false)∧Hid (Below w.heap.size w wr)) (fun i _=>l.length-(intOf i).toNat)
 case atStart=>exact⟨0,rfl,Nat.zero_le _,ZZ (fun j f=>absurd f (Nat.not_lt_zero _)),Below.refl _ _⟩
 case round=>
  obtain⟨q,rfl,X,u,d⟩:=hrel;by_cases c:q<l.length
  case neg=>
   obtain rfl:q=l.length:=by omega
   go_wp2;go_ret;exact⟨-1,rfl,.inl ⟨rfl,u.out⟩,d.out⟩
  have Q:(q:Int)<(l.length:Int):=by omega
  rcases K.o with O | ⟨b,aa,rfl,n⟩
  ·rw[O] at c;simp at c
  obtain⟨J,A,I⟩:=(n q c).keep (d.out.block b (n q c).lt);have a:=ZZ (F.o wr (l.getD q Q8) d.out);have M:Hid (∀ j,j<q+1->j=q∨j<q):=ZZ (fun j f=>by omega)
  obtain⟨e,y⟩:∃ e,e=l.getD q Q8:=⟨_,rfl⟩;rw[<-y] at a J A I;have B:=ZZ y;obtain⟨m,t⟩:∃ m,m=p e:=⟨_,rfl⟩;rw[<-t] at a;have G:=ZZ t;clear y n F K N t;unfold Zrm at a;obtain⟨Y,S,V⟩:=e;simp only at a J A I
  go_wp2_with fail
  refine a.o.mono ?_;rintro x W1 ⟨rfl,D⟩;have z:=ZZ (d.out.trans (D.mono d.out.size));clear D a
  cases m with
  | true=>
   go_wp2;go_ret;exact⟨(q:Int),rfl,.inr ⟨q,rfl,c,u.out,by rw[<-B.o];exact G.o.symm⟩,z.o⟩
  | false=>
   go_wp2;go_roundw
   case rel=>exact⟨q+1,by go_num,by omega,ZZ (fun j f=>by
    rcases M.o j f with h | h
    ·rw[h,<-B.o];exact G.o.symm
    ·exact u.out j h),z⟩
   case measure=>simp[intOf];omega
theorem ZdL (p:Ent->Bool) (l:List Ent) (j:Nat) (a:j<l.length):(l.take (j+1)).filter (fun e=>!p e)=(l.take j).filter (fun e=>!p e)++if p (l.getD j Q8)=true then[] else[l.getD j Q8]:=by
 have b:l.take (j+1)=l.take j++[l.getD j Q8]:=by
  rw[take_add_one,List.getElem?_eq_getElem a];simp[List.getD,a]
 rw[b,List.filter_append]
 congr 1
 generalize l.getD j Q8=x
 cases h:p x <;> simp[h]
theorem ZhF (p:Ent->Bool) (l:List Ent) (i:Nat) (c:i<=l.length) (h:∀ j,j<i->p (l.getD j Q8)=false):(l.take i).filter (fun e=>!p e)=l.take i:=by
 rw[List.filter_eq_self];intro e b;obtain⟨j,a,rfl⟩:=List.getElem_of_mem b;rw[length_take] at a;have:=h j (by omega)
 rw[List.getElem_take];simp only [List.getD,List.getElem?_eq_getElem (show j<l.length by omega),Option.getD_some] at this
 simp[this]
def Zgo (p:Ent->Bool) (l L:List Ent) (i j:Nat):Prop:=L.length=l.length∧L.take i=(l.take j).filter (fun e=>!p e)∧L.drop j=l.drop j∧i<j
theorem Zgo.start {p:Ent->Bool} (a:i<l.length) (h:∀ j,j<i->p (l.getD j Q8)=false) (b:p (l.getD i Q8)=true):Zgo p l l i (i+1):=by
 refine⟨rfl,?_,rfl,Nat.lt_succ_self _⟩;rw[ZdL p l i a,if_pos b,append_nil,ZhF p l i (by omega) h]
theorem Zgo.at {p:Ent->Bool} (h:Zgo p l L i j):L.getD j Q8=l.getD j Q8:=by
 obtain⟨e,f,c,d⟩:=h;have b:(L.drop j).getD 0 Q8=L.getD j Q8:=by simp[List.getD]
 have a:(l.drop j).getD 0 Q8=l.getD j Q8:=by simp[List.getD]
 rw[<-b,<-a,c]
theorem Zmw (h:L.drop j=l.drop j):L.drop (j+1)=l.drop (j+1):=by
 rw[<-drop_drop,<-drop_drop,h]
theorem Zgo.skip {p:Ent->Bool} (h:Zgo p l L i j) (d:j<l.length) (e:p (l.getD j Q8)=true):Zgo p l L i (j+1):=by
 obtain⟨a,b,c,f⟩:=h;refine⟨a,?_,Zmw c,by omega⟩
 rw[ZdL p l j d,if_pos e,append_nil,b]
theorem Zgo.keep {p:Ent->Bool} (h:Zgo p l L i j) (d:j<l.length) (e:p (l.getD j Q8)=false):Zgo p l (L.set i (l.getD j Q8)) (i+1) (j+1):=by
 obtain⟨a,b,c,f⟩:=h;refine⟨by rw[length_set,a],?_,?_,by omega⟩
 ·rw[ZdL p l j d,if_neg (by rw[e];simp),<-b,take_add_one,List.take_set_of_le zL]
  congr 1
  rw[List.getElem?_set_self (by omega)]
  rfl
 ·rw[List.drop_set_of_lt (by omega)]
  exact Zmw c
theorem Xc.put3 (h:Xc w B (.slice (some ⟨g,0,none⟩) n cap) l) (i:Nat) (f:i<l.length) (p s r:Int) (c a b:Nat) (j:c=i*3) (d:a=i*3+1) (e:b=i*3+2):
 Xc (((w.setCell ⟨g,c,none⟩ (.int .i64 p)).setCell ⟨g,a,none⟩ (.int .i64 s)).setCell ⟨g,b,none⟩ (.int .i64 r)) B (.slice (some ⟨g,0,none⟩) n cap) (l.set i ⟨p,s,r⟩):=by
 subst j d e;exact h.put i f ⟨p,s,r⟩
theorem Xc.ent (h:Xc w B (.slice (some ⟨g,0,none⟩) n cap) l) (i:Nat) (p:i<l.length):Zmp w g (i*3) (l.getD i Q8)∧(∀ k,w.frozen? ⟨g,k,none⟩=false)∧B<=g∧l.length<=cap∧cap<=maxLen∧n=l.length:=by
 rcases h.row with ⟨a,-⟩ | ⟨g',u,cur,a,f,q,c,j,e,t,m⟩
 ·cases a
 ·injection a with a h2 h3
  injection a with a
  injection a with a
  subst a h3
  have b:∀ k,k<3->w.cell? ⟨g,i*3+k,none⟩=(Jq (l.getD i Q8))[k]?:=fun k d=>by
   rw[cell_of_row w g (i*3+k) _ _ _ c,m _ (by omega),Y4 l i k p d]
  exact⟨⟨b 0 (by decide),b 1 (by decide),b 2 (by decide)⟩,fun k=>frozen_of_row w g k _ _ c,f,j,e,h2⟩
theorem Zom {b:World} (h:Below C b w) (R:Nat) (a:C<=R) (i d c:Nat) (f g e:Value):Below C b (((w.setCell ⟨R,i,none⟩ f).setCell ⟨R,d,none⟩ g).setCell ⟨R,c,none⟩ e):=
 ((h.setCell a _).setCell a _).setCell a _
theorem ZkQ (w:World):(zeroValue 85).run prog w=.ok (.agg #[.int .i64 0,.int .i64 0,.int .i64 0]) w:=Tryz.zeroValue85 w
theorem ZhG (g R:Nat) (p:Ent->Bool) (v:Value) (l:List Ent) (B:Nat) (w:World) (E:Xc w B v l) (hI:∀ e ∈ l,ZkN e) (Y:B<=w.heap.size) (ax:l.length<=1000000)
 (eg:∀ args W,(callFunc g args).run prog W=.ok (.enter g args) W)
 (I:∀ W e,Below B w W->Calls prog g #[Zrm e,.pointer (some ⟨R,0,none⟩)] W fun x w'=>x=.returned (.bool (p e))∧Below W.heap.size W w'):
 Calls prog 86 #[v,.func (.func g) #[] #[.pointer (some ⟨R,0,none⟩)]] w fun x w'=>∃ v',x=.returned v'∧Xc w' B v' (l.filter (fun e=>!p e))∧Below B w w':=by
 have HO:=ZZ E;have HP:=ZZ I;have aa:=ZZ (Zdp g R p v l w (E.rd hI) eg (fun W e h=>I W e (h.mono Y)))
 obtain⟨va,b,hv⟩:=E.shape;subst hv;clear E I
 go_enter func86,ntmps86
 go_wp2_with fail
 refine aa.o.mono ?_;rintro x W0 ⟨k,rfl,a,S⟩;have Q:=ZZ (S.mono Y);have A:=ZZ (HO.o.below S zL);clear aa S HO;rcases a with ⟨rfl,a⟩ | ⟨J,rfl,V,a,ad⟩
 ·have HE:Hid (l.filter (fun e=>!p e)=l):=ZZ (by
   have:=ZhF p l l.length zL a
   rwa [take_length] at this)
  clear a;go_wp2;go_ret;exact⟨_,rfl,by rw[HE.o];exact A.o,Q.o⟩
 have ae:=ZZ (Zgo.start V a ad);clear a ad;rcases A.o.row with ⟨-,h2⟩ | ⟨t,cap,cur,M,ag,-,-,ay,al,-,-⟩
 ·rw[h2] at V;simp at V
 injection M with M _ h3
 subst M h3;have an:(l.length:Int)<=1000000:=by omega
 clear cur al;have ei:((J:Int) == -1)=false:=beq_eq_false_iff_ne.2 (by omega)
 go_wp2
 go_loopw[5,6] (fun v5 U wr=>∃ (i j:Nat) (L:List Ent),v5=.int .i64 (i:Int)∧U=.int .i64 (j:Int)∧i<j∧j<=l.length∧Hid (Xc wr B (.slice (some ⟨t,0,none⟩) l.length b) L)∧Hid (Zgo p l L i j)∧Hid (Below B w wr)) (fun _ U _=>l.length-(intOf U).toNat)
 case atStart=>exact⟨J,J+1,l,rfl,by go_num,by omega,by omega,A,ae,Q⟩
 case round=>
  clear A ae Q ei;obtain⟨i,j,L,rfl,rfl,aB,aq,f,c,z⟩:=hrel;by_cases ab:j<l.length
  case neg=>
   obtain rfl:j=l.length:=by omega
   have hL:L.length=l.length:=c.out.1;have HT:Hid (L.take i=l.filter (fun e=>!p e)):=ZZ (by rw[c.out.2.1,take_length])
   have hE:=(f.out.ent i (by omega)).2.1
   have HK:Hid (∀ ty,(Builtin.clear_ #[39] ty #[.slice (some ⟨t,i*3,none⟩) (l.length-i) (b-i)]).run prog wr=.ok (.tuple #[]) (wr.setCells t (i*3) (Zbo (l.length-i)))):=ZZ (fun ty=>
    ZhB wr _ _ _ underlying39 ZkQ t (i*3) (l.length-i) (b-i) (by omega) (fun k hk=>by
     obtain⟨q,r,hr,rfl⟩:∃ q r,r<3∧k=q*3+r:=⟨k / 3,k % 3,Nat.mod_lt _ (by decide),by omega⟩
     have:=(f.out.ent (i+q) (by omega)).1
     rw[show i*3+(q*3+r)=(i+q)*3+r by omega]
     match r,hr with
     | 0,_=>rw[show(i+q)*3+0=(i+q)*3 from rfl,this.1];rfl
     | 1,_=>rw[this.2.1];rfl
     | 2,_=>rw[this.2.2];rfl) (fun k _=>hE _))
   have ai:=ZZ ((f.out.cut i (by omega)).cells (i*3) (by rw[length_take];omega) (Zbo (l.length-i)))
   rw[HT.o] at ai;have ak:=ZZ (Jw ag (Zbo (l.length-i)) (i*3) wr z.out);have az:¬ (b=i):=by omega
   have y:(i:Int)<=(l.length:Int):=by omega
   have ar:(i:Int)<=(b:Int):=by omega
   have ap:i<=l.length:=by omega
   have am:i<=b:=by omega
   clear hE;have hK:=HK.o;go_wp2;go_ret;exact⟨_,rfl,ai.o,ak.o⟩
  have ao:(j:Int)<(l.length:Int):=by omega
  have av:L.length=l.length:=c.out.1;obtain⟨⟨F,G,D⟩,-,-⟩:=f.out.ent j (by omega)
  rw[c.out.at] at F G D;have K:=ZZ (c.out.skip ab);have H:=ZZ (c.out.keep ab);obtain⟨e,he⟩:∃ e,e=l.getD j Q8:=⟨_,rfl⟩;rw[<-he] at F G D K H;obtain⟨P,af⟩:∃ P,P=p e:=⟨_,rfl⟩;have u:=ZZ (fun W h=>HP.o W e h)
  rw[<-af] at u K H;obtain⟨m,d,n⟩:=e;unfold Zrm at u;simp only at u F G D H;clear he af c;have O:Hid (∀ X,Below B w (wr.alloc X)):=ZZ (fun X=>z.out.alloc (Nat.le_trans Y z.out.size) X)
  have Z:Hid (Be (wr.alloc (.cells #[.int .i64 m,.int .i64 d,.int .i64 n] 85)) wr.heap.size #[.int .i64 m,.int .i64 d,.int .i64 n]):=ZZ (heap_alloc_new wr _);have aj:Hid (∀ X,Xc (wr.alloc X) B (.slice (some ⟨t,0,none⟩) l.length b) L):=ZZ (fun X=>f.out.below ((Below.refl _ _).alloc zL X) zL)
  go_wp2_with fail
  refine(u.o _ (O.o _)).mono ?_;rintro x W1 ⟨rfl,y⟩;have ac:=ZZ ((O.o (.cells #[.int .i64 m,.int .i64 d,.int .i64 n] 85)).trans (y.mono (by have:=z.out.size;simp;omega)))
  have N:=ZZ (Z.o.below y zL);have T:=ZZ ((aj.o (.cells #[.int .i64 m,.int .i64 d,.int .i64 n] 85)).below y zL);clear y u O Z aj F G D f z
  cases P with
  | true=>
   go_wp2;go_roundw
   case rel=>exact⟨i,j+1,L,rfl,by go_num,by omega,by omega,T,ZZ (K.o (by simp)),ac⟩
   case measure=>simp[intOf];omega
  | false=>
   obtain⟨⟨d0,d1,d2⟩,C,aw,-⟩:=T.o.ent i (by omega)
   obtain⟨b0,f0⟩:=N.o.cell 0;obtain⟨b1,f1⟩:=N.o.cell 1;obtain⟨b2,f2⟩:=N.o.cell 2;have z0:=C (i*3);have z1:=C (i*3+1);have z2:=C (i*3+2);have au:(i:Int)<(l.length:Int):=by omega
   have aA:i<l.length:=by omega
   clear C;go_wp2;go_roundw
   case rel=>exact⟨i+1,j+1,L.set i ⟨m,d,n⟩,by go_num,by go_num,by omega,by omega,ZZ (T.o.put3 i (by omega) m d n _ _ _ (by omega) (by omega) (by omega)),ZZ (H.o (by simp)),ZZ (Zom ac.o t ag _ _ _ _ _ _)⟩
   case measure=>simp[intOf];omega
theorem RdE.one (w:World) (e:Ent) (c:ZkN e):RdE (w.alloc (.cells (Jq e) 85)) (.slice (some ⟨w.heap.size,0,none⟩) 1 1) [e]:=by
 have h:=Xc.ofRow (w:=w.alloc (.cells (Jq e) 85)) (B:=w.heap.size) (g:=w.heap.size) (cap:=1) (l:=[e]) (n:=1) rfl zL (heap_alloc_new w _) zL (by unfold maxLen;decide) rfl (fun j a=>by
  rw[List.length_singleton] at a
  match j,a with
  | 0,_=>rfl
  | 1,_=>rfl
  | 2,_=>rfl)
 exact h.rd (fun x b=>by rw[List.mem_singleton.1 b];exact c)
theorem ZjK (l:List Ent) (i:Nat) (p:i<=l.length) (e:Ent) (f:Nat->Option Value) (c:∀ j,j<i*3->f j=(Qg l)[j]?) (d:∀ j,j<3->f (i*3+j)=(Qg [e])[j]?)
 (k:∀ j,j<(l.length-i)*3->f ((i+1)*3+j)=(Qg (l.drop i))[j]?) (j:Nat) (q:j<(l.length+1)*3):f j=(Qg (l.take i++(e::l.drop i)))[j]?:=by
 have b:l.take i++(e::l.drop i)=l.take i++([e]++l.drop i):=rfl;have g:(Qg (l.take i)).length=i*3:=by rw[Q7,length_take];congr 1;omega
 have m:(Qg [e]).length=3:=Q7 [e];rw[b,Zaw,Zaw];by_cases a:j<i*3
 ·rw[List.getElem?_append_left (by omega),c j a,Zce,List.getElem?_take_of_lt a]
 ·rw[List.getElem?_append_right (by omega),g]
  by_cases n:j<i*3+3
  ·rw[List.getElem?_append_left (by omega),<-d (j-i*3) (by omega)]
   congr 1
   omega
  ·rw[List.getElem?_append_right (by omega),m,<-k (j-i*3-3) (by omega)]
   congr 1
   omega
theorem ZaR (l:List Ent) (i:Nat) (a:i<=l.length) (e:Ent):(l.take i++(e::l.drop i)).length=l.length+1:=by simp;omega
def Zyc (w:World) (B:Nat) (L:List Ent) (x:Ending) (w':World):Prop:=∃ v',x=.returned v'∧Xc w' B v' L∧Below B w w'
theorem Zon (v:Value) (l:List Ent) (B:Nat) (w:World) (c:Xc w B v l) (q:B<=w.heap.size) (K:l.length<=100000) (e:Ent) (E:ZkN e) (I:Int) (z:I=(l.length:Nat)) (N:Nat) (C:N=w.heap.size):
 Calls prog 88 #[v,.int .i64 I,.slice (some ⟨N,0,none⟩) 1 1] (w.alloc (.cells (Jq e) 85)) fun x w'=>Zyc w B (l.take l.length++(e::l.drop l.length)) x w':=by
 subst z C;have f:Hid (l.take l.length++(e::l.drop l.length)=l++[e]):=ZZ (by rw[take_length,List.drop_length])
 rw[f.o];have j:=ZZ (RdE.one w e E);have m:Hid (∀ X,Below B w (w.alloc X)):=fun X=>(Below.refl _ _).alloc q X
 have p:=ZZ (c.below ((Below.refl w.heap.size w).alloc zL (.cells (Jq e) 85)) zL);have n:B<=(w.alloc (.cells (Jq e) 85)).heap.size:=by simp;omega
 rcases c.row with ⟨rfl,rfl⟩ | ⟨g,cap,cur,rfl,G,F,A,L,k,y,t⟩
 ·clear c f
  go_enter func88,ntmps88
  go_wp2_with(at_builtin;refine Zak _ rfl _ _ rfl B _ [] rfl p.o _ [e] rfl j.o (by simp) n ?_)
  intro u D a b;have i:=ZZ a;have d:=ZZ ((m.o _).trans b);clear a b;go_wp2;go_ret;exact⟨_,rfl,i.o,d.o⟩
 ·have J:(cap:Int)<=9223372036854775807:=by unfold maxLen at k;omega
  have H:(l.length:Int)<=(cap:Int):=by omega
  clear c f t A y k;by_cases M:cap=l.length
  all_goals
   go_enter func88,ntmps88
   go_wp2_with(at_builtin;refine Zak _ rfl _ _ rfl B _ l rfl p.o _ [e] rfl j.o (by simp;omega) n ?_)
   intro u D a b;have i:=ZZ a;have d:=ZZ ((m.o _).trans b);clear a b;go_wp2;go_ret;exact⟨_,rfl,i.o,d.o⟩
theorem Zyq (w:World) (g N b a:Nat) (l:N≠g) (i j f c o:Nat) (n:w.shape? N=some (85,b)) (p:w.shape? g=some (85,a)) (m:a≠0) (d:∀ k,w.frozen? ⟨N,k,none⟩=false):
 (callFunc 129 #[.slice (some ⟨N,0,none⟩) i j,.slice (some ⟨g,o,none⟩) f c]).run prog w=.ok (.value (.bool false)) w:=by
 rw[run_callFunc_extern func129 (by kernel_rfl) (by kernel_rfl) (by kernel_rfl) (e:=Extern.SlicesOverlaps.overlaps #[39,39] #[4]) (by kernel_rfl),
  Lib.run_overlaps_apart w 39 4 85 underlying39 3 Tryz.sizeOf85 ⟨N,0,none⟩ ⟨g,o,none⟩ i j f c l _ _ b a n p m (d 0) (d b)]
 rfl
theorem ZgE:(prog.info? 85).map (·.size)=some 3:=by
 obtain⟨e,a,c,b,d⟩:=info_parts ZgD;rw[a];simp[b]
theorem Zmx (g cap:Nat) (l:List Ent) (B:Nat) (w:World) (O:Xc w B (.slice (some ⟨g,0,none⟩) l.length cap) l) (hB:B<=w.heap.size) (i:Nat) (hi:i<l.length) (aa:l.length+1<=cap) (e:Ent) (I:Int) (hI:I=(i:Nat)) (N:Nat) (Y:N=w.heap.size):
 Calls prog 88 #[.slice (some ⟨g,0,none⟩) l.length cap,.int .i64 I,.slice (some ⟨N,0,none⟩) 1 1] (w.alloc (.cells (Jq e) 85)) fun x w'=>Zyc w B (l.take i++(e::l.drop i)) x w':=by
 subst hI;rcases O.row with ⟨d,-⟩ | ⟨g',az,cur,d,G,ab,M,hn,H,A,D⟩
 ·cases d
 injection d with d _ h3
 injection d with d
 injection d with d
 subst d h3;clear O;have q:(w.alloc (.cells (Jq e) 85)).heap[N]?=some (.cells (Jq e) 85 (0,0)):=by rw[Y];exact heap_alloc_new w _
 have f:(w.alloc (.cells (Jq e) 85)).heap[g]?=some (.cells cur 85 (0,0)):=(Below.heap_alloc _ _ _ ab).trans M;have T:Hid (Below B w (w.alloc (.cells (Jq e) 85))):=(Below.refl _ _).alloc hB _;generalize w.alloc (.cells (Jq e) 85)=W at *;have R:N≠g:=by omega
 have ap:(cap:Int)<=9223372036854775807:=by unfold maxLen at H;omega
 have L:∀ (j:Nat),W.frozen? ⟨g,j,none⟩=false:=fun j=>frozen_of_row W g j _ _ f
 have Z:∀ y z u t o,(callFunc 129 #[.slice (some ⟨N,0,none⟩) y z,.slice (some ⟨g,o,none⟩) u t]).run prog W=.ok (.value (.bool false)) W:=fun y z u t o=>
  Zyq W g N 3 (cap*3) R y z u t o (by simp[World.shape?,q,Jq]) (by simp[World.shape?,f,A]) (by omega) (fun k=>frozen_of_row W N k _ _ q)
 have C:(Qg (l.drop i)).length=(l.length-i)*3:=by rw[Q7,length_drop]
 have U:∀ j,j<(l.length+1)*3->(W.cell? ⟨g,j,none⟩).isSome=true:=fun j a=>by
  rw[cell_of_row W g j _ _ _ f,Array.getElem?_eq_getElem (by omega)]
  rfl
 have S:∀ W',(∀ x,W'.cell? x=W.cell? x)->(∀ x,W'.frozen? x=W.frozen? x)->∀ ty c sc,(Builtin.copy_ #[39,39] ty #[.slice (some ⟨g,(i+1)*3,none⟩) (l.length-i) c,.slice (some ⟨g,i*3,none⟩) (l.length+1-i) sc]).run prog W'=.ok (goInt (Nat.min (l.length+1-i) (l.length-i))) (W'.setCells g ((i+1)*3) (Qg (l.drop i))):=fun W' m F ty c sc=>
  ZaI W' _ _ ty 85 3 g ((i+1)*3) (l.length-i) c ⟨g,i*3,none⟩ (l.length+1-i) sc (Qg (l.drop i)) underlying39 ZgE (by rw[C];simp only [Nat.min_def];split <;> omega)
   (fun j v a=>by
    have J:j<(l.length-i)*3:=by rw[<-C];exact(List.getElem?_eq_some_iff.1 a).1
    rw[Addr.add_lit,m,cell_of_row W g _ _ _ _ f,D _ (by omega)]
    rw[Zcf,List.getElem?_drop] at a
    exact a)
   (fun j a=>by rw[m];exact U _ (by omega)) (fun j a=>by rw[F];exact L _) (Zac _)
 obtain⟨b,n⟩:∃ b,b=W.drew.setCells g ((i+1)*3) (Qg (l.drop i)):=⟨_,rfl⟩;have p:b.heap[g]?=some (.cells (ZeW cur ((i+1)*3) (Qg (l.drop i))) 85 (0,0)):=by rw[n];exact Xl g _ _ _ W.drew cur f
 have V:b.heap[N]?=some (.cells (Jq e) 85 (0,0)):=by rw[n,Zar g _ _ _ N R];exact q
 have E:(Qg [e]).length=3:=Q7 [e]
 have K:∀ W',(∀ x,W'.cell? x=b.cell? x)->(∀ x,W'.frozen? x=b.frozen? x)->∀ ty c,(Builtin.copy_ #[39,39] ty #[.slice (some ⟨g,i*3,none⟩) (l.length+1-i) c,.slice (some ⟨N,0,none⟩) 1 1]).run prog W'=.ok (goInt (Nat.min 1 (l.length+1-i))) (W'.setCells g (i*3) (Qg [e])):=fun W' m F ty c=>
  ZaI W' _ _ ty 85 3 g (i*3) (l.length+1-i) c ⟨N,0,none⟩ 1 1 (Qg [e]) underlying39 ZgE (by rw[E];simp only [Nat.min_def];split <;> omega)
   (fun j v a=>by
    rw[Addr.add_lit,m,Nat.zero_add,cell_of_row b N _ _ _ _ V]
    have:(Qg [e])[j]?=(Jq e)[j]?:=by
     have J:j<3:=by rw[<-E];exact(List.getElem?_eq_some_iff.1 a).1
     have:=Y4 [e] 0 j (by simp) J
     rwa [Nat.zero_mul,Nat.zero_add] at this
    rw[<-this]
    exact a)
   (fun j a=>by
    rw[m,cell_of_row b g _ _ _ _ p,Array.getElem?_eq_getElem (by rw[Xd];omega)]
    rfl) (fun j a=>by rw[F];exact frozen_of_row b g _ _ _ p) (Zac _)
 have X:Hid (Zyc w B (l.take i++(e::l.drop i)) (.returned (.slice (some ⟨g,0,none⟩) (l.length+1) cap)) (b.setCells g (i*3) (Qg [e]))):=ZZ (by
  refine⟨_,rfl,Xc.ofRow (ZaR l i (by omega) e).symm G (Xl g _ _ _ b _ p) (by rw[ZaR l i (by omega) e];exact aa) H (by rw[Xd,Xd];exact A) (fun j a=>?_),?_⟩
  ·rw[ZaR l i (by omega) e] at a
   refine ZjK l i (by omega) e (fun j=>(ZeW (ZeW cur ((i+1)*3) (Qg (l.drop i))) (i*3) (Qg [e]))[j]?) (fun k Q=>?_) (fun k Q=>?_) (fun k Q=>?_) j a
   ·show(ZeW (ZeW cur ((i+1)*3) (Qg (l.drop i))) (i*3) (Qg [e]))[k]?=_
    rw[Yb _ _ _ _ (by rw[Xd];omega),if_neg (by omega),Yb _ _ _ _ (by omega),if_neg (by omega)]
    exact D k (by omega)
   ·show(ZeW (ZeW cur ((i+1)*3) (Qg (l.drop i))) (i*3) (Qg [e]))[i*3+k]?=_
    rw[Yb _ _ _ _ (by rw[Xd];omega),if_pos (by omega),Nat.add_sub_cancel_left]
   ·show(ZeW (ZeW cur ((i+1)*3) (Qg (l.drop i))) (i*3) (Qg [e]))[(i+1)*3+k]?=_
    rw[Yb _ _ _ _ (by rw[Xd];omega),if_neg (by omega),Yb _ _ _ _ (by omega),if_pos (by omega),Nat.add_sub_cancel_left]
  ·rw[n]
   exact Jw G _ _ _ (Jw G _ _ _ (ZhC T.o)))
 have ac:=fun ty c sc=>S W.drew (fun _=>rfl) (fun _=>rfl) ty c sc
 have P:=fun ty c=>K b (fun _=>rfl) (fun _=>rfl) ty c
 clear S K;rw[n] at X P;clear n p V D A M f q U L H T C E Y;have ai:prog.follows .mixedOrders=true:=by kernel_rfl
 have ad:¬ ((i:Int)=(l.length:Int)):=by omega
 have ak:((i:Int) == (l.length:Int))=false:=beq_eq_false_iff_ne.2 ad;have aw:IntKind.i64.wrap ((i:Int)+1)=(i:Int)+1:=by rw[IntKind.wrap_i64];omega
 have ay:IntKind.i64.wrap ((l.length:Int)+1)=(l.length:Int)+1:=by rw[IntKind.wrap_i64];omega
 have au:(0:Int)<=(i:Int)+1:=by omega
 have aj:i<=l.length:=by omega
 have an:(i:Int)<=(l.length:Int):=by omega
 have aq:((i:Int)+1).toNat=i+1:=by omega
 have ax:((l.length:Int)+1).toNat=l.length+1:=by omega
 have al:¬ (cap=i+1):=by omega
 have ag:(i:Int)<=(l.length:Int)+1:=by omega
 have af:¬ (cap=i):=by omega
 have ar:¬ ((cap:Int)<(l.length:Int)+1):=by omega
 have av:(l.length:Int)+1<=(cap:Int):=by omega
 have ao:(i:Int)+1<=(l.length:Int)+1:=by omega
 generalize Qg (l.drop i)=am at *;generalize Qg [e]=ae at *;generalize l.take i++(e::l.drop i)=LL at *
 go_enter func88,ntmps88
 go_wp2_with(simp only [Z])
 go_region_law_o (refine step_copy_runI rfl _ _ 39 39 rfl _ _ (by simp[Act.eval,Act.put]) (by simp[Act.eval,Act.put]) (ac _ _ _) ?_)
 go_wp2_with(at_builtin;refine wpList_copy_runI _ rfl _ _ 39 39 rfl _ _ rfl rfl (P _ _) ?_)
 go_wp2;go_ret;exact X.o
theorem Zmy (g cap:Nat) (l:List Ent) (B:Nat) (w:World) (ho:Xc w B (.slice (some ⟨g,0,none⟩) l.length cap) l) (hB:B<=w.heap.size) (i:Nat) (hi:i<l.length) (an:cap<l.length+1) (ap:l.length<=100000) (e:Ent) (I:Int) (hI:I=(i:Nat)) (N:Nat) (hN:N=w.heap.size):
 Calls prog 88 #[.slice (some ⟨g,0,none⟩) l.length cap,.int .i64 I,.slice (some ⟨N,0,none⟩) 1 1] (w.alloc (.cells (Jq e) 85)) fun x w'=>Zyc w B (l.take i++(e::l.drop i)) x w':=by
 subst hI;rcases ho.row with ⟨f,-⟩ | ⟨g',aN,cur,f,aq,X,hg,hn,hm,hs,P⟩
 ·cases f
 injection f with f _ h3
 injection f with f
 injection f with f
 subst f h3;clear ho;obtain⟨V,aj,ac,af,u⟩:=info_parts ZgD;have hv:(w.alloc (.cells (Jq e) 85)).heap[N]?=some (.cells (Jq e) 85 (0,0)):=by rw[hN];exact heap_alloc_new w _
 have O:(w.alloc (.cells (Jq e) 85)).heap[g]?=some (.cells cur 85 (0,0)):=(Below.heap_alloc _ _ _ X).trans hg;have ae:Hid (Below B w (w.alloc (.cells (Jq e) 85))):=(Below.refl _ _).alloc hB _;have am:(w.alloc (.cells (Jq e) 85)).heap.size=w.heap.size+1:=by simp
 generalize w.alloc (.cells (Jq e) 85)=W at *;have R:(Qg [e]).length=3:=Q7 [e];have F:(Qg (l.drop i)).length=(l.length-i)*3:=by rw[Q7,length_drop]
 have p:((Qg l).take (i*3)).length=i*3:=by rw[length_take,Q7];omega
 have ag:(Builtin.firstCells V.size i (.slice (some ⟨g,0,none⟩) i cap)).run prog W.drew=.ok ((Qg l).take (i*3)).toArray W.drew:=by
  rw[af]
  exact run_firstCells_some W.drew 3 i ⟨g,0,none⟩ i cap ((Qg l).take (i*3)) p (fun j v a=>by
   have z:j<i*3:=by rw[<-p];exact(List.getElem?_eq_some_iff.1 a).1
   rw[List.getElem?_take_of_lt z] at a;rw[Addr.add_lit,Nat.zero_add,cell_of_row W.drew g j _ _ _ O,P j (by omega)]
   exact a)
 have Q:i+(l.length+1-i)=l.length+1:=by omega
 have Y:(l.length:Int)+1-(i:Int)=((l.length+1-i:Nat):Int):=by omega
 obtain⟨G,C⟩:∃ G,G=grownCap W (l.length+1) cap 85:=⟨_,rfl⟩;obtain⟨b,y⟩:∃ b,b=((Qg l).take (i*3)).toArray++Builtin.zeroCells (Value.agg #[.int .i64 0,.int .i64 0,.int .i64 0]).cells (l.length+1-i)++Builtin.zeroCells (Value.agg #[.int .i64 0,.int .i64 0,.int .i64 0]).cells (G-(l.length+1)):=⟨_,rfl⟩
 have ao:∀ ty,(Builtin.append_ #[39,3] ty #[.slice (some ⟨g,0,none⟩) i cap,.int .i64 ((l.length:Int)+1-(i:Int))]).run prog W=.ok (.slice (some ⟨W.heap.size,0,none⟩) (l.length+1) G) ((W.alloc (.cells b 85)).drew):=fun ty=>by
  have h:=Lib.run_append_grow_zeros W 39 3 ty 85 V _ .i64 .i64 underlying39 underlying3 aj ac (some ⟨g,0,none⟩) i cap _ ag (l.length+1-i) (by omega) (by omega) (by omega) (by omega) (by rw[u];omega) (by rw[u,Q];exact growslice_fits_wide an (by omega))
  rw[Q,<-C,<-y,<-Y] at h;exact h
 have ar:l.length+1<=G:=by rw[C];exact grownCap_ge W _ _ _
 have ak:G<=maxLen:=by rw[C];exact grownCap_le_maxLen W (l.length+1) cap 85 (by unfold maxLen;omega)
 have H:∀ n,(Builtin.zeroCells (Value.agg #[.int .i64 0,.int .i64 0,.int .i64 0]).cells n).size=n*3:=fun n=>by
  rw[<-Array.length_toList,ZjH,Jl]
 have ab:b.size=G*3:=by
  rw[y,Array.size_append,Array.size_append,H,H,List.size_toArray,p];omega
 have aa:∀ j,j<i*3->b[j]?=(Qg l)[j]?:=fun j a=>by
  rw[y,Array.append_assoc,Array.getElem?_append_left (by rw[List.size_toArray,p];exact a),List.getElem?_toArray,List.getElem?_take_of_lt a]
 have q:(W.alloc (.cells b 85)).drew.heap[W.heap.size]?=some (.cells b 85 (0,0)):=heap_alloc_new W _;have E:(W.alloc (.cells b 85)).drew.heap[N]?=some (.cells (Jq e) 85 (0,0)):=(Below.heap_alloc W _ N (by omega)).trans hv
 have T:(W.alloc (.cells b 85)).drew.heap[g]?=some (.cells cur 85 (0,0)):=(Below.heap_alloc W _ g (by omega)).trans O
 have L:Hid (Below B w (W.alloc (.cells b 85)).drew):=ZZ (ZhC (ae.o.alloc (by omega) _))
 have A:B<=W.heap.size:=by omega
 have al:N≠W.heap.size:=by omega
 have ai:g≠W.heap.size:=by omega
 obtain⟨d,K⟩:∃ d,d=(W.alloc (.cells b 85)).drew:=⟨_,rfl⟩;rw[<-K] at q E T L
 have ad:∀ ty m,(Builtin.copy_ #[39,39] ty #[.slice (some ⟨W.heap.size,i*3,none⟩) (l.length+1-i) m,.slice (some ⟨N,0,none⟩) 1 1]).run prog d=.ok (goInt (Nat.min 1 (l.length+1-i))) (d.setCells W.heap.size (i*3) (Qg [e])):=fun ty m=>
  ZaI d _ _ ty 85 3 W.heap.size (i*3) (l.length+1-i) m ⟨N,0,none⟩ 1 1 (Qg [e]) underlying39 ZgE (by rw[R];simp only [Nat.min_def];split <;> omega)
   (fun j v a=>by
    rw[Addr.add_lit,Nat.zero_add,cell_of_row d N _ _ _ _ E]
    have:(Qg [e])[j]?=(Jq e)[j]?:=by
     have z:j<3:=by rw[<-R];exact(List.getElem?_eq_some_iff.1 a).1
     have:=Y4 [e] 0 j (by simp) z
     rwa [Nat.zero_mul,Nat.zero_add] at this
    rw[<-this]
    exact a)
   (fun j a=>by
    rw[cell_of_row d _ _ _ _ _ q,Array.getElem?_eq_getElem (by omega)]
    rfl) (fun j a=>frozen_of_row d _ _ _ _ q) (Zac _)
 obtain⟨c,t⟩:∃ c,c=(d.setCells W.heap.size (i*3) (Qg [e])).drew:=⟨_,rfl⟩;have D:c.heap[W.heap.size]?=some (.cells (ZeW b (i*3) (Qg [e])) 85 (0,0)):=by rw[t];exact Xl _ _ _ _ d b q
 have U:c.heap[g]?=some (.cells cur 85 (0,0)):=by
  rw[t];exact(Zar W.heap.size _ _ d g ai).trans T
 have Z:Hid (Below B w c):=ZZ (by rw[t];exact ZhC (Jw A _ _ _ L.o))
 have J:∀ ty m sc,(Builtin.copy_ #[39,39] ty #[.slice (some ⟨W.heap.size,(i+1)*3,none⟩) (l.length-i) m,.slice (some ⟨g,i*3,none⟩) (l.length-i) sc]).run prog c=.ok (goInt (Nat.min (l.length-i) (l.length-i))) (c.setCells W.heap.size ((i+1)*3) (Qg (l.drop i))):=fun ty m sc=>
  ZaI c _ _ ty 85 3 W.heap.size ((i+1)*3) (l.length-i) m ⟨g,i*3,none⟩ (l.length-i) sc (Qg (l.drop i)) underlying39 ZgE (by rw[F];simp only [Nat.min_def];split <;> omega)
   (fun j v a=>by
    have z:j<(l.length-i)*3:=by rw[<-F];exact(List.getElem?_eq_some_iff.1 a).1
    rw[Addr.add_lit,cell_of_row c g _ _ _ _ U,P _ (by omega)]
    rw[Zcf,List.getElem?_drop] at a
    exact a)
   (fun j a=>by
    rw[cell_of_row c _ _ _ _ _ D,Array.getElem?_eq_getElem (by rw[Xd];omega)]
    rfl) (fun j a=>frozen_of_row c _ _ _ _ D) (Zac _)
 have S:Hid (Zyc w B (l.take i++(e::l.drop i)) (.returned (.slice (some ⟨W.heap.size,0,none⟩) (l.length+1) G)) (c.setCells W.heap.size ((i+1)*3) (Qg (l.drop i)))):=ZZ (by
  refine⟨_,rfl,Xc.ofRow (ZaR l i (by omega) e).symm A (Xl _ _ _ _ c _ D) (by rw[ZaR l i (by omega) e];exact ar) ak (by rw[Xd,Xd];exact ab) (fun j a=>?_),?_⟩
  ·rw[ZaR l i (by omega) e] at a
   refine ZjK l i (by omega) e (fun j=>(ZeW (ZeW b (i*3) (Qg [e])) ((i+1)*3) (Qg (l.drop i)))[j]?) (fun k M=>?_) (fun k M=>?_) (fun k M=>?_) j a
   ·show(ZeW (ZeW b (i*3) (Qg [e])) ((i+1)*3) (Qg (l.drop i)))[k]?=_
    rw[Yb _ _ _ _ (by rw[Xd];omega),if_neg (by omega),Yb _ _ _ _ (by omega),if_neg (by omega)]
    exact aa k M
   ·show(ZeW (ZeW b (i*3) (Qg [e])) ((i+1)*3) (Qg (l.drop i)))[i*3+k]?=_
    rw[Yb _ _ _ _ (by rw[Xd];omega),if_neg (by omega),Yb _ _ _ _ (by omega),if_pos (by omega),Nat.add_sub_cancel_left]
   ·show(ZeW (ZeW b (i*3) (Qg [e])) ((i+1)*3) (Qg (l.drop i)))[(i+1)*3+k]?=_
    rw[Yb _ _ _ _ (by rw[Xd];omega),if_pos (by omega),Nat.add_sub_cancel_left]
  ·exact Jw A _ _ _ Z.o)
 rw[t] at S J;rw[K] at S J ad;clear t K U D q E T ab aa H Z L ag y P hs hg O hv hm ae F R p u af ac aj C al ai ak Y Q am hN A;have ax:prog.follows .mixedOrders=true:=by kernel_rfl
 have u:¬ ((i:Int)=(l.length:Int)):=by omega
 have az:((i:Int) == (l.length:Int))=false:=beq_eq_false_iff_ne.2 u;have aL:IntKind.i64.wrap ((i:Int)+1)=(i:Int)+1:=by rw[IntKind.wrap_i64];omega
 have aM:IntKind.i64.wrap ((l.length:Int)+1)=(l.length:Int)+1:=by rw[IntKind.wrap_i64];omega
 have aI:(0:Int)<=(i:Int)+1:=by omega
 have ay:i<=l.length:=by omega
 have aC:(i:Int)<=(l.length:Int):=by omega
 have aJ:(i:Int)<=(cap:Int):=by omega
 have aO:i<=cap:=by omega
 have aF:((i:Int)+1).toNat=i+1:=by omega
 have p:((l.length:Int)+1).toNat=l.length+1:=by omega
 have aA:¬ (G=i+1):=by omega
 have aw:(i:Int)<=(l.length:Int)+1:=by omega
 have av:¬ (cap=i):=by omega
 have aH:¬ (G=i):=by omega
 have aG:(cap:Int)<(l.length:Int)+1:=by omega
 have aE:(i:Int)+1<=(l.length:Int)+1:=by omega
 have aD:(l.length:Int)<=100000:=by omega
 have aK:IntKind.i64.wrap ((l.length:Int)+1-(i:Int))=(l.length:Int)+1-(i:Int):=by rw[IntKind.wrap_i64];omega
 clear hB aq X ap;generalize Qg (l.drop i)=aB at *;generalize Qg [e]=au at *;generalize l.take i++(e::l.drop i)=LL at *
 go_enter func88,ntmps88
 go_wp2_with(first
  | (at_builtin;refine Lib.wpList_append_run _ rfl _ _ _ _ rfl _ _ rfl rfl _ _ (ao _) ?_)
  | (at_builtin;refine wpList_copy_runI _ rfl _ _ 39 39 rfl _ _ rfl rfl (ad _ _) ?_))
 go_region_law_o (refine step_copy_runI rfl _ _ 39 39 rfl _ _ (by simp[Act.eval,Act.put]) (by simp[Act.eval,Act.put]) (J _ _ _) ?_)
 go_wp2;go_ret;exact S.o
theorem Zoo (v:Value) (l:List Ent) (B:Nat) (w:World) (a:Xc w B v l) (b:B<=w.heap.size) (f:l.length<=100000) (i:Nat) (k:i<=l.length) (e:Ent) (m:ZkN e) (I:Int) (c:I=(i:Nat)) (N:Nat) (d:N=w.heap.size):
 Calls prog 88 #[v,.int .i64 I,.slice (some ⟨N,0,none⟩) 1 1] (w.alloc (.cells (Jq e) 85)) fun x w'=>Zyc w B (l.take i++(e::l.drop i)) x w':=by
 by_cases h:i=l.length
 ·subst h
  exact Zon v l B w a b f e m I c N d
 ·rcases a.row with ⟨-,rfl⟩ | ⟨g,cap,cur,rfl,-⟩
  ·exact absurd (by simpa using k) (by simpa using h)
  ·by_cases j:l.length+1<=cap
   ·exact Zmx g cap l B w a b i (by omega) j e I c N d
   ·exact Zmy g cap l B w a b i (by omega) (by omega) f e I c N d
theorem Z7 {l:List UInt8} {n:Int} (b:0<=n) (a:n<4611686018427387904):Zrg l n=l++Lib.uvarint n.toNat:=if_pos ⟨b,a⟩
theorem Zvq {n:Int} (h:I64 n):(Lib.uvarint (Lib.zigzag n)).length<=10:=Lib.uvarint_length64 (ZbH h)
theorem Ji (h:n<4611686018427387904):(Lib.uvarint n).length<=10:=Lib.uvarint_length64 (by omega)
theorem Zop (w:World) (X Y:Obj):((w.alloc X).alloc Y).heap[w.heap.size+1]?=some Y:=by
 have h:=heap_alloc_new (w.alloc X) Y;have e:(w.alloc X).heap.size=w.heap.size+1:=by simp
 rwa [e] at h
def ZtI (w:World) (l:List UInt8) (e:Ending) (w':World):Prop:=
 e=.returned (.tuple #[opV (Q0 l).1,.int .i64 ((Q0 l).2:Nat)])∧Below w.heap.size w w'
def Zrr (r:Rec):Value:=.agg #[.int .i64 r.idx,.int .i64 r.proc,.int .i64 r.seq,.int .i64 r.op.code,.int .i64 r.op.a,.int .i64 r.op.b,.int .i64 r.resp]
def Zi (r:Rec):Array Value:=#[.int .i64 r.idx,.int .i64 r.proc,.int .i64 r.seq,.int .i64 r.op.code,.int .i64 r.op.a,.int .i64 r.op.b,.int .i64 r.resp]
def ZcK (r:Rec):Prop:=I64 r.idx∧I64 r.proc∧I64 r.seq∧Zxh r.op∧I64 r.resp
def Br (w:World) (b:Nat) (cs:Array Value):Prop:=w.heap[b]?=some (.cells cs 62 (0,0))
theorem Br.lt (h:Br w b cs):b<w.heap.size:=(Array.getElem?_eq_some_iff.1 h).1
theorem Br.below (h:Br w b cs) (a:Below B w w') (c:w.heap.size<=B):Br w' b cs:=(a.block b (by have:=h.lt;omega)).trans h
theorem Br.cell (h:Br w b cs) (j:Nat):w.cell? ⟨b,j,none⟩=cs[j]?∧w.frozen? ⟨b,j,none⟩=false:=⟨cell_of_row w b j _ _ _ h,frozen_of_row w b j _ _ h⟩
theorem ZtJ (r:Rec) (R:Nat) (e:Ent) (W:World) (d:Br W R (Zi r)):
 Calls prog 84 #[Zrm e,.pointer (some ⟨R,0,none⟩)] W fun x w'=>x=.returned (.bool (decide (e.proc=r.proc)))∧Below W.heap.size W w':=by
 have f:Hid (∀ X,Below W.heap.size W (W.alloc X)):=fun X=>(Below.refl _ _).alloc zL X
 have i:R<W.heap.size:=(Array.getElem?_eq_some_iff.1 d).1
 have g:Hid (∀ X,(W.alloc X).cell? ⟨R,1,none⟩=some (.int .i64 r.proc)):=ZZ (fun X=>by
  rw[(f.o X).cell (p:=⟨R,1,none⟩) i]
  exact cell_of_row W R 1 _ _ _ d)
 obtain⟨b,k,l⟩:=e;unfold Zrm;simp only;have m:=g.o;generalize r.proc=c at *;clear d g;by_cases h:b=c
 ·have a:Hid (decide (b=c)=true):=decide_eq_true h
  have j:(b == c)=true:=beq_iff_eq.2 h;rw[a.o];clear a h
  go_enter func84,ntmps84
  go_wp2;go_ret;exact⟨rfl,f.o _⟩
 ·have a:Hid (decide (b=c)=false):=decide_eq_false h
  have j:(b == c)=false:=beq_eq_false_iff_ne.2 h;rw[a.o];clear a h
  go_enter func84,ntmps84
  go_wp2;go_ret;exact⟨rfl,f.o _⟩
theorem ZtK (r:Rec) (R:Nat) (e:Ent) (W:World) (b:Br W R (Zi r)):
 Calls prog 85 #[Zrm e,.pointer (some ⟨R,0,none⟩)] W fun x w'=>x=.returned (.bool (decide (r.proc<e.proc)))∧Below W.heap.size W w':=by
 have d:Hid (∀ X,Below W.heap.size W (W.alloc X)):=fun X=>(Below.refl _ _).alloc zL X
 have i:R<W.heap.size:=(Array.getElem?_eq_some_iff.1 b).1
 have g:Hid (∀ X,(W.alloc X).cell? ⟨R,1,none⟩=some (.int .i64 r.proc)):=ZZ (fun X=>by
  rw[(d.o X).cell (p:=⟨R,1,none⟩) i]
  exact cell_of_row W R 1 _ _ _ b)
 obtain⟨c,j,k⟩:=e;unfold Zrm;simp only;have l:=g.o;generalize r.proc=f at *;clear b g;by_cases h:f<c
 ·have a:Hid (decide (f<c)=true):=decide_eq_true h
  rw[a.o];clear a
  go_enter func85,ntmps85
  go_wp2;go_ret;exact⟨rfl,d.o _⟩
 ·have a:Hid (decide (f<c)=false):=decide_eq_false h
  rw[a.o];clear a
  go_enter func85,ntmps85
  go_wp2;go_ret;exact⟨rfl,d.o _⟩
theorem Zrs {k:Int} (h:ZwW (fun e=>decide (p<e.proc)) t k):(k<0∧J1 p t=t.length)∨(0<=k∧k=(J1 p t:Nat)):=by
 rcases h with ⟨rfl,h⟩ | ⟨i,rfl,d,b,c⟩
 ·exact .inl ⟨by omega,ZjG (fun j a=>of_decide_eq_false (h j a))⟩
 ·refine .inr ⟨by omega,?_⟩
  rw[Zms d (fun j a=>of_decide_eq_false (b j a)) (of_decide_eq_true c)]
theorem ZvV {P:Ent->Prop} (h:∀ e ∈ t,P e):∀ e ∈ Zoh p t,P e:=fun e a=>h e (List.mem_filter.1 a).1
theorem ZtL (v:Value) (t:List Ent) (r:Rec) (w:World) (L:RdE w v t) (i:ZcK r) (D:t.length<=2000):
 Calls prog 43 #[v,Zrr r] w fun e w'=>∃ v',e=.returned v'∧Xc w' w.heap.size v' (ZcE t ⟨r.proc,r.seq,r.resp⟩)∧Below w.heap.size w w':=by
 have Z:∀ e ∈ t,ZkN e:=L.choose_spec.choose_spec.2.2.2.2.1;have G:=ZZ Z;have HX:Hid (Br (w.alloc (.cells (Zi r) 62)) w.heap.size (Zi r)):=ZZ (heap_alloc_new w _);have Y:Hid (Below w.heap.size w (w.alloc (.cells (Zi r) 62))):=ZZ ((Below.refl _ _).alloc zL _);have ai:(w.alloc (.cells (Zi r) 62)).heap.size=w.heap.size+1:=by simp
 have O:=ZZ (L.below Y.o zL);have ad:Hid (ZkN ⟨r.proc,r.seq,r.resp⟩):=ZZ ⟨i.2.1,i.2.2.1,i.2.2.2.2⟩;have P:∀ args W,(callFunc 84 args).run prog W=.ok (.enter 84 args) W:=enters_of func84 (by kernel_rfl) rfl
 have aa:∀ args W,(callFunc 85 args).run prog W=.ok (.enter 85 args) W:=enters_of func85 (by kernel_rfl) rfl
 have am:=ZZ P;have aj:=ZZ aa;have X:Hid (ZcE t ⟨r.proc,r.seq,r.resp⟩=(Zoh r.proc t).take (J1 r.proc (Zoh r.proc t))++(⟨r.proc,r.seq,r.resp⟩::(Zoh r.proc t).drop (J1 r.proc (Zoh r.proc t)))):=ZZ (Zmr ⟨r.proc,r.seq,r.resp⟩ t);have Q:Hid (t.filter (fun e=>!decide (e.proc=r.proc))=Zoh r.proc t):=ZZ (by unfold Zoh;simp)
 have af:=ZZ (fun W e h=>ZtJ r w.heap.size e W h)
 have al:=ZZ (fun W e h=>ZtK r w.heap.size e W h)
 have y:Hid (∀ W,Below (w.heap.size+1) (w.alloc (.cells (Zi r) 62)) W->Br W w.heap.size (Zi r)):=ZZ (fun W h=>(h.block w.heap.size (by omega)).trans HX.o)
 have ap:∀ (fn:Fn) (first cap:Array Value) (w:World),(Instr.makeFunc fn first cap).run prog w=.ok (.func fn first cap) w:=fun _ _ _ _=>rfl
 have ae:=ZZ (fun W v l h h2=>Zfs v l W h h2)
 clear P aa Z i L;unfold Zrr Zi at *
 go_enter func43,ntmps43
 go_wp2_with fail
 refine(ae.o _ _ t O.o (by omega)).mono ?_
 rintro x W1 ⟨v1,rfl,K,E⟩;rw[ai] at K E;have T:=ZZ K;have m:=ZZ E;clear K E;have ab:=ZZ (ZhG 84 w.heap.size (fun e=>decide (e.proc=r.proc)) v1 t (w.heap.size+1) W1 T.o G.o (by have:=m.o.size;omega) (by omega) am.o (fun W e h=>af.o W e (y.o W (m.o.trans h))))
 go_wp2_with fail
 refine ab.o.mono ?_;rintro x W2 ⟨v2,rfl,J,V⟩;rw[Q.o] at J;have f:=ZZ J;have d:=ZZ (m.o.trans V);have S:=ZZ (ZvV (p:=r.proc) G.o);have M:(Zoh r.proc t).length<=2000:=Nat.le_trans (ZvT _ _) D;clear J V ab T m O G Q;obtain⟨a,ac⟩:∃ a,a=Zoh r.proc t:=⟨_,rfl⟩;rw[<-ac] at f S X M;clear ac;have R:=ZZ (Zdp 85 w.heap.size (fun e=>decide (r.proc<e.proc)) v2 a W2 (f.o.rd S.o) aj.o (fun W e h=>al.o W e (y.o W (d.o.trans (h.mono (by have:=d.o.size;omega))))))
 obtain⟨va,vc,ag⟩:=f.o.shape;subst ag
 go_wp2_with fail
 refine R.o.mono ?_;rintro x H ⟨k,rfl,B,n⟩;have ak:=ZZ (f.o.below n zL);have q:=ZZ (d.o.trans (n.mono (by have:=d.o.size;omega)))
 have C:=ZZ (y.o H q.o);have U:=ZZ (Y.o.trans (q.o.mono (by omega)))
 have an:w.heap.size+1<=H.heap.size:=by have:=q.o.size;omega
 clear n R f d;obtain⟨q1,f1⟩:=C.o.cell 1;obtain⟨q2,f2⟩:=C.o.cell 2;obtain⟨q4,f4⟩:=C.o.cell 6;have A:=Zmq r.proc a;have j:=ZZ (fun I hI N hN=>Zoo (.slice va a.length vc) a (w.heap.size+1) H ak.o an (by omega) (J1 r.proc a) A ⟨r.proc,r.seq,r.resp⟩ ad.o I hI N hN)
 rw[<-X.o] at j;unfold Jq at j;have aq:(a.length:Int)<=2000:=by omega
 rcases Zrs B with ⟨hk,g⟩ | ⟨hk,g⟩
 ·clear B
  have F:=ZZ g;clear g A M D
  go_wp2_with fail
  refine(j.o _ (by rw[F.o]) _ rfl).mono ?_
  rintro x W4 ⟨v4,rfl,c,b⟩;have z:=ZZ (c.mono (B':=w.heap.size) (by omega))
  have u:=ZZ (U.o.trans (b.mono (by omega)))
  clear c b;go_wp2;go_ret;exact⟨_,rfl,z.o,u.o⟩
 ·clear B
  have ao:¬ k<0:=by omega
  have F:=ZZ g;clear g A M D
  go_wp2_with fail
  refine(j.o _ F.o _ rfl).mono ?_;rintro x W4 ⟨v4,rfl,c,b⟩;have z:=ZZ (c.mono (B':=w.heap.size) (by omega))
  have u:=ZZ (U.o.trans (b.mono (by omega)))
  clear c b;go_wp2;go_ret;exact⟨_,rfl,z.o,u.o⟩
def Bn (w:World) (b:Nat) (cs:Array Value):Prop:=w.heap[b]?=some (.cells cs 41 (0,0))
theorem Bn.lt (h:Bn w b cs):b<w.heap.size:=(Array.getElem?_eq_some_iff.1 h).1
theorem Bn.below (h:Bn w b cs) (a:Below B w w') (c:w.heap.size<=B):Bn w' b cs:=(a.block b (by have:=h.lt;omega)).trans h
theorem Bn.cell (h:Bn w b cs) (j:Nat):w.cell? ⟨b,j,none⟩=cs[j]?∧w.frozen? ⟨b,j,none⟩=false:=⟨cell_of_row w b j _ _ _ h,frozen_of_row w b j _ _ h⟩
theorem ZdM (w:World) (X Y:Obj):((w.alloc X).alloc Y).heap[w.heap.size+1]?=some Y:=by
 have h:=heap_alloc_new (w.alloc X) Y;have e:(w.alloc X).heap.size=w.heap.size+1:=by simp
 rw[e] at h;exact h
def Zoq (a b:Qv):Prop:=ZlI a.st b.st∧a.idx=b.idx∧a.tab=b.tab
instance (a b:Qv):Decidable (Zoq a b):=by unfold Zoq;infer_instance
theorem ZjL {q:Nat} (h:q<l.length):l.take (q+1)=l.take q++[l.getD q Q8]:=by
 rw[take_add_one];simp[List.getD,h]
theorem RdE.but (h:RdE w v l) {R T:Nat} (g:But R T w w') (hn:l=[]∨∀ b,v.ownBlock=some b->b≠R∧b≠T):RdE w' v l:=by
 obtain⟨ao,cap,rfl,i,n,q,m,a⟩:=h;refine⟨ao,cap,rfl,i,n,q,m,?_⟩;rcases a with a | ⟨b,p,d,t⟩
 ·exact .inl a
 ·by_cases e:l=[]
  ·exact .inl e
  ·refine .inr ⟨b,p,d,fun j k=>?_⟩
   have f:=t j k;rcases hn with hn | hn
   ·exact absurd hn e
   ·have c:=hn b (by rw[d];rfl)
    exact f.keep (g.block b f.lt c.1 c.2)
theorem RdE.block (h:RdE w v l):l=[]∨∀ b,v.ownBlock=some b->b<w.heap.size:=by
 obtain⟨ao,cap,rfl,i,k,n,j,a⟩:=h;rcases a with a | ⟨b,m,rfl,g⟩
 ·exact .inl a
 ·by_cases d:l=[]
  ·exact .inl d
  ·refine .inr fun c f=>?_
   have e:b=c:=by simpa[Value.ownBlock] using f
   rw[<-e];exact(g 0 (List.length_pos_iff.2 d)).lt
theorem RdI.old {l:List Int} (h:RdI w v l):l=[]∨∀ b,v.ownBlock=some b->b<w.heap.size:=by
 rcases h.block with h | ⟨_,b,d,e⟩
 ·exact .inl h
 ·refine .inr fun c a=>?_
  rw[d] at a
  injection a with a
  omega
theorem Xc.fresh (h:Xc w B v l):∀ b,v.ownBlock=some b->B<=b:=fun b a=>(World.ownsRow.lt h b a).1
def Zcg (w:World) (r:Qv × Int) (e:Ending) (w':World):Prop:=
 ∃ vl vt,e=.returned (.tuple #[.agg #[.int .i64 r.1.idx,.int .i64 r.1.st.kind,vl,.bool r.1.st.shut,.int .i64 r.1.st.eng,vt],.int .i64 r.2])∧RdI w' vl r.1.st.L∧I64 r.1.st.kind∧I64 r.1.st.eng∧RdE w' vt r.1.tab∧I64 r.1.idx∧(∀ b,vl.ownBlock=some b->w.heap.size<=b)∧(∀ b,vt.ownBlock=some b->w.heap.size<=b)∧Below w.heap.size w w'
theorem Zcg.zero (n:Int) (a:Below w.heap.size w w'):Zcg w (Xr,n) (.returned (.tuple #[.agg #[.int .i64 0,.int .i64 0,.slice none 0 0,.bool false,.int .i64 0,.slice none 0 0],.int .i64 n])) w':=
 ⟨_,_,rfl,RdI.nil _,(Qk (by decide) (by decide):I64 0),(Qk (by decide) (by decide):I64 0),RdE.nil _,(Qk (by decide) (by decide):I64 0),fun b a=>by simp[Value.ownBlock] at a,fun b a=>by simp[Value.ownBlock] at a,a⟩
theorem SnV.below {s:Qv} (h:SnV w v s) {B:Nat} (a:Below B w w') (b:w.heap.size<=B):SnV w' v s:=by
 obtain⟨c,g,e,d,f,k,j,i⟩:=h;exact⟨c,g,e,d.below a b,f,k,j.below a b,i⟩
def six (w:World) (R:Nat) (x0 x1 x2 x3 x4 x5:Value):World:=(((((w.setCell ⟨R,0,none⟩ x0).setCell ⟨R,1,none⟩ x1).setCell ⟨R,2,none⟩ x2).setCell ⟨R,3,none⟩ x3).setCell ⟨R,4,none⟩ x4).setCell ⟨R,5,none⟩ x5
theorem Zew {b:World} (h:Below C b w) (R:Nat) (a:C<=R) (e f d i g c:Value):Below C b (six w R e f d i g c):=
 (((((h.setCell a _).setCell a _).setCell a _).setCell a _).setCell a _).setCell a _
theorem ZaY {b:World} (h:Below C b w) (R:Nat) (i:C<=R) (d e c g f a:Value):Below C b ((((((w.setCell ⟨R,0,none⟩ d).setCell ⟨R,1,none⟩ e).setCell ⟨R,2,none⟩ c).setCell ⟨R,3,none⟩ g).setCell ⟨R,4,none⟩ f).setCell ⟨R,5,none⟩ a):=Zew h R i d e c g f a
theorem ZpZ (w:World) (R:Nat) (c d b f e a:Value):But R R w (six w R c d b f e a):=
 ((((((But.refl R R w).set _ _ (.inl rfl) _).set _ _ (.inl rfl) _).set _ _ (.inl rfl) _).set _ _ (.inl rfl) _).set _ _ (.inl rfl) _).set _ _ (.inl rfl) _
theorem Bn.set (h:Bn w b cs) (j:Nat) (x:Value):Bn (w.setCell ⟨b,j,none⟩ x) b (cs.setIfInBounds j x):=by
 have:=heap_setCell_same w b j _ _ x h;unfold Bn;simpa using this
theorem Bn.other (h:Bn w b cs) (j:Nat) (x:Value) (a:b≠c):Bn (w.setCell ⟨c,j,none⟩ x) b cs:=(Below.heap_setCell _ _ _ _ a).trans h
end Go.Proofs.YtnahjngbneicaaaGreatDoor
