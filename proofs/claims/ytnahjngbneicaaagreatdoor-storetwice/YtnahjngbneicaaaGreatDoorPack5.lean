import Derived.Test.YtnahjngbneicaaaGreatDoorPack4
import Derived.Shelf.Slices.Empties2
import Derived.Shelf.Slices.Clone
import Derived.Shelf.Slices.Cells
import Derived.Shelf.Spec.SlicesInsertGrow
import Derived.Deep.DeepAppendWide
namespace Go.Proofs.YtnahjngbneicaaaGreatDoor
open _root_.Go.Proofs.Tryz
open List (append_nil drop_drop eq_nil_of_length_eq_zero length_append length_cons length_drop length_set length_take map_cons map_nil mem_cons take_add_one take_length)
set_option maxHeartbeats 4000000
set_option maxRecDepth 100000
open Go.RowKit
variable {a w w':World} {B B' C b c cap g i j n o:Nat} {cs cur:Array Value} {e:Ent} {v v':Value} {L l t:List Ent} {p:Int}
def Zrm (e:Ent):Value:=.agg #[.int .i64 e.proc,.int .i64 e.seq,.int .i64 e.resp]
def Jq (e:Ent):Array Value:=#[.int .i64 e.proc,.int .i64 e.seq,.int .i64 e.resp]
def ZkN (e:Ent):Prop:=I64 e.proc∧I64 e.seq∧I64 e.resp
def Be (w:World) (b:Nat) (cs:Array Value):Prop:=w.heap[b]?=some (.cells cs 85 (0,0))
theorem Be.lt (h:Be w b cs):b<w.heap.size:=(Array.getElem?_eq_some_iff.1 h).1
theorem Be.below (h:Be w b cs) (a:Below B w w') (c:w.heap.size<=B):Be w' b cs:=(a.block b (by have:=h.lt;omega)).trans h
theorem Be.cell (h:Be w b cs) (j:Nat):w.cell? ⟨b,j,none⟩=cs[j]?∧w.frozen? ⟨b,j,none⟩=false:=⟨cell_of_row w b j _ _ _ h,frozen_of_row w b j _ _ h⟩
def Zmp (w:World) (b o:Nat) (e:Ent):Prop:=
 w.cell? ⟨b,o,none⟩=some (.int .i64 e.proc)∧w.cell? ⟨b,o+1,none⟩=some (.int .i64 e.seq)∧w.cell? ⟨b,o+2,none⟩=some (.int .i64 e.resp)
theorem Zmp.lt (h:Zmp w b o e):b<w.heap.size:=World.block_lt_of_cell? w ⟨b,o,none⟩ h.1
theorem Zmp.keep (h:Zmp w b o e) (c:w'.heap[b]?=w.heap[b]?):Zmp w' b o e:=by
 have d:∀ i,w'.cell? ⟨b,i,none⟩=w.cell? ⟨b,i,none⟩:=fun i=>World.cell?_of_block (a:=⟨b,i,none⟩) c
 unfold Zmp at h ⊢;simp only [d];exact h
def RdE (w:World) (v:Value) (l:List Ent):Prop:=
 ∃ ao cap,v=.slice ao l.length cap∧l.length<=cap∧cap<=maxLen∧(ao=none->cap=0)∧(∀ e ∈ l,ZkN e)∧
  (l=[]∨∃ b off,ao=some ⟨b,off,none⟩∧∀ j,j<l.length->Zmp w b (off+j*3) (l.getD j Q8))
theorem RdE.nil (w:World):RdE w (.slice none 0 0) []:=⟨none,0,rfl,Nat.le_refl _,Nat.zero_le _,fun _=>rfl,(fun r h=>by simp at h),.inl rfl⟩
theorem RdE.below (h:RdE w v l) {B:Nat} (d:Below B w w') (t:w.heap.size<=B):RdE w' v l:=by
 obtain⟨ao,cap,m,g,e,q,p,a⟩:=h;refine⟨ao,cap,m,g,e,q,p,?_⟩;rcases a with a | ⟨b,f,n,i⟩
 ·exact .inl a
 ·refine .inr ⟨b,f,n,fun j k=>?_⟩
  have c:=i j k;exact c.keep (d.block b (by have:=c.lt;omega))
def Qg:List Ent->List Value
 | []=>[]
 | r::t=>(Jq r).toList++Qg t
theorem Q7:∀ l:List Ent,(Qg l).length=l.length*3
 | []=>rfl
 | r::t=>by
  rw[Qg,length_append,Q7 t,length_cons];simp[Jq];omega
theorem Zaw:∀ a b:List Ent,Qg (a++b)=Qg a++Qg b
 | [],_=>rfl
 | r::t,b=>by rw[List.cons_append,Qg,Zaw t b,Qg,List.append_assoc]
theorem Y4:∀ (l:List Ent) (j k:Nat),j<l.length->k<3->(Qg l)[j*3+k]?=(Jq (l.getD j Q8))[k]?
 | r::t,0,k,_,hk=>by
  rw[Qg,Nat.zero_mul,Nat.zero_add,List.getElem?_append_left (by simp[Jq];omega)]
  simp[List.getD]
 | r::t,j+1,k,hj,hk=>by
  have e:(j+1)*3+k=(Jq r).toList.length+(j*3+k):=by simp[Jq];omega
  rw[Qg,e,List.getElem?_append_right (by omega),Nat.add_sub_cancel_left,Y4 t j k (by simpa using hj) hk]
  simp[List.getD]
theorem Zac (l:List Ent):∀ u ∈ Qg l,u.oneCell'=true:=by
 induction l with
 | nil=>intro u a;simp[Qg] at a
 | cons r t b=>
  intro u a;rw[Qg] at a;rcases List.mem_append.1 a with h | h
  ·simp[Jq] at h
   rcases h with rfl | rfl | rfl <;> rfl
  ·exact b u h
def Xc (w:World) (B:Nat) (v:Value) (l:List Ent):Prop:=w.ownsRow B 85 3 v l.length (Qg l)
theorem Xc.nil (w:World) (B:Nat):Xc w B (.slice none 0 0) []:=World.ownsRow_nil w B 85 3
theorem Xc.rd (h:Xc w B v l) (c:∀ r ∈ l,ZkN r):RdE w v l:=by
 rcases h.2 with ⟨a,d⟩ | ⟨g,cap,cur,a,q,x,f,m,y,t⟩
 ·exact⟨none,0,by rw[a,d],by omega,Nat.zero_le _,fun _=>rfl,c,.inl (eq_nil_of_length_eq_zero d)⟩
 ·refine⟨some ⟨g,0,none⟩,cap,a,f,m,(fun e=>by cases e),c,.inr ⟨g,0,rfl,fun j i=>?_⟩⟩
  have b:∀ k u,k<3->(Jq (l.getD j Q8))[k]?=some u->w.cell? ⟨g,0+j*3+k,none⟩=some u:=fun k u n p=>by
   have:=World.ownsRow.cells h (g:=g) (by rw[a];rfl) (j*3+k) u ((Y4 l j k i n).trans p)
   rw[Addr.add_lit] at this;rw[Nat.add_assoc];exact this
  exact⟨b 0 _ (by decide) rfl,b 1 _ (by decide) rfl,b 2 _ (by decide) rfl⟩
theorem Xc.below (h:Xc w B v l) (c:Below B' w w') (i:w.heap.size<=B'):Xc w' B v l:=by
 obtain⟨e,a⟩:=h;refine⟨e,?_⟩;rcases a with a | ⟨g,cap,cur,d,f,b,r⟩
 ·exact .inl a
 ·have j:g<w.heap.size:=(Array.getElem?_eq_some_iff.1 b).1
  exact .inr ⟨g,cap,cur,d,f,by rw[c.block g (by omega)];exact b,r⟩
theorem Xc.mono (h:Xc w B v l) (e:B'<=B):Xc w B' v l:=by
 obtain⟨b,a⟩:=h;refine⟨b,?_⟩;rcases a with a | ⟨g,cap,cur,c,d,r⟩
 ·exact .inl a
 ·exact .inr ⟨g,cap,cur,c,by omega,r⟩
theorem Xc.shape (h:Xc w B v l):∃ ao cap,v=.slice ao l.length cap:=by
 rcases h.2 with ⟨a,b⟩ | ⟨g,cap,cur,a,_⟩
 ·exact⟨none,0,by rw[a,b]⟩
 ·exact⟨_,_,a⟩
theorem RdE.shape (h:RdE w v l):∃ ao cap,v=.slice ao l.length cap:=by
 obtain⟨ao,cap,a,_⟩:=h;exact⟨ao,cap,a⟩
theorem ZgD:(prog.info? 85).map (fun i=>(i.zero,i.size,i.bytes))=some (some (.agg #[.int .i64 0,.int .i64 0,.int .i64 0]),3,24):=by kernel_rfl
theorem ZiZ (w:World) (ty:TypeId) (B:Nat) (v:Value) (l:List Ent) (h:Xc w B v l) (r:Ent) (q:l.length<=1000000) (i:B<=w.heap.size):
 ∃ v' w',(Builtin.append_ #[39,39] ty #[v,.slice (some ⟨w.heap.size,0,none⟩) 1 1]).run prog (w.alloc (.cells (Jq r) 85))=.ok v' w'∧Xc w' B v' (l++[r])∧Below B w w':=by
 obtain⟨p,c,f,e,a⟩:=info_parts ZgD
 obtain⟨v',w',d,n,b,_⟩:=run_append_own (P:=prog) (w.alloc (.cells (Jq r) 85)) B 39 ty 85 p _ 3 24 underlying39 c f e a rfl (by decide) v l.length (Qg l) (h.alloc _)
  ⟨w.heap.size,0,none⟩ 1 1 (Qg [r]) (Q7 [r]) (fun j u g=>by
   rw[Addr.add_lit,Nat.zero_add,cell_of_row _ w.heap.size j _ 85 (0,0) (heap_alloc_new w _)]
   simpa[Qg] using g) (Zac [r]) (by unfold maxLen;omega) (by omega) (by simp;omega)
 refine⟨v',w',d,?_,?_⟩
 ·unfold Xc
  rw[length_append,Zaw];exact n
 ·exact((Below.refl _ _).alloc i _).grown b (by simp;omega) (fun k m=>(World.ownsRow.lt h k m).1)
theorem Zfp (w:World) {b:Array Oper} {rest:List Oper} {o:Oper} {a:Act} {Q:Exit->Act->World->Prop} (c:o.guard=none) (s x:Operand)
 (n:o.op=.call { callee:=.builtin .append,args:=#[s,x],argTypes:=#[39,39] })
 (B:Nat) (v:Value) (l:List Ent) (k:a.eval s=v) (d:Xc w B v l) (r:Ent) (e:a.eval x=.slice (some ⟨w.heap.size,0,none⟩) 1 1)
 (p:l.length<=1000000) (m:B<=w.heap.size)
 (h:∀ v' w',Xc w' B v' (l++[r])->Below B w w'->wpList prog b Q rest (a.put o.dst v') w'):wpList prog b Q (o::rest) a (w.alloc (.cells (Jq r) 85)):=
 wpList_plain c fun _ g=>by
  obtain⟨v',w',i,j,f⟩:=ZiZ w o.type B v l d r p m;unfold Oper.wp execOp;simp only [n,resolve,invoke,builtin,Sem.run_bind,Sem.run_pure,Result.andThen_ok,List.map_toArray,map_cons,map_nil,k,e,i];exact g _ _ (h v' w' j f)
def SnV (w:World) (v:Value) (s:Qv):Prop:=
 ∃ vl vt,v=.agg #[.int .i64 s.idx,.int .i64 s.st.kind,vl,.bool s.st.shut,.int .i64 s.st.eng,vt]∧RdI w vl s.st.L∧I64 s.st.kind∧I64 s.st.eng∧RdE w vt s.tab∧I64 s.idx
def J1 (p:Int):List Ent->Nat
 | []=>0
 | x::t=>if p<x.proc then 0 else J1 p t+1
theorem Zmq (p:Int):∀ t,J1 p t<=t.length
 | []=>Nat.le_refl _
 | x::t=>by
  rw[J1];split
  ·exact Nat.zero_le _
  ·have:=Zmq p t
   rw[length_cons];omega
def Zoh (p:Int) (t:List Ent):List Ent:=t.filter (fun x=>decide (x.proc≠p))
theorem ZvT (p:Int) (t:List Ent):(Zoh p t).length<=t.length:=List.length_filter_le _ _
theorem Zmr (e:Ent):∀ t:List Ent,ZcE t e=(Zoh e.proc t).take (J1 e.proc (Zoh e.proc t))++(e::(Zoh e.proc t).drop (J1 e.proc (Zoh e.proc t)))
 | []=>rfl
 | x::t=>by
  have b:=Zmr e t;unfold ZcE at b ⊢;unfold Zoh at b ⊢
  have d:(x::t).filter (fun y=>decide (y.proc≠e.proc))=if x.proc=e.proc then t.filter (fun y=>decide (y.proc≠e.proc)) else x::t.filter (fun y=>decide (y.proc≠e.proc)):=by
   rw[List.filter_cons];by_cases h:x.proc=e.proc <;> simp[h]
  rw[Zfh,d];by_cases c:x.proc=e.proc
  ·have a:¬ e.proc<x.proc:=by omega
   simp only [c,if_true];rw[if_neg (by simp),decide_eq_false (by omega),Bool.false_or,b]
   rfl
  ·simp only [if_neg c]
   by_cases a:e.proc<x.proc
   ·rw[if_pos (by simp[a]),decide_eq_true a,Bool.or_true,Zfi,J1,if_pos a]
    rfl
   ·rw[if_neg (fun h=>a h.2),decide_eq_false a,Bool.or_false,J1,if_neg a,b]
    rfl
theorem ZjG:∀ {t:List Ent},(∀ j,j<t.length->¬ p<(t.getD j Q8).proc)->J1 p t=t.length
 | [],_=>rfl
 | x::t,h=>by
  have a:=h 0 (by simp)
  rw[show(x::t).getD 0 Q8=x from rfl] at a;rw[J1,if_neg a,ZjG (fun j b=>h (j+1) (by simpa using b))]
  rfl
theorem Zms:∀ {t:List Ent} {i:Nat},i<t.length->(∀ j,j<i->¬ p<(t.getD j Q8).proc)->p<(t.getD i Q8).proc->J1 p t=i
 | [],i,hi,_,_=>absurd hi (Nat.not_lt_zero _)
 | x::t,0,_,_,h=>by
  rw[show(x::t).getD 0 Q8=x from rfl] at h;rw[J1,if_pos h]
 | x::t,i+1,hi,hb,h=>by
  have a:=hb 0 (by omega)
  rw[show(x::t).getD 0 Q8=x from rfl] at a;rw[J1,if_neg a,Zms (i:=i) (by simpa using hi) (fun j b=>hb (j+1) (by omega)) h]
theorem ZtA {b:List UInt8} {r:List Ent × List UInt8} (h:Zbf n b=some r):n<=b.length:=by
 obtain⟨t,x⟩:=r;obtain⟨c,a⟩:=ZdH n b t x h;have:=Zth t;rw[a,length_append];omega
theorem Zmt {b:List UInt8} (c:(Qb b).2≠0):ZbK b=(Zbf (Qb b).1 (b.drop (Qb b).2)).bind (fun r=>if r.2=[] then some r.1 else none):=by
 unfold ZbK;by_cases a:b.length<(Qb b).1
 ·rw[if_pos (.inr a)]
  cases h:Zbf (Qb b).1 (b.drop (Qb b).2) with
  | none=>rfl
  | some r=>
   have:=ZtA h;rw[length_drop] at this;omega
 rw[if_neg (by omega)]
 cases Zbf (Qb b).1 (b.drop (Qb b).2) with
 | none=>rfl
 | some p=>
  obtain⟨t,x⟩:=p
  cases x <;> rfl
theorem Zoi {l:List UInt8} {a:Nat} (h:a<l.length):Xu (l.drop a)=(l.drop a).take 64::Xu (l.drop (a+64)):=by
 rw[Y7 (fun e=>by
  have:=congrArg List.length e;rw[length_drop,List.length_nil] at this
  omega),drop_drop]
theorem ZtB (P:List (List UInt8)):Zfg P↔P=Xu P.flatten:=
 ⟨fun h=>(ZcD P h).symm,fun h=>by rw[h];exact ZfN _ _ zL⟩
theorem ZtC (e:Ent):Qw ⟨0,e.proc,e.seq,⟨0,0,0⟩,e.resp⟩↔ZbZ e:=by
 unfold Qw ZbZ Jg;simp only;omega
def ZhA (t:List Ent):Nat->Int
 | 0=>0
 | k+1=>(t.getD k Q8).proc+1
theorem Zoj {k:Nat}:Jh t (k+1)↔Jh t k∧ZbZ (t.getD k Q8)∧ZhA t k<=(t.getD k Q8).proc:=by
 rw[Jh.next];constructor
 ·rintro⟨h1,h2,h3⟩
  refine⟨h1,h2,?_⟩
  cases k with
  | zero=>exact h2.1
  | succ k=>
   have:=h3 (by omega)
   rw[Nat.add_sub_cancel] at this;rw[ZhA];omega
 ·rintro⟨h1,h2,h3⟩
  refine⟨h1,h2,fun h=>?_⟩
  cases k with
  | zero=>omega
  | succ k=>
   rw[ZhA] at h3;rw[Nat.add_sub_cancel];omega
theorem ZtD (i:Int) (t:List Ent):¬ Zdk ⟨i,ZcA,t⟩:=by
 rintro⟨-,h,-⟩
 revert h
 show ¬ X8 ZcA;decide
def Y0:Nat->List UInt8->Option (List Nat × List UInt8)
 | 0,b=>some ([],b)
 | n+1,b=>if(Qb b).2=0 then none else(Y0 n (b.drop (Qb b).2)).map (fun r=>((Qb b).1::r.1,r.2))
theorem ZaI {P:Program} (w:World) (g u ty e:TypeId) (k:Nat) (b o c p:Nat) (a:Addr) (d x:Nat) (cs:List Value)
 (y:P.underlying g=some (.slice e)) (l:(P.info? e).map (·.size)=some k) (B:cs.length=Nat.min d c*k)
 (A:∀ j v,cs[j]?=some v->w.cell? (a.add j)=some v) (t:∀ j,j<cs.length->(w.cell? ⟨b,o+j,none⟩).isSome=true) (q:∀ j,j<cs.length->w.frozen? ⟨b,o+j,none⟩=false) (z:∀ v ∈ cs,v.oneCell'=true):
 (Builtin.copy_ #[g,u] ty #[.slice (some ⟨b,o,none⟩) c p,.slice (some a) d x]).run P w=.ok (goInt (Nat.min d c)) (w.setCells b o cs):=by
 have f:=run_loadCells_list (P:=P) w a cs A;have m:=run_storeCells_cells (P:=P) b o cs 0 w (by simpa using t) (by simpa using q) z
 cases hq:P.info? e with
 | none=>simp[hq] at l
 | some i=>
  have n:i.size=k:=by simpa[hq] using l
  rw[B] at f;simp[Builtin.copy_,run_underlying y,Builtin.lenOf,Builtin.firstCells,sizeOf,typeInfo,hq,n,f,m]
def Zbo:Nat->List Value
 | 0=>[]
 | n+1=>.int .i64 0::.int .i64 0::.int .i64 0::Zbo n
theorem Jl:∀ n,(Zbo n).length=n*3
 | 0=>rfl
 | n+1=>by rw[Zbo,length_cons,length_cons,length_cons,Jl n];omega
theorem Zfq:∀ n,∀ v ∈ Zbo n,v=.int .i64 0
 | 0,v,h=>by simp[Zbo] at h
 | n+1,v,h=>by
  rw[Zbo,mem_cons,mem_cons,mem_cons] at h;rcases h with h | h | h | h
  ·exact h
  ·exact h
  ·exact h
  ·exact Zfq n v h
theorem ZjH (n:Nat):(Builtin.zeroCells (Value.agg #[.int .i64 0,.int .i64 0,.int .i64 0]).cells n).toList=Zbo n:=by
 have d:(Value.agg #[.int .i64 0,.int .i64 0,.int .i64 0]).cells=#[.int .i64 0,.int .i64 0,.int .i64 0]:=by rfl
 rw[d];apply List.ext_getElem?;intro i;by_cases h:i<n*3
 ·have a:i<(Zbo n).length:=by rw[Jl];exact h
  have g:(Zbo n)[i]?=some (.int .i64 0):=by
   rw[List.getElem?_eq_getElem a,Zfq n _ (List.getElem_mem a)]
  rw[g];have c:i % 3=0∨i % 3=1∨i % 3=2:=by omega
  simp only [Builtin.zeroCells,Array.getElem?_toList,Array.getElem?_map];have f:(Array.range (n*(#[Value.int .i64 0,.int .i64 0,.int .i64 0]:Array Value).size))[i]?=some i:=by simp[h]
  rw[f];have b:(#[Value.int .i64 0,.int .i64 0,.int .i64 0]:Array Value).size=3:=rfl;rw[b];rcases c with e | e | e <;> rw[Option.map_some,e] <;> rfl
 ·rw[List.getElem?_eq_none (by simp[Builtin.zeroCells];omega),List.getElem?_eq_none (by rw[Jl];omega)]
theorem ZhB {P:Program} (w:World) (t e ty:TypeId) (i:P.underlying t=some (.slice e)) (d:∀ w,(zeroValue e).run P w=.ok (.agg #[.int .i64 0,.int .i64 0,.int .i64 0]) w) (b o n c:Nat) (l:0<n)
 (g:∀ j,j<n*3->(w.cell? ⟨b,o+j,none⟩).isSome=true) (f:∀ j,j<n*3->w.frozen? ⟨b,o+j,none⟩=false):
 (Builtin.clear_ #[t] ty #[.slice (some ⟨b,o,none⟩) n c]).run P w=.ok (.tuple #[]) (w.setCells b o (Zbo n)):=by
 have a:=run_storeCells_cells (P:=P) b o (Zbo n) 0 w (by rw[Jl];simpa using g) (by rw[Jl];simpa using f) (by intro v k;rw[Zfq n v k];rfl)
 simp only [Nat.add_zero] at a;obtain⟨m,rfl⟩:∃ m,n=m+1:=⟨n-1,by omega⟩
 simp[Builtin.clear_,run_underlying i,d,ZjH,a]
def Zok (r s:Ent):Bool:=r.proc == s.proc && r.seq == s.seq && r.resp == s.resp
theorem ZtE (w:World) (r s:Ent):(binOp .neq 85 (.agg #[.int .i64 r.proc,.int .i64 r.seq,.int .i64 r.resp]) (.agg #[.int .i64 s.proc,.int .i64 s.seq,.int .i64 s.resp])).run prog w=.ok (.bool (!Zok r s)) w:=by
 have c:=underlying3;have e:=Tryz.isAgg3;have d:=Tryz.sizeOf3;have b:prog.underlying 85=some (.struct (prog.fieldsOf 85)):=by kernel_rfl
 have a:prog.stoodInHeld 85=false:=by kernel_rfl
 unfold Zok;rw[run_neq_struct,show(10000:Nat)=9999+1 from rfl,run_equalIn_agg w 9999 85 _ _ b a];simp only [Program.fieldsOf,underlying85]
 go_simp
 repeat' split
 all_goals simp_all
theorem ZtF:prog.eqGuardType prog.depth 85=false:=by kernel_rfl
theorem Zmu (r s:Ent):Zok r s=true↔r=s:=by
 obtain⟨i,p,q⟩:=r;obtain⟨a,b,c⟩:=s;simp[Zok];constructor
 ·rintro⟨⟨rfl,rfl⟩,rfl⟩
  simp
 ·rintro⟨rfl,rfl,rfl⟩
  simp
theorem Zrn (r:Ent):Zok r r=true:=(Zmu r r).2 rfl
theorem ZtG {r s:Ent} (h:r≠s):Zok r s=false:=by
 cases hq:Zok r s
 ·rfl
 ·exact absurd ((Zmu _ _).1 hq) h
open Go.RowKit Go.Shelf
def ZvU:Go.Shelf.Ren:=⟨fun | 111=>89 | n=>n,fun | 28=>23 | 3=>3 | 4=>4 | 0=>0 | n=>n,fun | n=>n⟩
theorem Zza:Go.Proofs.Lays.n111 prog ZvU:={
 mixed:=by kernel_rfl
 f111:=func89.trans (congrArg some (by kernel_rfl))
 t0:=underlying0
 a0:=Tryz.isAgg0
 z0:=Tryz.sizeOf0
 v0:=Tryz.zeroValue0
 t3:=underlying3
 a3:=Tryz.isAgg3
 z3:=Tryz.sizeOf3
 v3:=Tryz.zeroValue3
 t4:=underlying4
 a4:=Tryz.isAgg4
 z4:=Tryz.sizeOf4
 v4:=Tryz.zeroValue4
 t28:=underlying23
 a28:=Tryz.isAgg23
 z28:=Tryz.sizeOf23
 v28:=Tryz.zeroValue23 }
def Zro:Go.Shelf.Ren:=⟨fun | 15=>39 | n=>n,fun | 22=>23 | 3=>3 | 4=>4 | n=>n,fun | n=>n⟩
theorem ZtH:Go.Proofs.Lays2.n15 prog Zro:={
 mixed:=by kernel_rfl
 f15:=func39.trans (congrArg some (by kernel_rfl))
 t3:=underlying3
 a3:=Tryz.isAgg3
 z3:=Tryz.sizeOf3
 v3:=Tryz.zeroValue3
 t4:=underlying4
 a4:=Tryz.isAgg4
 z4:=Tryz.sizeOf4
 v4:=Tryz.zeroValue4
 t22:=underlying23
 a22:=Tryz.isAgg23
 z22:=Tryz.sizeOf23
 v22:=Tryz.zeroValue23
 i3:=by kernel_rfl }
def Zrp:Go.Shelf.Ren:=⟨fun | 23=>210 | n=>n,fun | 22=>23 | 3=>3 | 4=>4 | 0=>0 | n=>n,fun | n=>n⟩
theorem Zyp:Go.Proofs.Lays2.n23 prog Zrp:={
 mixed:=by kernel_rfl
 f23:=func210.trans (congrArg some (by kernel_rfl))
 t0:=underlying0
 a0:=Tryz.isAgg0
 z0:=Tryz.sizeOf0
 v0:=Tryz.zeroValue0
 t3:=underlying3
 a3:=Tryz.isAgg3
 z3:=Tryz.sizeOf3
 v3:=Tryz.zeroValue3
 t4:=underlying4
 a4:=Tryz.isAgg4
 z4:=Tryz.sizeOf4
 v4:=Tryz.zeroValue4
 t22:=underlying23
 a22:=Tryz.isAgg23
 z22:=Tryz.sizeOf23
 v22:=Tryz.zeroValue23
 i3:=by kernel_rfl }
def ZjI:Go.Shelf.Ren:=⟨fun | 21=>212 | 27=>223 | 28=>224 | 35=>229 | 39=>232 | n=>n,fun | 22=>23 | 3=>3 | 4=>4 | 0=>0 | n=>n,fun | n=>n⟩
theorem Zmv:Go.Proofs.Lays2.n21 prog ZjI:={
 mixed:=by kernel_rfl
 f21:=func212.trans (congrArg some (by kernel_rfl))
 f27:=func223.trans (congrArg some (by kernel_rfl))
 f28:=func224.trans (congrArg some (by kernel_rfl))
 f35:=func229.trans (congrArg some (by kernel_rfl))
 f39:=func232.trans (congrArg some (by kernel_rfl))
 t0:=underlying0
 a0:=Tryz.isAgg0
 z0:=Tryz.sizeOf0
 v0:=Tryz.zeroValue0
 t3:=underlying3
 a3:=Tryz.isAgg3
 z3:=Tryz.sizeOf3
 v3:=Tryz.zeroValue3
 t4:=underlying4
 a4:=Tryz.isAgg4
 z4:=Tryz.sizeOf4
 v4:=Tryz.zeroValue4
 t22:=underlying23
 a22:=Tryz.isAgg23
 z22:=Tryz.sizeOf23
 v22:=Tryz.zeroValue23
 i3:=by kernel_rfl }
def ZeW (cur:Array Value):Nat->List Value->Array Value
 | _,[]=>cur
 | o,v::r=>ZeW (cur.setIfInBounds o v) (o+1) r
theorem Xd:∀ (vs:List Value) (o:Nat) (cur:Array Value),(ZeW cur o vs).size=cur.size
 | [],_,_=>rfl
 | v::r,o,cur=>by rw[ZeW,Xd r];simp
theorem Yb:∀ (vs:List Value) (o:Nat) (cur:Array Value) (j:Nat),j<cur.size->(ZeW cur o vs)[j]?=if o<=j∧j<o+vs.length then vs[j-o]? else cur[j]?
 | [],o,cur,j,_=>by
  rw[ZeW,if_neg (by rw[List.length_nil];omega)]
 | v::r,o,cur,j,hj=>by
  rw[ZeW,Yb r (o+1) _ j (by simpa using hj)]
  by_cases h:j=o
  ·subst h
   rw[if_neg (by omega),if_pos (by simp)]
   simp[hj]
  ·by_cases a:o+1<=j∧j<o+1+r.length
   ·rw[if_pos a,if_pos (by simp;omega)]
    rw[show j-o=(j-(o+1))+1 by omega]
    simp
   ·rw[if_neg a,if_neg (by simp;omega)]
    simp[show ¬ o=j by omega]
theorem Xl (g:Nat) (t:TypeId):∀ (vs:List Value) (o:Nat) (w:World) (cur:Array Value),w.heap[g]?=some (.cells cur t (0,0))->(w.setCells g o vs).heap[g]?=some (.cells (ZeW cur o vs) t (0,0))
 | [],_,_,_,h=>h
 | v::r,o,w,cur,h=>by
  rw[World.setCells,ZeW];exact Xl g t r (o+1) _ _ (heap_setCell_same w g o cur t v h)
theorem Jw (b:B<=g):∀ (vs:List Value) (o:Nat) (w:World),Below B a w->Below B a (w.setCells g o vs)
 | [],_,_,h=>h
 | v::r,o,w,h=>by
  rw[World.setCells];exact Jw b r (o+1) _ (h.setCell b v)
theorem ZhC (h:Below B a w):Below B a w.drew:=⟨h.os,h.tape,h.output,h.size,h.block⟩
theorem Qo.ofRow {l:List Int} (e:B<=g) (b:w.heap[g]?=some (.cells cur 3 (0,0))) (i:l.length<=cap) (c:cap<=maxLen) (f:cur.size=cap) (d:∀ j,j<l.length->cur[j]?=some (.int .i64 (l.getD j 0))):
 Qo w B (.slice (some ⟨g,0,none⟩) l.length cap) l:=by
 refine⟨by rw[Yw,Nat.mul_one],.inr ⟨g,cap,cur,rfl,e,b,i,c,by rw[f,Nat.mul_one],?_⟩⟩
 apply List.ext_getElem?;intro j;rw[Nat.mul_one];by_cases a:j<l.length
 ·rw[List.getElem?_take_of_lt a,Y3 l j a,Array.getElem?_toList]
  exact d j a
 ·rw[List.getElem?_eq_none (by simp;omega),List.getElem?_eq_none (by rw[Yw];omega)]
theorem Qo.ofRowN {l:List Int} (f:n=l.length) (e:B<=g) (a:w.heap[g]?=some (.cells cur 3 (0,0))) (i:l.length<=cap) (b:cap<=maxLen) (c:cur.size=cap) (d:∀ j,j<l.length->cur[j]?=some (.int .i64 (l.getD j 0))):
 Qo w B (.slice (some ⟨g,0,none⟩) n cap) l:=by
 subst f;exact Qo.ofRow e a i b c d
theorem Qo.row {l:List Int} (h:Qo w B v l):(v=.slice none 0 0∧l=[])∨∃ g cap cur,v=.slice (some ⟨g,0,none⟩) l.length cap∧B<=g∧g<w.heap.size∧w.heap[g]?=some (.cells cur 3 (0,0))∧l.length<=cap∧cap<=maxLen∧cur.size=cap∧∀ j,j<l.length->cur[j]?=some (.int .i64 (l.getD j 0)):=by
 rcases h.2 with ⟨a,b⟩ | ⟨g,cap,cur,a,b,c,i,f,k,m⟩
 ·exact .inl ⟨a,eq_nil_of_length_eq_zero b⟩
 ·refine .inr ⟨g,cap,cur,a,b,(Array.getElem?_eq_some_iff.1 c).1,c,i,f,by rw[k,Nat.mul_one],fun j d=>?_⟩
  have e:=Y3 l j d;rw[<-m,Nat.mul_one,List.getElem?_take_of_lt d,Array.getElem?_toList] at e;exact e
theorem ZjJ (w:World) (q:Nat):(w.drewN q).heap=w.heap:=by
 induction q generalizing w with
 | zero=>rfl
 | succ n a=>exact a _
structure Mv (w w':World) (v v':Value):Prop where
 grown:w.grownBy w' v.ownBlock
 lies:∀ b,v'.ownBlock=some b->v.ownBlock=some b∨w.heap.size<=b
theorem Mv.size (h:Mv w w' v v'):w.heap.size<=w'.heap.size:=h.grown.size
theorem Mv.ofBelow (h:Below w.heap.size w w') (v:Value):Mv w w' v v:=⟨⟨h.os,h.tape,h.output,h.size,fun k a _=>h.block k a⟩,fun _ b=>.inl b⟩
theorem Mv.refl (w:World) (v:Value):Mv w w v v:=Mv.ofBelow (Below.refl _ _) v
theorem Mv.alloc (w:World) (v:Value) (X:Obj):Mv w (w.alloc X) v v:=Mv.ofBelow ((Below.refl _ _).alloc zL X) v
theorem Mv.trans {g f:World} {j d:Value} (a:Mv w g v j) (c:Mv g f j d):Mv w f v d:=by
 have n:=a.size;refine⟨⟨c.grown.os.trans a.grown.os,c.grown.tape.trans a.grown.tape,c.grown.output.trans a.grown.output,Nat.le_trans n c.size,fun k l i=>?_⟩,fun b m=>?_⟩
 ·rw[c.grown.block k (by omega) (fun e=>?_)]
  ·exact a.grown.block k l i
  ·rcases a.lies k e.symm with h | h
   ·exact i h.symm
   ·omega
 ·rcases c.lies b m with h | h
  ·exact a.lies b h
  ·exact .inr (by omega)
theorem Mv.drew (h:Mv w w' v v'):Mv w w'.drew v v':=⟨⟨h.grown.os,h.grown.tape,h.grown.output,h.grown.size,h.grown.block⟩,h.lies⟩
theorem Mv.below (h:Mv w w' v v') {B:Nat} {l:List Int} (a:Qo w B v l) (c:B<=w.heap.size):Below B w w':=
 ⟨h.grown.os,h.grown.tape,h.grown.output,h.size,fun k b=>h.grown.block k (by omega) (fun e=>by have:=(World.ownsRow.lt a k e.symm).1;omega)⟩
theorem Mv.app {N:Nat} (h:w.grownBy w' v.ownBlock) (d:w.heap.size=N) (a:v'.ownBlock=v.ownBlock∨∃ g,v'.ownBlock=some g∧N<=g):Mv w w' v v':=by
 refine⟨h,fun b c=>?_⟩
 rcases a with a | ⟨g,a,e⟩
 ·exact .inl (by rw[<-a];exact c)
 ·rw[a] at c
  injection c with c
  exact .inr (by omega)
theorem Zar (g:Nat):∀ (vs:List Value) (o:Nat) (w:World) (k:Nat),k≠g->(w.setCells g o vs).heap[k]?=w.heap[k]?
 | [],_,_,_,_=>rfl
 | v::r,o,w,k,h=>by
  rw[World.setCells,Zar g r (o+1) _ k h];exact Below.heap_setCell _ _ _ _ h
theorem Mv.cells {n' c':Nat} (h:Mv w w' v (.slice (some ⟨g,0,none⟩) n c)) (o:Nat) (vs:List Value):Mv w (w'.setCells g o vs) v (.slice (some ⟨g,0,none⟩) n' c'):=by
 have d:=Jw (B:=0) (g:=g) (a:=w') (Nat.zero_le _) vs o w' (Below.refl _ _);refine⟨⟨d.os.trans h.grown.os,d.tape.trans h.grown.tape,d.output.trans h.grown.output,Nat.le_trans h.size d.size,fun k i f=>?_⟩,fun b d=>h.lies b d⟩
 rw[Zar g vs o w' k (fun e=>?_)]
 ·exact h.grown.block k i f
 ·rcases h.lies g rfl with h' | h'
  ·exact f (by rw[e,h'])
  ·omega
theorem Mv.made {e:Value} (h:Mv w w' v e) (X:Obj) (n c:Nat):Mv w (w'.alloc X) v (.slice (some ⟨w'.heap.size,0,none⟩) n c):=by
 have a:=(Below.refl w'.heap.size w').alloc zL X;refine⟨⟨a.os.trans h.grown.os,a.tape.trans h.grown.tape,a.output.trans h.grown.output,Nat.le_trans h.size a.size,fun k d f=>?_⟩,fun b a=>.inr ?_⟩
 ·rw[a.block k (by have:=h.size;omega)]
  exact h.grown.block k d f
 ·have:=ZnL a
  have:=h.size;omega
theorem Mv.drewN (h:Mv w w' v v') (q:Nat):Mv w (w'.drewN q) v v':=by
 have a:=Xn (Below.refl 0 w') q;exact⟨⟨a.os.trans h.grown.os,a.tape.trans h.grown.tape,a.output.trans h.grown.output,Nat.le_trans h.size a.size,fun k b c=>by rw[ZjJ];exact h.grown.block k b c⟩,h.lies⟩
theorem Qo.put {l:List Int} (h:Qo w B v l) (j:Nat) (d:j<l.length) (n:Int):
 ∃ g cap,v=.slice (some ⟨g,0,none⟩) l.length cap∧w.cell? ⟨g,j,none⟩=some (.int .i64 (l.getD j 0))∧w.frozen? ⟨g,j,none⟩=false∧B<=g∧g<w.heap.size∧Qo (w.setCell ⟨g,j,none⟩ (.int .i64 n)) B v (l.set j n)∧Mv w (w.setCell ⟨g,j,none⟩ (.int .i64 n)) v v:=by
 rcases h.row with ⟨_,a⟩ | ⟨g,cap,cur,rfl,a,q,b,p,u,t,f⟩
 ·subst a;simp at d
 ·refine⟨g,cap,rfl,?_,frozen_of_row w g j _ _ b,a,q,?_,(Mv.refl w (.slice (some ⟨g,0,none⟩) l.length cap)).cells j [_]⟩
  ·rw[cell_of_row w g j _ _ _ b]
   exact f j d
  ·have e:l.length=(l.set j n).length:=by simp
   rw[e];refine Qo.ofRow a (heap_setCell_same w g j _ _ _ b) (by rw[<-e];exact p) u (by simpa using t) (fun i c=>?_)
   rw[<-e] at c;by_cases k:i=j
   ·subst k
    have:i<cur.size:=by omega
    simp[this,List.getD,c]
   ·have m:¬ j=i:=fun h=>k h.symm
    have:=f i c;simp[m,this,List.getD]
theorem Zfr (v:Value) (l:List Int) (w:World) (m:RdI w v l) (u:l.length<=1000000):
 Calls prog 39 #[v] w fun e w'=>∃ v',e=.returned v'∧Qo w' w.heap.size v' l∧Below w.heap.size w w':=by
 obtain⟨ao,cap,rfl,t,q,n,p,i⟩:=m
 cases ao with
 | none=>
  have j:=n rfl;have c:l=[]:=eq_nil_of_length_eq_zero (by omega)
  subst c;refine Calls.mono (Any.slices_Clone_int_nil ZtH _ cap w) ?_;rintro e w' ⟨rfl,rfl⟩;exact⟨_,rfl,Qo.nil _ _,Below.refl _ _⟩
 | some a=>
  by_cases c:l=[]
  ·subst c
   refine Calls.mono (Any.slices_Clone_int_zero ZtH a cap w) ?_;rintro e w' ⟨v',rfl,d,_,f⟩;exact⟨v',rfl,d,f⟩
  ·rcases i with i | ⟨b,k,g,j⟩
   ·exact absurd i c
   ·injection g with g
    subst g;refine Calls.mono (Any.slices_Clone_int ZtH b k l.length cap l w zL (by omega) j) ?_
    rintro e w' ⟨v',rfl,d,_,f⟩;refine⟨v',rfl,?_,f⟩;rw[take_length] at d;exact d
theorem Zrq (g:Value) (A:List Int) (j:Value) (B:List Int) (w:World) (n:RdI w g A) (k:RdI w j B):
 Calls prog 89 #[g,j] w fun e w'=>e=.returned (.bool (decide (A=B)))∧Below w.heap.size w w':=by
 obtain⟨ao,cap,rfl,G,u,I,E,d⟩:=n;obtain⟨f,a,rfl,J,t,D,K,b⟩:=k;by_cases i:A.length=B.length
 ·by_cases c:A.length=0
  ·have y:A=[]:=eq_nil_of_length_eq_zero c
   have m:B=[]:=eq_nil_of_length_eq_zero (by omega)
   subst y;subst m;refine Calls.mono (Any.slices_Equal_int_empty Zza ao f cap 0 a w (by omega)) ?_
   rintro e w' ⟨rfl,rfl⟩;exact⟨rfl,Below.refl _ _⟩
  ·rcases d with d | ⟨p,l,rfl,v⟩
   ·rw[d] at c;simp at c
   rcases b with b | ⟨z,x,rfl,C⟩
   ·have H:B.length=0:=by rw[b];rfl
    omega
   have F:cap<=9223372036854775807:=by unfold maxLen at u;omega
   have L:a<=9223372036854775807:=by unfold maxLen at t;omega
   refine Calls.mono (Any.slices_Equal_int Zza p l A.length cap z x B.length a A B w zL zL (by omega) (by omega) v C) ?_
   rintro e w' ⟨rfl,q,rfl⟩;refine⟨?_,Xn (Below.refl _ _) q⟩;rw[take_length,take_length];by_cases h:A=B
   ·rw[decide_eq_true h,beq_iff_eq.2 h]
   ·rw[decide_eq_false h,beq_eq_false_iff_ne.2 h]
 ·refine Calls.mono (Any.slices_Equal_int_lens Zza ao f A.length cap B.length a w i) ?_
  rintro e w' ⟨rfl,rfl⟩;exact⟨by rw[decide_eq_false (fun h=>i (by rw[h]))],Below.refl _ _⟩
theorem ZhD (v:Value) (l:List Int) (B:Nat) (w:World) (y:Qo w B v l) (i j:Nat) (C:i<j) (c:j<=l.length) (I J:Int) (p:I=i) (m:J=j):
 Calls prog 210 #[v,.int .i64 I,.int .i64 J] w fun e w'=>∃ v',e=.returned v'∧Qo w' B v' (l.take i++l.drop j)∧Mv w w' v v':=by
 subst p;subst m;rcases y.row with ⟨_,t⟩ | ⟨g,cap,cur,rfl,f,A,b,z,d,u,n⟩
 ·subst t;simp at c;omega
 ·unfold maxLen at d
  refine Calls.mono (Any.slices_Delete_int_cells Zyp g 0 l.length cap i j l w zL z (by omega) (by omega) c
   (fun k a=>by rw[Nat.zero_add,cell_of_row w g k _ _ _ b];exact n k a) (fun k a=>by rw[Nat.zero_add];exact frozen_of_row w g k _ _ b)) ?_
  rintro e w' ⟨rfl,q,rfl⟩;refine⟨_,rfl,?_,((Mv.refl w (.slice (some ⟨g,0,none⟩) l.length cap)).drewN q).cells _ _⟩;have x:(l.take i++l.drop j).length=l.length-(j-i):=by simp;omega
  rw[<-x];refine Qo.ofRow f (Xl g _ _ _ _ cur (by rw[ZjJ];exact b)) (by omega) (by unfold maxLen;omega) (by rw[Xd];exact u) (fun k a=>?_)
  rw[Yb _ _ _ _ (by omega),take_length,if_pos (by simp at a ⊢;omega),Nat.sub_zero,List.map_append,List.getElem?_append_left (by simpa using a)]
  exact Y3 _ k a
theorem get3 {α:Type} (A vs:List α) (i:Nat) (d:i<=A.length) (j:Nat):(A.take i++(vs++A.drop i))[j]?=if j<i then A[j]? else if j<i+vs.length then vs[j-i]? else A[j-vs.length]?:=by
 have c:(A.take i).length=i:=by simp;omega
 by_cases a:j<i
 ·rw[if_pos a,List.getElem?_append_left (by omega),List.getElem?_take_of_lt a]
 ·rw[if_neg a,List.getElem?_append_right (by omega),c]
  by_cases b:j<i+vs.length
  ·rw[if_pos b,List.getElem?_append_left (by omega)]
  ·rw[if_neg b,List.getElem?_append_right (by omega),List.getElem?_drop]
   congr 1
   omega
theorem ZcJ (A B:List Int):Qn (A++B)=Qn A++Qn B:=by simp[Qn]
theorem ZkO (A:List Int) (i:Nat):Qn (A.take i)=(Qn A).take i:=by simp[Qn]
theorem ZkP (A:List Int) (i:Nat):Qn (A.drop i)=(Qn A).drop i:=by simp[Qn]
theorem Zev (l:List Int) (i:Nat) (a:i<=l.length) (x y:Int) (j:Nat) (b:j<(l.take i++([x,y]++l.drop i)).length):
 some (.int .i64 ((l.take i++([x,y]++l.drop i)).getD j 0))=if j<i then(Qn l)[j]? else if j<i+2 then[Value.int .i64 x,.int .i64 y][j-i]? else(Qn l)[j-2]?:=by
 rw[<-Y3 _ j b,ZcJ,ZcJ,ZkO,ZkP];exact get3 (Qn l) (Qn [x,y]) i (by rw[Yw];exact a) j
theorem Zol (v:Value) (l:List Int) (B:Nat) (w:World) (ho:Qo w B v l) (hB:B<=w.heap.size) (aj:l.length<=1000000) (i:Nat) (L:i<=l.length) (I:Int) (hI:I=i) (x y:Int) (N:Nat) (hN:N=w.heap.size):
 Calls prog 212 #[v,.int .i64 I,.slice (some ⟨N,0,none⟩) 2 2] (w.alloc (.cells #[.int .i64 x,.int .i64 y] 3)) fun e w'=>∃ v',e=.returned v'∧Qo w' B v' (l.take i++([x,y]++l.drop i))∧Mv w w' v v':=by
 subst hI;subst hN;have A:Mv w (w.alloc (.cells #[.int .i64 x,.int .i64 y] 3)) v v:=Mv.alloc w v _;have H:=heap_alloc_new w (.cells #[.int .i64 x,.int .i64 y] 3);have ai:(w.alloc (.cells #[.int .i64 x,.int .i64 y] 3)).heap.size=w.heap.size+1:=by simp
 have ac:∀ k,k<w.heap.size->(w.alloc (.cells #[.int .i64 x,.int .i64 y] 3)).heap[k]?=w.heap[k]?:=fun k hk=>Below.heap_alloc _ _ _ hk
 generalize w.alloc (.cells #[.int .i64 x,.int .i64 y] 3)=W at *;have m:(l.take i++([x,y]++l.drop i)).length=l.length+2:=by simp;omega
 have q:∀ j u,[Value.int .i64 x,.int .i64 y][j]?=some u->W.cell? ⟨w.heap.size,0+j,none⟩=some u:=fun j u d=>by
  rw[Nat.zero_add,cell_of_row W w.heap.size j _ _ _ H];simpa using d
 have p:∀ u ∈ [Value.int .i64 x,.int .i64 y],u.oneCell'=true:=fun u d=>by
  simp at d;rcases d with rfl | rfl <;> rfl
 have f:=Yw l;have ab:=ZlG l;have z:(Value.int .i64 0).cells.size=1:=rfl;have K:ZjI.t 3=3:=rfl;rcases ho.row with ⟨rfl,rfl⟩ | ⟨g,cap,cur,rfl,V,ae,hg,S,J,Q,X⟩
 ·have af:i=0:=by simpa using L
  subst af;refine Calls.mono (Any2.slices_Insert_int_end_grow Zmv none 0 0 w.heap.size 0 2 2 [] [.int .i64 x,.int .i64 y] W (by omega) (by omega) (by omega) (by omega) rfl rfl (fun _=>rfl) (fun a C=>by cases C) q p) ?_
  rintro e w' ⟨rfl,rfl⟩;rw[K];have O:=grownCap_ge W (0+2) 0 3;have D:=grownCap_le_maxLen W (0+2) 0 3 (by unfold maxLen;omega)
  refine⟨_,rfl,?_,A.drew.made _ _ _⟩;have e2:0+2=([x,y]:List Int).length:=rfl;show Qo _ B (.slice (some ⟨W.heap.size,0,none⟩) (0+2) (grownCap W (0+2) 0 3)) [x,y];generalize grownCap W (0+2) 0 3=E at *
  exact Qo.ofRow (by omega) (heap_alloc_new W.drew _) O D (by simp[size_zeroCells,z];omega) (fun j b=>by
   have ad:j=0∨j=1:=by simp at b;omega
   rcases ad with rfl | rfl <;> (rw[Array.getElem?_append_left (by simp)];rfl))
 ·have n:W.heap[g]?=some (.cells cur 3 (0,0)):=(ac g ae).trans hg
  have P:∀ j u,(Qn l)[j]?=some u->W.cell? ⟨g,0+j,none⟩=some u:=fun j u d=>by
   have b:j<l.length:=by rw[<-f];exact(List.getElem?_eq_some_iff.1 d).1
   rw[Nat.zero_add,cell_of_row W g j _ _ _ n,X j b,<-Y3 l j b,d]
  have T:∀ j,j<l.length->cur[j]?=(Qn l)[j]?:=fun j b=>by rw[X j b,Y3 l j b]
  have Y:cap<=9223372036854775807:=by unfold maxLen at J;omega
  by_cases Z:l.length+2<=cap
  ·have U:∀ j,j<l.length+2->(W.cell? ⟨g,0+j,none⟩).isSome=true:=fun j b=>by
    rw[Nat.zero_add,cell_of_row W g j _ _ _ n,Array.getElem?_eq_getElem (by omega)]
    rfl
   have aa:∀ j,j<l.length+2->W.frozen? ⟨g,0+j,none⟩=false:=fun j b=>frozen_of_row W g _ _ _ n
   by_cases R:i=l.length
   ·subst R
    refine Calls.mono (Any2.slices_Insert_int_end_room Zmv g 0 l.length cap w.heap.size 0 2 2 [.int .i64 x,.int .i64 y] W (by omega) Z Y rfl
     (fun j b=>by rw[Nat.add_assoc];exact U _ (by omega)) (fun j b=>by rw[Nat.add_assoc];exact aa _ (by omega)) q p) ?_
    rintro e w' ⟨rfl,rfl⟩;refine⟨_,rfl,?_,A.cells _ _⟩;rw[<-m];refine Qo.ofRow V (Xl g _ _ _ _ cur n) (by omega) J (by rw[Xd];exact Q) (fun j b=>?_)
    rw[Yb _ _ _ _ (by omega),Zev l l.length zL x y j b,Nat.zero_add]
    rw[m] at b;by_cases c:j<l.length
    ·rw[if_neg (by omega),if_pos c,T j c]
    ·rw[if_pos (by simp;omega),if_neg c,if_pos (by omega)]
   ·refine Calls.mono (Any2.slices_Insert_int_shift Zmv g 0 l.length cap i w.heap.size 0 2 2 (Qn l) [.int .i64 x,.int .i64 y] W (by omega) (by omega) Z Y (by omega) f rfl P U aa q ab p
     3 3 2 cap (by simp[World.shape?,H]) (by simp[World.shape?,n,Q]) (by omega) (frozen_of_row W _ _ _ _ H) (frozen_of_row W _ _ _ _ H)) ?_
    rintro e w' ⟨rfl,rfl⟩;refine⟨_,rfl,?_,(Mv.cells (n':=0) (c':=0) A.drew _ _).cells _ _⟩;rw[<-m];refine Qo.ofRow V (Xl g _ _ _ _ _ (Xl g _ _ _ _ cur n)) (by omega) J (by rw[Xd,Xd];exact Q) (fun j b=>?_)
    rw[Yb _ _ _ _ (by rw[Xd];omega),Yb _ _ _ _ (by omega),Zev l i L x y j b,Nat.zero_add,Nat.zero_add]
    rw[m] at b;have M:((Qn l).drop i).length=l.length-i:=by simp[Qn]
    rw[M];by_cases c:j<i
    ·rw[if_neg (by omega),if_neg (by omega),if_pos c,T j (by omega)]
    ·by_cases F:j<i+2
     ·rw[if_pos (by simp;omega),if_neg c,if_pos F]
     ·rw[if_neg (by simp;omega),if_pos (by omega),if_neg c,if_neg F,List.getElem?_drop]
      congr 1
      omega
  ·by_cases R:i=l.length
   ·subst R
    refine Calls.mono (Any2.slices_Insert_int_end_grow Zmv (some ⟨g,0,none⟩) l.length cap w.heap.size 0 2 2 (Qn l) [.int .i64 x,.int .i64 y] W (by omega) S (by omega) (by omega) f rfl (fun h=>by cases h)
     (fun a C j u d=>by injection C with C;subst C;rw[Addr.add_lit];exact P j u d) q p) ?_
    rintro e w' ⟨rfl,rfl⟩;rw[K];have O:=grownCap_ge W (l.length+2) cap 3;have D:=grownCap_le_maxLen W (l.length+2) cap 3 (by unfold maxLen;omega)
    refine⟨_,rfl,?_,A.drew.made _ _ _⟩;show Qo _ B (.slice (some ⟨W.heap.size,0,none⟩) (l.length+2) (grownCap W (l.length+2) cap 3)) _;generalize grownCap W (l.length+2) cap 3=E at *;rw[<-m];refine Qo.ofRow (by omega) (heap_alloc_new W.drew _) (by omega) D (by simp[size_zeroCells,z,f];omega) (fun j b=>?_)
    rw[Zev l l.length zL x y j b];rw[m] at b;rw[Array.getElem?_append_left (by simp[f];omega),List.getElem?_toArray]
    by_cases c:j<l.length
    ·rw[if_pos c,List.getElem?_append_left (by omega)]
    ·rw[if_neg c,if_pos (by omega),List.getElem?_append_right (by omega),f]
   ·refine Calls.mono (Any2.slices_Insert_int_grow Zmv g 0 l.length cap i w.heap.size 0 2 2 (Qn l) [.int .i64 x,.int .i64 y] W (by omega) (by omega) S (by omega) (by omega) f rfl P q ab p) ?_
    rintro e w' ⟨rfl,rfl⟩;rw[K];have O:=grownCap_ge W (l.length+2) cap 3;have D:=grownCap_le_maxLen W (l.length+2) cap 3 (by unfold maxLen;omega)
    refine⟨_,rfl,?_,((A.made _ 0 0).drew.cells (n':=0) (c':=0) _ _).drew.cells _ _⟩;show Qo _ B (.slice (some ⟨W.heap.size,0,none⟩) (l.length+2) (grownCap W (l.length+2) cap 3)) _;generalize grownCap W (l.length+2) cap 3=E at *;have G:((Qn l).take i).length=i:=by simp[f];omega
    have M:((Qn l).drop i).length=l.length-i:=by simp[Qn]
    refine Qo.ofRowN m.symm (cur:=ZeW (ZeW (((Qn l).take i).toArray++Builtin.zeroCells (Value.int .i64 0).cells (l.length+2-i)++Builtin.zeroCells (Value.int .i64 0).cells (E-(l.length+2))) i [.int .i64 x,.int .i64 y]) (i+2) ((Qn l).drop i)) (by omega) (Xl _ _ _ _ _ _ (Xl _ _ _ _ _ _ (heap_alloc_new W _))) (by omega) D ?_ (fun j b=>?_)
    ·rw[Xd,Xd]
     simp[size_zeroCells,z,G];omega
    ·rw[Zev l i L x y j b]
     rw[m] at b
     have ag:(((Qn l).take i).toArray++Builtin.zeroCells (Value.int .i64 0).cells (l.length+2-i)++Builtin.zeroCells (Value.int .i64 0).cells (E-(l.length+2))).size=E:=by
      simp[size_zeroCells,z,G];omega
     rw[Yb _ _ _ _ (by rw[Xd];omega),Yb _ _ _ _ (by omega),M]
     by_cases c:j<i
     ·rw[if_neg (by omega),if_neg (by omega),if_pos c,Array.getElem?_append_left (by simp[size_zeroCells,z,G];omega),Array.getElem?_append_left (by simp[G];omega),List.getElem?_toArray,List.getElem?_take_of_lt c]
     ·by_cases F:j<i+2
      ·rw[if_neg (by omega),if_pos (by simp;omega),if_neg c,if_pos F]
      ·rw[if_pos (by omega),if_neg c,if_neg F,List.getElem?_drop]
       congr 1
       omega
theorem Xc.row (h:Xc w B v l):(v=.slice none 0 0∧l=[])∨
 ∃ g cap cur,v=.slice (some ⟨g,0,none⟩) l.length cap∧B<=g∧g<w.heap.size∧w.heap[g]?=some (.cells cur 85 (0,0))∧l.length<=cap∧cap<=maxLen∧cur.size=cap*3∧∀ j,j<l.length*3->cur[j]?=(Qg l)[j]?:=by
 rcases h.2 with ⟨a,n⟩ | ⟨g,cap,cur,a,c,b,i,m,f,d⟩
 ·have e:l=[]:=eq_nil_of_length_eq_zero n
  subst e;exact .inl ⟨a,rfl⟩
 ·refine .inr ⟨g,cap,cur,a,c,(Array.getElem?_eq_some_iff.1 b).1,b,i,m,f,fun j k=>?_⟩
  rw[<-d,List.getElem?_take_of_lt k,Array.getElem?_toList]
theorem Xc.ofRow (k:n=l.length) (f:B<=g) (c:w.heap[g]?=some (.cells cur 85 (0,0))) (e:l.length<=cap) (d:cap<=maxLen) (i:cur.size=cap*3) (b:∀ j,j<l.length*3->cur[j]?=(Qg l)[j]?):
 Xc w B (.slice (some ⟨g,0,none⟩) n cap) l:=by
 subst k;refine⟨by rw[Q7],.inr ⟨g,cap,cur,rfl,f,c,e,d,i,?_⟩⟩
 apply List.ext_getElem?;intro j;by_cases a:j<l.length*3
 ·rw[List.getElem?_take_of_lt a,Array.getElem?_toList]
  exact b j a
 ·rw[List.getElem?_eq_none (by simp;omega),List.getElem?_eq_none (by rw[Q7];omega)]
theorem Xc.empty (w:World) (B:Nat) (a:B<=w.heap.size):Xc (w.alloc (.cells #[] 85)) B (.slice (some ⟨w.heap.size,0,none⟩) 0 0) []:=
 Xc.ofRow (l:=[]) rfl a (heap_alloc_new w _) zL (Nat.zero_le _) rfl (fun j b=>absurd b (by simp))
theorem Zce:∀ (l:List Ent) (i:Nat),Qg (l.take i)=(Qg l).take (i*3)
 | l,0=>by simp[Qg]
 | [],i+1=>by simp[Qg]
 | x::t,i+1=>by
  rw[List.take_succ_cons,show(i+1)*3=i*3+1+1+1 by omega]
  show Value.int .i64 x.proc::.int .i64 x.seq::.int .i64 x.resp::Qg (t.take i)=(Value.int .i64 x.proc::.int .i64 x.seq::.int .i64 x.resp::Qg t).take (i*3+1+1+1);rw[Zce t i];rfl
theorem Zcf:∀ (l:List Ent) (i:Nat),Qg (l.drop i)=(Qg l).drop (i*3)
 | l,0=>by simp
 | [],i+1=>by simp[Qg]
 | x::t,i+1=>by
  rw[List.drop_succ_cons,show(i+1)*3=i*3+1+1+1 by omega]
  show Qg (t.drop i)=(Value.int .i64 x.proc::.int .i64 x.seq::.int .i64 x.resp::Qg t).drop (i*3+1+1+1);rw[Zcf t i];rfl
theorem Xc.cut (h:Xc w B (.slice (some ⟨g,0,none⟩) n cap) l) (i:Nat) (m:i<=l.length):Xc w B (.slice (some ⟨g,0,none⟩) i cap) (l.take i):=by
 rcases h.row with ⟨a,-⟩ | ⟨g',p,cur,a,c,t,d,q,b,f,e⟩
 ·cases a
 ·injection a with a h2 h3
  injection a with a
  injection a with a
  subst a h3
  exact Xc.ofRow (by rw[length_take];omega) c d (by rw[length_take];omega) b f (fun j k=>by
   rw[length_take] at k
   rw[e j (by omega),Zce,List.getElem?_take_of_lt (by omega)])
theorem Xc.cells (h:Xc w B (.slice (some ⟨g,0,none⟩) n cap) l) (o:Nat) (q:l.length*3<=o) (vs:List Value):Xc (w.setCells g o vs) B (.slice (some ⟨g,0,none⟩) n cap) l:=by
 rcases h.row with ⟨a,-⟩ | ⟨g',m,cur,a,c,p,d,e,b,i,f⟩
 ·cases a
 ·injection a with a h2 h3
  injection a with a
  injection a with a
  subst a h3
  exact Xc.ofRow h2 c (Xl g _ vs o w cur d) e b (by rw[Xd];exact i) (fun j k=>by
   rw[Yb _ _ _ _ (by omega),if_neg (by omega)]
   exact f j k)
theorem Xc.put (h:Xc w B (.slice (some ⟨g,0,none⟩) n cap) l) (i:Nat) (p:i<l.length) (e:Ent):Xc (w.setCells g (i*3) (Qg [e])) B (.slice (some ⟨g,0,none⟩) n cap) (l.set i e):=by
 rcases h.row with ⟨a,-⟩ | ⟨g',z,cur,a,f,A,m,u,d,x,v⟩
 ·cases a
 ·injection a with a h2 h3
  injection a with a
  injection a with a
  subst a h3;have t:(Qg [e]).length=3:=Q7 [e];refine Xc.ofRow (by rw[length_set];exact h2) f (Xl g _ _ _ w cur m) (by rw[length_set];exact u) d (by rw[Xd];exact x) (fun j y=>?_)
  rw[length_set] at y;obtain⟨q,k,b,rfl⟩:∃ q k,k<3∧j=q*3+k:=⟨j / 3,j % 3,Nat.mod_lt _ (by decide),by omega⟩
  rw[Yb _ _ _ _ (by omega),t,Y4 (l.set i e) q k (by rw[length_set];omega) b]
  by_cases c:q=i
  ·subst c
   rw[if_pos (by omega),show q*3+k-q*3=0*3+k by omega,Y4 [e] 0 k (by simp) b]
   congr 2
   simp[List.getD,p]
  ·rw[if_neg (by omega),v _ (by omega),Y4 l q k (by omega) b]
   congr 2
   have:¬ i=q:=fun h=>c h.symm
   simp[List.getD,this]
theorem RdE.cells {a:Addr} (h:RdE w (.slice (some a) n cap) l):∀ j u,(Qg l)[j]?=some u->w.cell? (a.add j)=some u:=by
 obtain⟨ao,c,f,A,y,C,B,e⟩:=h
 injection f with f _ _
 subst f;intro j u d;have i:j<l.length*3:=by rw[<-Q7];exact(List.getElem?_eq_some_iff.1 d).1
 rcases e with e | ⟨b,z,g,v⟩
 ·rw[e] at i
  simp at i
 ·injection g with g
  subst g;obtain⟨q,k,m,rfl⟩:∃ q k,k<3∧j=q*3+k:=⟨j / 3,j % 3,Nat.mod_lt _ (by decide),by omega⟩
  rw[Y4 l q k (by omega) m] at d
  obtain⟨t,x,p⟩:=v q (by omega)
  rw[Addr.add_lit,<-Nat.add_assoc]
  match k,m with
  | 0,_=>exact t.trans d
  | 1,_=>exact x.trans d
  | 2,_=>exact p.trans d
theorem ZhE (w:World) (ty:TypeId) (B:Nat) (v:Value) (l:List Ent) (h:Xc w B v l) (g:Value) (m:List Ent) (e:RdE w g m) (F:l.length+m.length<=1000000) (f:B<=w.heap.size):
 ∃ v' w',(Builtin.append_ #[39,39] ty #[v,g]).run prog w=.ok v' w'∧Xc w' B v' (l++m)∧Below B w w':=by
 obtain⟨c,d,t,n,i⟩:=info_parts ZgD;have z:=e;obtain⟨ao,cap,rfl,C,A,y,E,D⟩:=e
 cases ao with
 | none=>
  have p:=y rfl;subst p;have q:m=[]:=eq_nil_of_length_eq_zero (by omega)
  subst q;have b:=run_append_owned_none (P:=prog) w B 39 ty 85 c 3 underlying39 d v l.length (Qg l) h;exact⟨v,w,b,by rw[append_nil];exact h,Below.refl _ _⟩
 | some a=>
  obtain⟨v',w',b,x,j,_⟩:=run_append_own (P:=prog) w B 39 ty 85 c _ 3 24 underlying39 d t n i rfl (by decide) v l.length (Qg l) h
   a m.length cap (Qg m) (Q7 m) z.cells (Zac m) (by unfold maxLen;omega) (by omega) f
  refine⟨v',w',b,?_,?_⟩
  ·unfold Xc
   rw[length_append,Zaw];exact x
  ·exact(Below.refl _ _).grown j f (fun k u=>(World.ownsRow.lt h k u).1)
theorem Zak (w:World) {c:Array Oper} {rest:List Oper} {o:Oper} {a:Act} {Q:Exit->Act->World->Prop} (d:o.guard=none) (s x:Operand)
 (t:o.op=.call { callee:=.builtin .append,args:=#[s,x],argTypes:=#[39,39] })
 (B:Nat) (v:Value) (l:List Ent) (p:a.eval s=v) (e:Xc w B v l) (b:Value) (m:List Ent) (f:a.eval x=b) (k:RdE w b m)
 (u:l.length+m.length<=1000000) (q:B<=w.heap.size)
 (h:∀ v' w',Xc w' B v' (l++m)->Below B w w'->wpList prog c Q rest (a.put o.dst v') w'):wpList prog c Q (o::rest) a w:=
 wpList_plain d fun _ i=>by
  obtain⟨v',w',j,n,g⟩:=ZhE w o.type B v l e b m k u q;unfold Oper.wp execOp;simp only [t,resolve,invoke,builtin,Sem.run_bind,Sem.run_pure,Result.andThen_ok,List.map_toArray,map_cons,map_nil,p,f,j];exact i _ _ (h v' w' n g)
theorem Zfs (v:Value) (l:List Ent) (w:World) (d:RdE w v l) (u:l.length<=1000000):
 Calls prog 40 #[v] w fun e w'=>∃ v',e=.returned v'∧Xc w' w.heap.size v' l∧Below w.heap.size w w':=by
 have k:=ZZ d;obtain⟨ao,cap,rfl,n,-,b,-⟩:=d
 cases ao with
 | none=>
  obtain rfl:cap=0:=b rfl;obtain rfl:l=[]:=eq_nil_of_length_eq_zero (by omega)
  clear b n;have m:∀ w,(binOp .eql 39 (.slice none 0 0) (.slice none 0 0)).run prog w=.ok (.bool true) w:=fun w=>run_eql_slice_nil w _ _ none 0 0 underlying39
  go_enter func40,ntmps40
  go_wp2;go_ret;exact⟨_,rfl,Xc.nil _ _,Below.refl _ _⟩
 | some a=>
  clear b;have m:∀ w,(binOp .eql 39 (.slice (some a) l.length cap) (.slice none 0 0)).run prog w=.ok (.bool false) w:=fun w=>run_eql_slice_nil w _ _ (some a) _ _ underlying39
  have f:Hid (∀ X,Below w.heap.size w (w.alloc X)):=fun X=>(Below.refl _ _).alloc zL X
  have i:Hid (Xc (w.alloc (.cells #[] 85)) w.heap.size (.slice (some ⟨w.heap.size,0,none⟩) 0 0) []):=ZZ (Xc.empty w _ zL)
  go_enter func40,ntmps40
  go_wp2_with(at_builtin;refine Zak _ rfl _ _ rfl w.heap.size _ [] rfl i.o _ l rfl (k.o.below (f.o _) zL) (by simp;omega) (by simp) ?_)
  intro t q g c;have p:=ZZ g;have j:=ZZ ((f.o _).trans c);clear g c;go_wp2;go_ret;exact⟨_,rfl,p.o,j.o⟩
def ZwW (p:Ent->Bool) (l:List Ent) (k:Int):Prop:=(k=-1∧∀ j,j<l.length->p (l.getD j Q8)=false)∨∃ i:Nat,k=(i:Int)∧i<l.length∧(∀ j,j<i->p (l.getD j Q8)=false)∧p (l.getD i Q8)=true
theorem Zdp (g R:Nat) (p:Ent->Bool) (v:Value) (l:List Ent) (w:World) (H:RdE w v l)
 (eg:∀ args W,(callFunc g args).run prog W=.ok (.enter g args) W)
 (z:∀ W e,Below w.heap.size w W->Calls prog g #[Zrm e,.pointer (some ⟨R,0,none⟩)] W fun x w'=>x=.returned (.bool (p e))∧Below W.heap.size W w'):
 Calls prog 87 #[v,.func (.func g) #[] #[.pointer (some ⟨R,0,none⟩)]] w fun x w'=>∃ k:Int,x=.returned (.int .i64 k)∧ZwW p l k∧Below w.heap.size w w':=by
 have M:=ZZ H;have K:=ZZ z;obtain⟨Y,Z,rfl,O,I,-,-,J⟩:=H;have G:=ZZ J;have U:(l.length:Int)<=9223372036854775807:=by unfold maxLen at I;omega
 clear z O I J
 go_enter func87,ntmps87
 go_wp2
 go_loopw[8] (fun i wr=>∃ q:Nat,i=.int .i64 (q:Int)∧q<=l.length∧Hid (∀ j,j<q->p (l.getD j Q8)=false)∧Hid (Below w.heap.size w wr)) (fun i _=>l.length-(intOf i).toNat)
 case atStart=>exact⟨0,rfl,Nat.zero_le _,ZZ (fun j f=>absurd f (Nat.not_lt_zero _)),Below.refl _ _⟩
 case round=>
  obtain⟨q,rfl,hq,u,c⟩:=hrel;by_cases d:q<l.length
  case neg=>
   obtain rfl:q=l.length:=by omega
   go_wp2;go_ret;exact⟨-1,rfl,.inl ⟨rfl,u.out⟩,c.out⟩
  have T:(q:Int)<(l.length:Int):=by omega
  rcases G.o with N | ⟨b,S,rfl,m⟩
  ·rw[N] at d;simp at d
  obtain⟨D,L,C⟩:=(m q d).keep (c.out.block b (m q d).lt);have a:=ZZ (K.o wr (l.getD q Q8) c.out);have P:Hid (∀ j,j<q+1->j=q∨j<q):=ZZ (fun j f=>by omega)
  obtain⟨e,t⟩:∃ e,e=l.getD q Q8:=⟨_,rfl⟩;rw[<-t] at a D L C;have E:=ZZ t;obtain⟨y,n⟩:∃ y,y=p e:=⟨_,rfl⟩;rw[<-n] at a;have B:=ZZ n;clear t m K G M n;unfold Zrm at a;obtain⟨Q,X,V⟩:=e;simp only at a D L C
  go_wp2_with fail
  refine a.o.mono ?_;rintro x W1 ⟨rfl,F⟩;have A:=ZZ (c.out.trans (F.mono c.out.size));clear F a
  cases y with
  | true=>
   go_wp2;go_ret;exact⟨(q:Int),rfl,.inr ⟨q,rfl,d,u.out,by rw[<-E.o];exact B.o.symm⟩,A.o⟩
  | false=>
   go_wp2;go_roundw
   case rel=>exact⟨q+1,by go_num,by omega,ZZ (fun j f=>by
    rcases P.o j f with h | h
    ·rw[h,<-E.o];exact B.o.symm
    ·exact u.out j h),A⟩
   case measure=>simp[intOf];omega
theorem ZdL (p:Ent->Bool) (l:List Ent) (j:Nat) (a:j<l.length):(l.take (j+1)).filter (fun e=>!p e)=(l.take j).filter (fun e=>!p e)++if p (l.getD j Q8)=true then[] else[l.getD j Q8]:=by
 have b:l.take (j+1)=l.take j++[l.getD j Q8]:=by
  rw[take_add_one,List.getElem?_eq_getElem a];simp[List.getD,a]
 rw[b,List.filter_append]
 congr 1
 generalize l.getD j Q8=x
 cases h:p x <;> simp[h]
theorem ZhF (p:Ent->Bool) (l:List Ent) (i:Nat) (c:i<=l.length) (h:∀ j,j<i->p (l.getD j Q8)=false):(l.take i).filter (fun e=>!p e)=l.take i:=by
 rw[List.filter_eq_self];intro e b;obtain⟨j,a,rfl⟩:=List.getElem_of_mem b;rw[length_take] at a;have:=h j (by omega)
 rw[List.getElem_take];simp only [List.getD,List.getElem?_eq_getElem (show j<l.length by omega),Option.getD_some] at this
 simp[this]
def Zgo (p:Ent->Bool) (l L:List Ent) (i j:Nat):Prop:=L.length=l.length∧L.take i=(l.take j).filter (fun e=>!p e)∧L.drop j=l.drop j∧i<j
theorem Zgo.start {p:Ent->Bool} (b:i<l.length) (h:∀ j,j<i->p (l.getD j Q8)=false) (a:p (l.getD i Q8)=true):Zgo p l l i (i+1):=by
 refine⟨rfl,?_,rfl,Nat.lt_succ_self _⟩;rw[ZdL p l i b,if_pos a,append_nil,ZhF p l i (by omega) h]
theorem Zgo.at {p:Ent->Bool} (h:Zgo p l L i j):L.getD j Q8=l.getD j Q8:=by
 obtain⟨d,e,c,f⟩:=h;have b:(L.drop j).getD 0 Q8=L.getD j Q8:=by simp[List.getD]
 have a:(l.drop j).getD 0 Q8=l.getD j Q8:=by simp[List.getD]
 rw[<-b,<-a,c]
theorem Zmw (h:L.drop j=l.drop j):L.drop (j+1)=l.drop (j+1):=by
 rw[<-drop_drop,<-drop_drop,h]
theorem Zgo.skip {p:Ent->Bool} (h:Zgo p l L i j) (e:j<l.length) (a:p (l.getD j Q8)=true):Zgo p l L i (j+1):=by
 obtain⟨b,c,d,f⟩:=h;refine⟨b,?_,Zmw d,by omega⟩
 rw[ZdL p l j e,if_pos a,append_nil,c]
theorem Zgo.keep {p:Ent->Bool} (h:Zgo p l L i j) (e:j<l.length) (a:p (l.getD j Q8)=false):Zgo p l (L.set i (l.getD j Q8)) (i+1) (j+1):=by
 obtain⟨b,c,d,f⟩:=h;refine⟨by rw[length_set,b],?_,?_,by omega⟩
 ·rw[ZdL p l j e,if_neg (by rw[a];simp),<-c,take_add_one,List.take_set_of_le zL]
  congr 1
  rw[List.getElem?_set_self (by omega)]
  rfl
 ·rw[List.drop_set_of_lt (by omega)]
  exact Zmw d
theorem Xc.put3 (h:Xc w B (.slice (some ⟨g,0,none⟩) n cap) l) (i:Nat) (e:i<l.length) (p s r:Int) (a b c:Nat) (d:a=i*3) (f:b=i*3+1) (j:c=i*3+2):
 Xc (((w.setCell ⟨g,a,none⟩ (.int .i64 p)).setCell ⟨g,b,none⟩ (.int .i64 s)).setCell ⟨g,c,none⟩ (.int .i64 r)) B (.slice (some ⟨g,0,none⟩) n cap) (l.set i ⟨p,s,r⟩):=by
 subst d f j;exact h.put i e ⟨p,s,r⟩
theorem Xc.ent (h:Xc w B (.slice (some ⟨g,0,none⟩) n cap) l) (i:Nat) (f:i<l.length):Zmp w g (i*3) (l.getD i Q8)∧(∀ k,w.frozen? ⟨g,k,none⟩=false)∧B<=g∧l.length<=cap∧cap<=maxLen∧n=l.length:=by
 rcases h.row with ⟨a,-⟩ | ⟨g',q,cur,a,e,t,c,j,d,u,m⟩
 ·cases a
 ·injection a with a h2 h3
  injection a with a
  injection a with a
  subst a h3
  have b:∀ k,k<3->w.cell? ⟨g,i*3+k,none⟩=(Jq (l.getD i Q8))[k]?:=fun k p=>by
   rw[cell_of_row w g (i*3+k) _ _ _ c,m _ (by omega),Y4 l i k f p]
  exact⟨⟨b 0 (by decide),b 1 (by decide),b 2 (by decide)⟩,fun k=>frozen_of_row w g k _ _ c,e,j,d,h2⟩
theorem Zom {b:World} (h:Below C b w) (R:Nat) (a:C<=R) (c g f:Nat) (e i d:Value):Below C b (((w.setCell ⟨R,c,none⟩ e).setCell ⟨R,g,none⟩ i).setCell ⟨R,f,none⟩ d):=
 ((h.setCell a _).setCell a _).setCell a _
theorem ZkQ (w:World):(zeroValue 85).run prog w=.ok (.agg #[.int .i64 0,.int .i64 0,.int .i64 0]) w:=Tryz.zeroValue85 w
theorem ZhG (g R:Nat) (p:Ent->Bool) (v:Value) (l:List Ent) (B:Nat) (w:World) (D:Xc w B v l) (hI:∀ e ∈ l,ZkN e) (M:B<=w.heap.size) (ao:l.length<=1000000)
 (eg:∀ args W,(callFunc g args).run prog W=.ok (.enter g args) W)
 (I:∀ W e,Below B w W->Calls prog g #[Zrm e,.pointer (some ⟨R,0,none⟩)] W fun x w'=>x=.returned (.bool (p e))∧Below W.heap.size W w'):
 Calls prog 86 #[v,.func (.func g) #[] #[.pointer (some ⟨R,0,none⟩)]] w fun x w'=>∃ v',x=.returned v'∧Xc w' B v' (l.filter (fun e=>!p e))∧Below B w w':=by
 have HO:=ZZ D;have HP:=ZZ I;have af:=ZZ (Zdp g R p v l w (D.rd hI) eg (fun W e h=>I W e (h.mono M)))
 obtain⟨va,b,hv⟩:=D.shape;subst hv;clear D I
 go_enter func86,ntmps86
 go_wp2_with fail
 refine af.o.mono ?_;rintro x W0 ⟨k,rfl,c,V⟩;have N:=ZZ (V.mono M);have A:=ZZ (HO.o.below V zL);clear af V HO;rcases c with ⟨rfl,c⟩ | ⟨Y,rfl,O,c,ab⟩
 ·have HE:Hid (l.filter (fun e=>!p e)=l):=ZZ (by
   have:=ZhF p l l.length zL c
   rwa [take_length] at this)
  clear c;go_wp2;go_ret;exact⟨_,rfl,by rw[HE.o];exact A.o,N.o⟩
 have ag:=ZZ (Zgo.start O c ab);clear c ab;rcases A.o.row with ⟨-,h2⟩ | ⟨f,cap,cur,P,ac,-,-,au,ak,-,-⟩
 ·rw[h2] at O;simp at O
 injection P with P _ h3
 subst P h3;have am:(l.length:Int)<=1000000:=by omega
 clear cur ak;have ei:((Y:Int) == -1)=false:=beq_eq_false_iff_ne.2 (by omega)
 go_wp2
 go_loopw[5,6] (fun v5 S wr=>∃ (i j:Nat) (L:List Ent),v5=.int .i64 (i:Int)∧S=.int .i64 (j:Int)∧i<j∧j<=l.length∧Hid (Xc wr B (.slice (some ⟨f,0,none⟩) l.length b) L)∧Hid (Zgo p l L i j)∧Hid (Below B w wr)) (fun _ S _=>l.length-(intOf S).toNat)
 case atStart=>exact⟨Y,Y+1,l,rfl,by go_num,by omega,by omega,A,ag,N⟩
 case round=>
  clear A ag N ei;obtain⟨i,j,L,rfl,rfl,aB,aA,t,a,u⟩:=hrel;by_cases aa:j<l.length
  case neg=>
   obtain rfl:j=l.length:=by omega
   have hL:L.length=l.length:=a.out.1;have HT:Hid (L.take i=l.filter (fun e=>!p e)):=ZZ (by rw[a.out.2.1,take_length])
   have Z:=(t.out.ent i (by omega)).2.1
   have HK:Hid (∀ ty,(Builtin.clear_ #[39] ty #[.slice (some ⟨f,i*3,none⟩) (l.length-i) (b-i)]).run prog wr=.ok (.tuple #[]) (wr.setCells f (i*3) (Zbo (l.length-i)))):=ZZ (fun ty=>
    ZhB wr _ _ _ underlying39 ZkQ f (i*3) (l.length-i) (b-i) (by omega) (fun k hk=>by
     obtain⟨q,r,hr,rfl⟩:∃ q r,r<3∧k=q*3+r:=⟨k / 3,k % 3,Nat.mod_lt _ (by decide),by omega⟩
     have:=(t.out.ent (i+q) (by omega)).1
     rw[show i*3+(q*3+r)=(i+q)*3+r by omega]
     match r,hr with
     | 0,_=>rw[show(i+q)*3+0=(i+q)*3 from rfl,this.1];rfl
     | 1,_=>rw[this.2.1];rfl
     | 2,_=>rw[this.2.2];rfl) (fun k _=>Z _))
   have ae:=ZZ ((t.out.cut i (by omega)).cells (i*3) (by rw[length_take];omega) (Zbo (l.length-i)))
   rw[HT.o] at ae;have al:=ZZ (Jw ac (Zbo (l.length-i)) (i*3) wr u.out);have ay:¬ (b=i):=by omega
   have z:(i:Int)<=(l.length:Int):=by omega
   have an:(i:Int)<=(b:Int):=by omega
   have ax:i<=l.length:=by omega
   have aw:i<=b:=by omega
   clear Z;have hK:=HK.o;go_wp2;go_ret;exact⟨_,rfl,ae.o,al.o⟩
  have ap:(j:Int)<(l.length:Int):=by omega
  have az:L.length=l.length:=a.out.1;obtain⟨⟨G,H,F⟩,-,-⟩:=t.out.ent j (by omega)
  rw[a.out.at] at G H F;have Q:=ZZ (a.out.skip aa);have C:=ZZ (a.out.keep aa);obtain⟨e,he⟩:∃ e,e=l.getD j Q8:=⟨_,rfl⟩;rw[<-he] at G H F Q C;obtain⟨J,aj⟩:∃ J,J=p e:=⟨_,rfl⟩;have y:=ZZ (fun W h=>HP.o W e h)
  rw[<-aj] at y Q C;obtain⟨m,d,n⟩:=e;unfold Zrm at y;simp only at y G H F C;clear he aj a;have K:Hid (∀ X,Below B w (wr.alloc X)):=ZZ (fun X=>u.out.alloc (Nat.le_trans M u.out.size) X)
  have HX:Hid (Be (wr.alloc (.cells #[.int .i64 m,.int .i64 d,.int .i64 n] 85)) wr.heap.size #[.int .i64 m,.int .i64 d,.int .i64 n]):=ZZ (heap_alloc_new wr _);have ai:Hid (∀ X,Xc (wr.alloc X) B (.slice (some ⟨f,0,none⟩) l.length b) L):=ZZ (fun X=>t.out.below ((Below.refl _ _).alloc zL X) zL)
  go_wp2_with fail
  refine(y.o _ (K.o _)).mono ?_;rintro x W1 ⟨rfl,z⟩;have ad:=ZZ ((K.o (.cells #[.int .i64 m,.int .i64 d,.int .i64 n] 85)).trans (z.mono (by have:=u.out.size;simp;omega)))
  have U:=ZZ (HX.o.below z zL);have T:=ZZ ((ai.o (.cells #[.int .i64 m,.int .i64 d,.int .i64 n] 85)).below z zL);clear z y K HX ai G H F t u
  cases J with
  | true=>
   go_wp2;go_roundw
   case rel=>exact⟨i,j+1,L,rfl,by go_num,by omega,by omega,T,ZZ (Q.o (by simp)),ad⟩
   case measure=>simp[intOf];omega
  | false=>
   obtain⟨⟨d0,d1,d2⟩,E,ar,-⟩:=T.o.ent i (by omega)
   obtain⟨b0,f0⟩:=U.o.cell 0;obtain⟨b1,f1⟩:=U.o.cell 1;obtain⟨b2,f2⟩:=U.o.cell 2;have z0:=E (i*3);have z1:=E (i*3+1);have z2:=E (i*3+2);have av:(i:Int)<(l.length:Int):=by omega
   have aq:i<l.length:=by omega
   clear E;go_wp2;go_roundw
   case rel=>exact⟨i+1,j+1,L.set i ⟨m,d,n⟩,by go_num,by go_num,by omega,by omega,ZZ (T.o.put3 i (by omega) m d n _ _ _ (by omega) (by omega) (by omega)),ZZ (C.o (by simp)),ZZ (Zom ad.o f ac _ _ _ _ _ _)⟩
   case measure=>simp[intOf];omega
theorem RdE.one (w:World) (e:Ent) (c:ZkN e):RdE (w.alloc (.cells (Jq e) 85)) (.slice (some ⟨w.heap.size,0,none⟩) 1 1) [e]:=by
 have h:=Xc.ofRow (w:=w.alloc (.cells (Jq e) 85)) (B:=w.heap.size) (g:=w.heap.size) (cap:=1) (l:=[e]) (n:=1) rfl zL (heap_alloc_new w _) zL (by unfold maxLen;decide) rfl (fun j a=>by
  rw[List.length_singleton] at a
  match j,a with
  | 0,_=>rfl
  | 1,_=>rfl
  | 2,_=>rfl)
 exact h.rd (fun x b=>by rw[List.mem_singleton.1 b];exact c)
theorem ZjK (l:List Ent) (i:Nat) (n:i<=l.length) (e:Ent) (f:Nat->Option Value) (b:∀ j,j<i*3->f j=(Qg l)[j]?) (d:∀ j,j<3->f (i*3+j)=(Qg [e])[j]?)
 (m:∀ j,j<(l.length-i)*3->f ((i+1)*3+j)=(Qg (l.drop i))[j]?) (j:Nat) (q:j<(l.length+1)*3):f j=(Qg (l.take i++(e::l.drop i)))[j]?:=by
 have c:l.take i++(e::l.drop i)=l.take i++([e]++l.drop i):=rfl;have k:(Qg (l.take i)).length=i*3:=by rw[Q7,length_take];congr 1;omega
 have g:(Qg [e]).length=3:=Q7 [e];rw[c,Zaw,Zaw];by_cases a:j<i*3
 ·rw[List.getElem?_append_left (by omega),b j a,Zce,List.getElem?_take_of_lt a]
 ·rw[List.getElem?_append_right (by omega),k]
  by_cases p:j<i*3+3
  ·rw[List.getElem?_append_left (by omega),<-d (j-i*3) (by omega)]
   congr 1
   omega
  ·rw[List.getElem?_append_right (by omega),g,<-m (j-i*3-3) (by omega)]
   congr 1
   omega
theorem ZaR (l:List Ent) (i:Nat) (a:i<=l.length) (e:Ent):(l.take i++(e::l.drop i)).length=l.length+1:=by simp;omega
def Zyc (w:World) (B:Nat) (L:List Ent) (x:Ending) (w':World):Prop:=∃ v',x=.returned v'∧Xc w' B v' L∧Below B w w'
theorem Zon (v:Value) (l:List Ent) (B:Nat) (w:World) (c:Xc w B v l) (q:B<=w.heap.size) (M:l.length<=100000) (e:Ent) (C:ZkN e) (I:Int) (y:I=(l.length:Nat)) (N:Nat) (D:N=w.heap.size):
 Calls prog 88 #[v,.int .i64 I,.slice (some ⟨N,0,none⟩) 1 1] (w.alloc (.cells (Jq e) 85)) fun x w'=>Zyc w B (l.take l.length++(e::l.drop l.length)) x w':=by
 subst y D;have f:Hid (l.take l.length++(e::l.drop l.length)=l++[e]):=ZZ (by rw[take_length,List.drop_length])
 rw[f.o];have m:=ZZ (RdE.one w e C);have n:Hid (∀ X,Below B w (w.alloc X)):=fun X=>(Below.refl _ _).alloc q X
 have j:=ZZ (c.below ((Below.refl w.heap.size w).alloc zL (.cells (Jq e) 85)) zL);have p:B<=(w.alloc (.cells (Jq e) 85)).heap.size:=by simp;omega
 rcases c.row with ⟨rfl,rfl⟩ | ⟨g,cap,cur,rfl,J,L,t,F,k,z,u⟩
 ·clear c f
  go_enter func88,ntmps88
  go_wp2_with(at_builtin;refine Zak _ rfl _ _ rfl B _ [] rfl j.o _ [e] rfl m.o (by simp) p ?_)
  intro E A b a;have i:=ZZ b;have d:=ZZ ((n.o _).trans a);clear b a;go_wp2;go_ret;exact⟨_,rfl,i.o,d.o⟩
 ·have H:(cap:Int)<=9223372036854775807:=by unfold maxLen at k;omega
  have K:(l.length:Int)<=(cap:Int):=by omega
  clear c f u t z k;by_cases G:cap=l.length
  all_goals
   go_enter func88,ntmps88
   go_wp2_with(at_builtin;refine Zak _ rfl _ _ rfl B _ l rfl j.o _ [e] rfl m.o (by simp;omega) p ?_)
   intro E A b a;have i:=ZZ b;have d:=ZZ ((n.o _).trans a);clear b a;go_wp2;go_ret;exact⟨_,rfl,i.o,d.o⟩
theorem Zyq (w:World) (g N a b:Nat) (l:N≠g) (f i c j o:Nat) (m:w.shape? N=some (85,a)) (n:w.shape? g=some (85,b)) (p:b≠0) (d:∀ k,w.frozen? ⟨N,k,none⟩=false):
 (callFunc 129 #[.slice (some ⟨N,0,none⟩) f i,.slice (some ⟨g,o,none⟩) c j]).run prog w=.ok (.value (.bool false)) w:=by
 rw[run_callFunc_extern func129 (by kernel_rfl) (by kernel_rfl) (by kernel_rfl) (e:=Extern.SlicesOverlaps.overlaps #[39,39] #[4]) (by kernel_rfl),
  Lib.run_overlaps_apart w 39 4 85 underlying39 3 Tryz.sizeOf85 ⟨N,0,none⟩ ⟨g,o,none⟩ f i c j l _ _ a b m n p (d 0) (d a)]
 rfl
theorem ZgE:(prog.info? 85).map (·.size)=some 3:=by
 obtain⟨e,a,c,b,d⟩:=info_parts ZgD;rw[a];simp[b]
theorem Zmx (g cap:Nat) (l:List Ent) (B:Nat) (w:World) (P:Xc w B (.slice (some ⟨g,0,none⟩) l.length cap) l) (Z:B<=w.heap.size) (i:Nat) (hi:i<l.length) (ac:l.length+1<=cap) (e:Ent) (I:Int) (hI:I=(i:Nat)) (N:Nat) (O:N=w.heap.size):
 Calls prog 88 #[.slice (some ⟨g,0,none⟩) l.length cap,.int .i64 I,.slice (some ⟨N,0,none⟩) 1 1] (w.alloc (.cells (Jq e) 85)) fun x w'=>Zyc w B (l.take i++(e::l.drop i)) x w':=by
 subst hI;rcases P.row with ⟨d,-⟩ | ⟨g',av,cur,d,C,ab,T,hn,E,H,G⟩
 ·cases d
 injection d with d _ h3
 injection d with d
 injection d with d
 subst d h3;clear P;have p:(w.alloc (.cells (Jq e) 85)).heap[N]?=some (.cells (Jq e) 85 (0,0)):=by rw[O];exact heap_alloc_new w _
 have f:(w.alloc (.cells (Jq e) 85)).heap[g]?=some (.cells cur 85 (0,0)):=(Below.heap_alloc _ _ _ ab).trans T;have R:Hid (Below B w (w.alloc (.cells (Jq e) 85))):=(Below.refl _ _).alloc Z _;generalize w.alloc (.cells (Jq e) 85)=W at *;have Q:N≠g:=by omega
 have ak:(cap:Int)<=9223372036854775807:=by unfold maxLen at E;omega
 have S:∀ (j:Nat),W.frozen? ⟨g,j,none⟩=false:=fun j=>frozen_of_row W g j _ _ f
 have ae:∀ t z D F o,(callFunc 129 #[.slice (some ⟨N,0,none⟩) t z,.slice (some ⟨g,o,none⟩) D F]).run prog W=.ok (.value (.bool false)) W:=fun t z D F o=>
  Zyq W g N 3 (cap*3) Q t z D F o (by simp[World.shape?,p,Jq]) (by simp[World.shape?,f,H]) (by omega) (fun k=>frozen_of_row W N k _ _ p)
 have A:(Qg (l.drop i)).length=(l.length-i)*3:=by rw[Q7,length_drop]
 have Y:∀ j,j<(l.length+1)*3->(W.cell? ⟨g,j,none⟩).isSome=true:=fun j a=>by
  rw[cell_of_row W g j _ _ _ f,Array.getElem?_eq_getElem (by omega)]
  rfl
 have X:∀ W',(∀ x,W'.cell? x=W.cell? x)->(∀ x,W'.frozen? x=W.frozen? x)->∀ ty c sc,(Builtin.copy_ #[39,39] ty #[.slice (some ⟨g,(i+1)*3,none⟩) (l.length-i) c,.slice (some ⟨g,i*3,none⟩) (l.length+1-i) sc]).run prog W'=.ok (goInt (Nat.min (l.length+1-i) (l.length-i))) (W'.setCells g ((i+1)*3) (Qg (l.drop i))):=fun W' m u ty c sc=>
  ZaI W' _ _ ty 85 3 g ((i+1)*3) (l.length-i) c ⟨g,i*3,none⟩ (l.length+1-i) sc (Qg (l.drop i)) underlying39 ZgE (by rw[A];simp only [Nat.min_def];split <;> omega)
   (fun j v a=>by
    have L:j<(l.length-i)*3:=by rw[<-A];exact(List.getElem?_eq_some_iff.1 a).1
    rw[Addr.add_lit,m,cell_of_row W g _ _ _ _ f,G _ (by omega)]
    rw[Zcf,List.getElem?_drop] at a
    exact a)
   (fun j a=>by rw[m];exact Y _ (by omega)) (fun j a=>by rw[u];exact S _) (Zac _)
 obtain⟨b,n⟩:∃ b,b=W.drew.setCells g ((i+1)*3) (Qg (l.drop i)):=⟨_,rfl⟩;have q:b.heap[g]?=some (.cells (ZeW cur ((i+1)*3) (Qg (l.drop i))) 85 (0,0)):=by rw[n];exact Xl g _ _ _ W.drew cur f
 have U:b.heap[N]?=some (.cells (Jq e) 85 (0,0)):=by rw[n,Zar g _ _ _ N Q];exact p
 have y:(Qg [e]).length=3:=Q7 [e]
 have J:∀ W',(∀ x,W'.cell? x=b.cell? x)->(∀ x,W'.frozen? x=b.frozen? x)->∀ ty c,(Builtin.copy_ #[39,39] ty #[.slice (some ⟨g,i*3,none⟩) (l.length+1-i) c,.slice (some ⟨N,0,none⟩) 1 1]).run prog W'=.ok (goInt (Nat.min 1 (l.length+1-i))) (W'.setCells g (i*3) (Qg [e])):=fun W' m u ty c=>
  ZaI W' _ _ ty 85 3 g (i*3) (l.length+1-i) c ⟨N,0,none⟩ 1 1 (Qg [e]) underlying39 ZgE (by rw[y];simp only [Nat.min_def];split <;> omega)
   (fun j v a=>by
    rw[Addr.add_lit,m,Nat.zero_add,cell_of_row b N _ _ _ _ U]
    have:(Qg [e])[j]?=(Jq e)[j]?:=by
     have L:j<3:=by rw[<-y];exact(List.getElem?_eq_some_iff.1 a).1
     have:=Y4 [e] 0 j (by simp) L
     rwa [Nat.zero_mul,Nat.zero_add] at this
    rw[<-this]
    exact a)
   (fun j a=>by
    rw[m,cell_of_row b g _ _ _ _ q,Array.getElem?_eq_getElem (by rw[Xd];omega)]
    rfl) (fun j a=>by rw[u];exact frozen_of_row b g _ _ _ q) (Zac _)
 have K:Hid (Zyc w B (l.take i++(e::l.drop i)) (.returned (.slice (some ⟨g,0,none⟩) (l.length+1) cap)) (b.setCells g (i*3) (Qg [e]))):=ZZ (by
  refine⟨_,rfl,Xc.ofRow (ZaR l i (by omega) e).symm C (Xl g _ _ _ b _ q) (by rw[ZaR l i (by omega) e];exact ac) E (by rw[Xd,Xd];exact H) (fun j a=>?_),?_⟩
  ·rw[ZaR l i (by omega) e] at a
   refine ZjK l i (by omega) e (fun j=>(ZeW (ZeW cur ((i+1)*3) (Qg (l.drop i))) (i*3) (Qg [e]))[j]?) (fun k M=>?_) (fun k M=>?_) (fun k M=>?_) j a
   ·show(ZeW (ZeW cur ((i+1)*3) (Qg (l.drop i))) (i*3) (Qg [e]))[k]?=_
    rw[Yb _ _ _ _ (by rw[Xd];omega),if_neg (by omega),Yb _ _ _ _ (by omega),if_neg (by omega)]
    exact G k (by omega)
   ·show(ZeW (ZeW cur ((i+1)*3) (Qg (l.drop i))) (i*3) (Qg [e]))[i*3+k]?=_
    rw[Yb _ _ _ _ (by rw[Xd];omega),if_pos (by omega),Nat.add_sub_cancel_left]
   ·show(ZeW (ZeW cur ((i+1)*3) (Qg (l.drop i))) (i*3) (Qg [e]))[(i+1)*3+k]?=_
    rw[Yb _ _ _ _ (by rw[Xd];omega),if_neg (by omega),Yb _ _ _ _ (by omega),if_pos (by omega),Nat.add_sub_cancel_left]
  ·rw[n]
   exact Jw C _ _ _ (Jw C _ _ _ (ZhC R.o)))
 have aa:=fun ty c sc=>X W.drew (fun _=>rfl) (fun _=>rfl) ty c sc
 have V:=fun ty c=>J b (fun _=>rfl) (fun _=>rfl) ty c
 clear X J;rw[n] at K V;clear n q U G H T f p Y S E R A y O;have ao:prog.follows .mixedOrders=true:=by kernel_rfl
 have ad:¬ ((i:Int)=(l.length:Int)):=by omega
 have aq:((i:Int) == (l.length:Int))=false:=beq_eq_false_iff_ne.2 ad;have ap:IntKind.i64.wrap ((i:Int)+1)=(i:Int)+1:=by rw[IntKind.wrap_i64];omega
 have ai:IntKind.i64.wrap ((l.length:Int)+1)=(l.length:Int)+1:=by rw[IntKind.wrap_i64];omega
 have az:(0:Int)<=(i:Int)+1:=by omega
 have af:i<=l.length:=by omega
 have aw:(i:Int)<=(l.length:Int):=by omega
 have al:((i:Int)+1).toNat=i+1:=by omega
 have ay:((l.length:Int)+1).toNat=l.length+1:=by omega
 have ag:¬ (cap=i+1):=by omega
 have au:(i:Int)<=(l.length:Int)+1:=by omega
 have an:¬ (cap=i):=by omega
 have aj:¬ ((cap:Int)<(l.length:Int)+1):=by omega
 have aA:(l.length:Int)+1<=(cap:Int):=by omega
 have ar:(i:Int)+1<=(l.length:Int)+1:=by omega
 generalize Qg (l.drop i)=am at *;generalize Qg [e]=ax at *;generalize l.take i++(e::l.drop i)=LL at *
 go_enter func88,ntmps88
 go_wp2_with(simp only [ae])
 go_region_law_o (refine step_copy_runI rfl _ _ 39 39 rfl _ _ (by simp[Act.eval,Act.put]) (by simp[Act.eval,Act.put]) (aa _ _ _) ?_)
 go_wp2_with(at_builtin;refine wpList_copy_runI _ rfl _ _ 39 39 rfl _ _ rfl rfl (V _ _) ?_)
 go_wp2;go_ret;exact K.o
theorem Zmy (g cap:Nat) (l:List Ent) (B:Nat) (w:World) (ho:Xc w B (.slice (some ⟨g,0,none⟩) l.length cap) l) (V:B<=w.heap.size) (i:Nat) (hi:i<l.length) (an:cap<l.length+1) (av:l.length<=100000) (e:Ent) (I:Int) (hI:I=(i:Nat)) (N:Nat) (hN:N=w.heap.size):
 Calls prog 88 #[.slice (some ⟨g,0,none⟩) l.length cap,.int .i64 I,.slice (some ⟨N,0,none⟩) 1 1] (w.alloc (.cells (Jq e) 85)) fun x w'=>Zyc w B (l.take i++(e::l.drop i)) x w':=by
 subst hI;rcases ho.row with ⟨f,-⟩ | ⟨g',aJ,cur,f,ao,Z,hg,hn,hm,hs,S⟩
 ·cases f
 injection f with f _ h3
 injection f with f
 injection f with f
 subst f h3;clear ho;obtain⟨U,ad,ag,ak,t⟩:=info_parts ZgD;have X:(w.alloc (.cells (Jq e) 85)).heap[N]?=some (.cells (Jq e) 85 (0,0)):=by rw[hN];exact heap_alloc_new w _
 have Q:(w.alloc (.cells (Jq e) 85)).heap[g]?=some (.cells cur 85 (0,0)):=(Below.heap_alloc _ _ _ Z).trans hg;have ac:Hid (Below B w (w.alloc (.cells (Jq e) 85))):=(Below.refl _ _).alloc V _;have aq:(w.alloc (.cells (Jq e) 85)).heap.size=w.heap.size+1:=by simp
 generalize w.alloc (.cells (Jq e) 85)=W at *;have L:(Qg [e]).length=3:=Q7 [e];have M:(Qg (l.drop i)).length=(l.length-i)*3:=by rw[Q7,length_drop]
 have p:((Qg l).take (i*3)).length=i*3:=by rw[length_take,Q7];omega
 have aa:(Builtin.firstCells U.size i (.slice (some ⟨g,0,none⟩) i cap)).run prog W.drew=.ok ((Qg l).take (i*3)).toArray W.drew:=by
  rw[ak]
  exact run_firstCells_some W.drew 3 i ⟨g,0,none⟩ i cap ((Qg l).take (i*3)) p (fun j v a=>by
   have y:j<i*3:=by rw[<-p];exact(List.getElem?_eq_some_iff.1 a).1
   rw[List.getElem?_take_of_lt y] at a;rw[Addr.add_lit,Nat.zero_add,cell_of_row W.drew g j _ _ _ Q,S j (by omega)]
   exact a)
 have H:i+(l.length+1-i)=l.length+1:=by omega
 have al:(l.length:Int)+1-(i:Int)=((l.length+1-i:Nat):Int):=by omega
 obtain⟨G,D⟩:∃ G,G=grownCap W (l.length+1) cap 85:=⟨_,rfl⟩;obtain⟨b,C⟩:∃ b,b=((Qg l).take (i*3)).toArray++Builtin.zeroCells (Value.agg #[.int .i64 0,.int .i64 0,.int .i64 0]).cells (l.length+1-i)++Builtin.zeroCells (Value.agg #[.int .i64 0,.int .i64 0,.int .i64 0]).cells (G-(l.length+1)):=⟨_,rfl⟩
 have ar:∀ ty,(Builtin.append_ #[39,3] ty #[.slice (some ⟨g,0,none⟩) i cap,.int .i64 ((l.length:Int)+1-(i:Int))]).run prog W=.ok (.slice (some ⟨W.heap.size,0,none⟩) (l.length+1) G) ((W.alloc (.cells b 85)).drew):=fun ty=>by
  have h:=Lib.run_append_grow_zeros W 39 3 ty 85 U _ .i64 .i64 underlying39 underlying3 ad ag (some ⟨g,0,none⟩) i cap _ aa (l.length+1-i) (by omega) (by omega) (by omega) (by omega) (by rw[t];omega) (by rw[t,H];exact growslice_fits_wide an (by omega))
  rw[H,<-D,<-C,<-al] at h;exact h
 have ap:l.length+1<=G:=by rw[D];exact grownCap_ge W _ _ _
 have am:G<=maxLen:=by rw[D];exact grownCap_le_maxLen W (l.length+1) cap 85 (by unfold maxLen;omega)
 have O:∀ n,(Builtin.zeroCells (Value.agg #[.int .i64 0,.int .i64 0,.int .i64 0]).cells n).size=n*3:=fun n=>by
  rw[<-Array.length_toList,ZjH,Jl]
 have ab:b.size=G*3:=by
  rw[C,Array.size_append,Array.size_append,O,O,List.size_toArray,p];omega
 have ai:∀ j,j<i*3->b[j]?=(Qg l)[j]?:=fun j a=>by
  rw[C,Array.append_assoc,Array.getElem?_append_left (by rw[List.size_toArray,p];exact a),List.getElem?_toArray,List.getElem?_take_of_lt a]
 have q:(W.alloc (.cells b 85)).drew.heap[W.heap.size]?=some (.cells b 85 (0,0)):=heap_alloc_new W _;have J:(W.alloc (.cells b 85)).drew.heap[N]?=some (.cells (Jq e) 85 (0,0)):=(Below.heap_alloc W _ N (by omega)).trans X
 have P:(W.alloc (.cells b 85)).drew.heap[g]?=some (.cells cur 85 (0,0)):=(Below.heap_alloc W _ g (by omega)).trans Q
 have K:Hid (Below B w (W.alloc (.cells b 85)).drew):=ZZ (ZhC (ac.o.alloc (by omega) _))
 have z:B<=W.heap.size:=by omega
 have au:N≠W.heap.size:=by omega
 have ae:g≠W.heap.size:=by omega
 obtain⟨d,R⟩:∃ d,d=(W.alloc (.cells b 85)).drew:=⟨_,rfl⟩;rw[<-R] at q J P K
 have Y:∀ ty m,(Builtin.copy_ #[39,39] ty #[.slice (some ⟨W.heap.size,i*3,none⟩) (l.length+1-i) m,.slice (some ⟨N,0,none⟩) 1 1]).run prog d=.ok (goInt (Nat.min 1 (l.length+1-i))) (d.setCells W.heap.size (i*3) (Qg [e])):=fun ty m=>
  ZaI d _ _ ty 85 3 W.heap.size (i*3) (l.length+1-i) m ⟨N,0,none⟩ 1 1 (Qg [e]) underlying39 ZgE (by rw[L];simp only [Nat.min_def];split <;> omega)
   (fun j v a=>by
    rw[Addr.add_lit,Nat.zero_add,cell_of_row d N _ _ _ _ J]
    have:(Qg [e])[j]?=(Jq e)[j]?:=by
     have y:j<3:=by rw[<-L];exact(List.getElem?_eq_some_iff.1 a).1
     have:=Y4 [e] 0 j (by simp) y
     rwa [Nat.zero_mul,Nat.zero_add] at this
    rw[<-this]
    exact a)
   (fun j a=>by
    rw[cell_of_row d _ _ _ _ _ q,Array.getElem?_eq_getElem (by omega)]
    rfl) (fun j a=>frozen_of_row d _ _ _ _ q) (Zac _)
 obtain⟨c,u⟩:∃ c,c=(d.setCells W.heap.size (i*3) (Qg [e])).drew:=⟨_,rfl⟩;have A:c.heap[W.heap.size]?=some (.cells (ZeW b (i*3) (Qg [e])) 85 (0,0)):=by rw[u];exact Xl _ _ _ _ d b q
 have aj:c.heap[g]?=some (.cells cur 85 (0,0)):=by
  rw[u];exact(Zar W.heap.size _ _ d g ae).trans P
 have af:Hid (Below B w c):=ZZ (by rw[u];exact ZhC (Jw z _ _ _ K.o))
 have T:∀ ty m sc,(Builtin.copy_ #[39,39] ty #[.slice (some ⟨W.heap.size,(i+1)*3,none⟩) (l.length-i) m,.slice (some ⟨g,i*3,none⟩) (l.length-i) sc]).run prog c=.ok (goInt (Nat.min (l.length-i) (l.length-i))) (c.setCells W.heap.size ((i+1)*3) (Qg (l.drop i))):=fun ty m sc=>
  ZaI c _ _ ty 85 3 W.heap.size ((i+1)*3) (l.length-i) m ⟨g,i*3,none⟩ (l.length-i) sc (Qg (l.drop i)) underlying39 ZgE (by rw[M];simp only [Nat.min_def];split <;> omega)
   (fun j v a=>by
    have y:j<(l.length-i)*3:=by rw[<-M];exact(List.getElem?_eq_some_iff.1 a).1
    rw[Addr.add_lit,cell_of_row c g _ _ _ _ aj,S _ (by omega)]
    rw[Zcf,List.getElem?_drop] at a
    exact a)
   (fun j a=>by
    rw[cell_of_row c _ _ _ _ _ A,Array.getElem?_eq_getElem (by rw[Xd];omega)]
    rfl) (fun j a=>frozen_of_row c _ _ _ _ A) (Zac _)
 have E:Hid (Zyc w B (l.take i++(e::l.drop i)) (.returned (.slice (some ⟨W.heap.size,0,none⟩) (l.length+1) G)) (c.setCells W.heap.size ((i+1)*3) (Qg (l.drop i)))):=ZZ (by
  refine⟨_,rfl,Xc.ofRow (ZaR l i (by omega) e).symm z (Xl _ _ _ _ c _ A) (by rw[ZaR l i (by omega) e];exact ap) am (by rw[Xd,Xd];exact ab) (fun j a=>?_),?_⟩
  ·rw[ZaR l i (by omega) e] at a
   refine ZjK l i (by omega) e (fun j=>(ZeW (ZeW b (i*3) (Qg [e])) ((i+1)*3) (Qg (l.drop i)))[j]?) (fun k F=>?_) (fun k F=>?_) (fun k F=>?_) j a
   ·show(ZeW (ZeW b (i*3) (Qg [e])) ((i+1)*3) (Qg (l.drop i)))[k]?=_
    rw[Yb _ _ _ _ (by rw[Xd];omega),if_neg (by omega),Yb _ _ _ _ (by omega),if_neg (by omega)]
    exact ai k F
   ·show(ZeW (ZeW b (i*3) (Qg [e])) ((i+1)*3) (Qg (l.drop i)))[i*3+k]?=_
    rw[Yb _ _ _ _ (by rw[Xd];omega),if_neg (by omega),Yb _ _ _ _ (by omega),if_pos (by omega),Nat.add_sub_cancel_left]
   ·show(ZeW (ZeW b (i*3) (Qg [e])) ((i+1)*3) (Qg (l.drop i)))[(i+1)*3+k]?=_
    rw[Yb _ _ _ _ (by rw[Xd];omega),if_pos (by omega),Nat.add_sub_cancel_left]
  ·exact Jw z _ _ _ af.o)
 rw[u] at E T;rw[R] at E T Y;clear u R aj A q J P ab ai O af K aa C S hs hg Q X hm ac M L p t ak ag ad D au ae am al H aq hN z;have aE:prog.follows .mixedOrders=true:=by kernel_rfl
 have t:¬ ((i:Int)=(l.length:Int)):=by omega
 have aG:((i:Int) == (l.length:Int))=false:=beq_eq_false_iff_ne.2 t;have aF:IntKind.i64.wrap ((i:Int)+1)=(i:Int)+1:=by rw[IntKind.wrap_i64];omega
 have ay:IntKind.i64.wrap ((l.length:Int)+1)=(l.length:Int)+1:=by rw[IntKind.wrap_i64];omega
 have aN:(0:Int)<=(i:Int)+1:=by omega
 have aw:i<=l.length:=by omega
 have aK:(i:Int)<=(l.length:Int):=by omega
 have aO:(i:Int)<=(cap:Int):=by omega
 have aQ:i<=cap:=by omega
 have aA:((i:Int)+1).toNat=i+1:=by omega
 have p:((l.length:Int)+1).toNat=l.length+1:=by omega
 have ax:¬ (G=i+1):=by omega
 have aI:(i:Int)<=(l.length:Int)+1:=by omega
 have aD:¬ (cap=i):=by omega
 have aM:¬ (G=i):=by omega
 have az:(cap:Int)<(l.length:Int)+1:=by omega
 have aH:(i:Int)+1<=(l.length:Int)+1:=by omega
 have aC:(l.length:Int)<=100000:=by omega
 have aP:IntKind.i64.wrap ((l.length:Int)+1-(i:Int))=(l.length:Int)+1-(i:Int):=by rw[IntKind.wrap_i64];omega
 clear V ao Z av;generalize Qg (l.drop i)=aB at *;generalize Qg [e]=aL at *;generalize l.take i++(e::l.drop i)=LL at *
 go_enter func88,ntmps88
 go_wp2_with(first
  | (at_builtin;refine Lib.wpList_append_run _ rfl _ _ _ _ rfl _ _ rfl rfl _ _ (ar _) ?_)
  | (at_builtin;refine wpList_copy_runI _ rfl _ _ 39 39 rfl _ _ rfl rfl (Y _ _) ?_))
 go_region_law_o (refine step_copy_runI rfl _ _ 39 39 rfl _ _ (by simp[Act.eval,Act.put]) (by simp[Act.eval,Act.put]) (T _ _ _) ?_)
 go_wp2;go_ret;exact E.o
theorem Zoo (v:Value) (l:List Ent) (B:Nat) (w:World) (a:Xc w B v l) (b:B<=w.heap.size) (f:l.length<=100000) (i:Nat) (j:i<=l.length) (e:Ent) (m:ZkN e) (I:Int) (c:I=(i:Nat)) (N:Nat) (d:N=w.heap.size):
 Calls prog 88 #[v,.int .i64 I,.slice (some ⟨N,0,none⟩) 1 1] (w.alloc (.cells (Jq e) 85)) fun x w'=>Zyc w B (l.take i++(e::l.drop i)) x w':=by
 by_cases h:i=l.length
 ·subst h
  exact Zon v l B w a b f e m I c N d
 ·rcases a.row with ⟨-,rfl⟩ | ⟨g,cap,cur,rfl,-⟩
  ·exact absurd (by simpa using j) (by simpa using h)
  ·by_cases k:l.length+1<=cap
   ·exact Zmx g cap l B w a b i (by omega) k e I c N d
   ·exact Zmy g cap l B w a b i (by omega) (by omega) f e I c N d
theorem Z7 {l:List UInt8} {n:Int} (b:0<=n) (a:n<4611686018427387904):Zrg l n=l++Lib.uvarint n.toNat:=if_pos ⟨b,a⟩
theorem Zvq {n:Int} (h:I64 n):(Lib.uvarint (Lib.zigzag n)).length<=10:=Lib.uvarint_length64 (ZbH h)
theorem Ji (h:n<4611686018427387904):(Lib.uvarint n).length<=10:=Lib.uvarint_length64 (by omega)
theorem Zop (w:World) (X Y:Obj):((w.alloc X).alloc Y).heap[w.heap.size+1]?=some Y:=by
 have h:=heap_alloc_new (w.alloc X) Y;have e:(w.alloc X).heap.size=w.heap.size+1:=by simp
 rwa [e] at h
def ZtI (w:World) (l:List UInt8) (e:Ending) (w':World):Prop:=
 e=.returned (.tuple #[opV (Q0 l).1,.int .i64 ((Q0 l).2:Nat)])∧Below w.heap.size w w'
def Zrr (r:Rec):Value:=.agg #[.int .i64 r.idx,.int .i64 r.proc,.int .i64 r.seq,.int .i64 r.op.code,.int .i64 r.op.a,.int .i64 r.op.b,.int .i64 r.resp]
def Zi (r:Rec):Array Value:=#[.int .i64 r.idx,.int .i64 r.proc,.int .i64 r.seq,.int .i64 r.op.code,.int .i64 r.op.a,.int .i64 r.op.b,.int .i64 r.resp]
def ZcK (r:Rec):Prop:=I64 r.idx∧I64 r.proc∧I64 r.seq∧Zxh r.op∧I64 r.resp
def Br (w:World) (b:Nat) (cs:Array Value):Prop:=w.heap[b]?=some (.cells cs 62 (0,0))
theorem Br.lt (h:Br w b cs):b<w.heap.size:=(Array.getElem?_eq_some_iff.1 h).1
theorem Br.below (h:Br w b cs) (a:Below B w w') (c:w.heap.size<=B):Br w' b cs:=(a.block b (by have:=h.lt;omega)).trans h
theorem Br.cell (h:Br w b cs) (j:Nat):w.cell? ⟨b,j,none⟩=cs[j]?∧w.frozen? ⟨b,j,none⟩=false:=⟨cell_of_row w b j _ _ _ h,frozen_of_row w b j _ _ h⟩
theorem ZtJ (r:Rec) (R:Nat) (e:Ent) (W:World) (d:Br W R (Zi r)):
 Calls prog 84 #[Zrm e,.pointer (some ⟨R,0,none⟩)] W fun x w'=>x=.returned (.bool (decide (e.proc=r.proc)))∧Below W.heap.size W w':=by
 have f:Hid (∀ X,Below W.heap.size W (W.alloc X)):=fun X=>(Below.refl _ _).alloc zL X
 have j:R<W.heap.size:=(Array.getElem?_eq_some_iff.1 d).1
 have g:Hid (∀ X,(W.alloc X).cell? ⟨R,1,none⟩=some (.int .i64 r.proc)):=ZZ (fun X=>by
  rw[(f.o X).cell (p:=⟨R,1,none⟩) j]
  exact cell_of_row W R 1 _ _ _ d)
 obtain⟨a,l,k⟩:=e;unfold Zrm;simp only;have m:=g.o;generalize r.proc=c at *;clear d g;by_cases h:a=c
 ·have b:Hid (decide (a=c)=true):=decide_eq_true h
  have i:(a == c)=true:=beq_iff_eq.2 h;rw[b.o];clear b h
  go_enter func84,ntmps84
  go_wp2;go_ret;exact⟨rfl,f.o _⟩
 ·have b:Hid (decide (a=c)=false):=decide_eq_false h
  have i:(a == c)=false:=beq_eq_false_iff_ne.2 h;rw[b.o];clear b h
  go_enter func84,ntmps84
  go_wp2;go_ret;exact⟨rfl,f.o _⟩
theorem ZtK (r:Rec) (R:Nat) (e:Ent) (W:World) (c:Br W R (Zi r)):
 Calls prog 85 #[Zrm e,.pointer (some ⟨R,0,none⟩)] W fun x w'=>x=.returned (.bool (decide (r.proc<e.proc)))∧Below W.heap.size W w':=by
 have b:Hid (∀ X,Below W.heap.size W (W.alloc X)):=fun X=>(Below.refl _ _).alloc zL X
 have i:R<W.heap.size:=(Array.getElem?_eq_some_iff.1 c).1
 have g:Hid (∀ X,(W.alloc X).cell? ⟨R,1,none⟩=some (.int .i64 r.proc)):=ZZ (fun X=>by
  rw[(b.o X).cell (p:=⟨R,1,none⟩) i]
  exact cell_of_row W R 1 _ _ _ c)
 obtain⟨f,k,j⟩:=e;unfold Zrm;simp only;have l:=g.o;generalize r.proc=d at *;clear c g;by_cases h:d<f
 ·have a:Hid (decide (d<f)=true):=decide_eq_true h
  rw[a.o];clear a
  go_enter func85,ntmps85
  go_wp2;go_ret;exact⟨rfl,b.o _⟩
 ·have a:Hid (decide (d<f)=false):=decide_eq_false h
  rw[a.o];clear a
  go_enter func85,ntmps85
  go_wp2;go_ret;exact⟨rfl,b.o _⟩
theorem Zrs {k:Int} (h:ZwW (fun e=>decide (p<e.proc)) t k):(k<0∧J1 p t=t.length)∨(0<=k∧k=(J1 p t:Nat)):=by
 rcases h with ⟨rfl,h⟩ | ⟨i,rfl,c,b,d⟩
 ·exact .inl ⟨by omega,ZjG (fun j a=>of_decide_eq_false (h j a))⟩
 ·refine .inr ⟨by omega,?_⟩
  rw[Zms c (fun j a=>of_decide_eq_false (b j a)) (of_decide_eq_true d)]
theorem ZvV {P:Ent->Prop} (h:∀ e ∈ t,P e):∀ e ∈ Zoh p t,P e:=fun e a=>h e (List.mem_filter.1 a).1
theorem ZtL (v:Value) (t:List Ent) (r:Rec) (w:World) (A:RdE w v t) (j:ZcK r) (M:t.length<=2000):
 Calls prog 43 #[v,Zrr r] w fun e w'=>∃ v',e=.returned v'∧Xc w' w.heap.size v' (ZcE t ⟨r.proc,r.seq,r.resp⟩)∧Below w.heap.size w w':=by
 have T:∀ e ∈ t,ZkN e:=A.choose_spec.choose_spec.2.2.2.2.1;have u:=ZZ T;have HX:Hid (Br (w.alloc (.cells (Zi r) 62)) w.heap.size (Zi r)):=ZZ (heap_alloc_new w _);have V:Hid (Below w.heap.size w (w.alloc (.cells (Zi r) 62))):=ZZ ((Below.refl _ _).alloc zL _);have ae:(w.alloc (.cells (Zi r) 62)).heap.size=w.heap.size+1:=by simp
 have U:=ZZ (A.below V.o zL);have ag:Hid (ZkN ⟨r.proc,r.seq,r.resp⟩):=ZZ ⟨j.2.1,j.2.2.1,j.2.2.2.2⟩;have Q:∀ args W,(callFunc 84 args).run prog W=.ok (.enter 84 args) W:=enters_of func84 (by kernel_rfl) rfl
 have ac:∀ args W,(callFunc 85 args).run prog W=.ok (.enter 85 args) W:=enters_of func85 (by kernel_rfl) rfl
 have ai:=ZZ Q;have al:=ZZ ac;have X:Hid (ZcE t ⟨r.proc,r.seq,r.resp⟩=(Zoh r.proc t).take (J1 r.proc (Zoh r.proc t))++(⟨r.proc,r.seq,r.resp⟩::(Zoh r.proc t).drop (J1 r.proc (Zoh r.proc t)))):=ZZ (Zmr ⟨r.proc,r.seq,r.resp⟩ t);have R:Hid (t.filter (fun e=>!decide (e.proc=r.proc))=Zoh r.proc t):=ZZ (by unfold Zoh;simp)
 have af:=ZZ (fun W e h=>ZtJ r w.heap.size e W h)
 have aj:=ZZ (fun W e h=>ZtK r w.heap.size e W h)
 have n:Hid (∀ W,Below (w.heap.size+1) (w.alloc (.cells (Zi r) 62)) W->Br W w.heap.size (Zi r)):=ZZ (fun W h=>(h.block w.heap.size (by omega)).trans HX.o)
 have ao:∀ (fn:Fn) (first cap:Array Value) (w:World),(Instr.makeFunc fn first cap).run prog w=.ok (.func fn first cap) w:=fun _ _ _ _=>rfl
 have ak:=ZZ (fun W v l h h2=>Zfs v l W h h2)
 clear Q ac T j A;unfold Zrr Zi at *
 go_enter func43,ntmps43
 go_wp2_with fail
 refine(ak.o _ _ t U.o (by omega)).mono ?_
 rintro x W1 ⟨v1,rfl,G,J⟩;rw[ae] at G J;have Z:=ZZ G;have i:=ZZ J;clear G J;have O:=ZZ (ZhG 84 w.heap.size (fun e=>decide (e.proc=r.proc)) v1 t (w.heap.size+1) W1 Z.o u.o (by have:=i.o.size;omega) (by omega) ai.o (fun W e h=>af.o W e (n.o W (i.o.trans h))))
 go_wp2_with fail
 refine O.o.mono ?_;rintro x W2 ⟨v2,rfl,z,P⟩;rw[R.o] at z;have d:=ZZ z;have f:=ZZ (i.o.trans P);have aa:=ZZ (ZvV (p:=r.proc) u.o);have L:(Zoh r.proc t).length<=2000:=Nat.le_trans (ZvT _ _) M;clear z P O Z i U u R;obtain⟨a,S⟩:∃ a,a=Zoh r.proc t:=⟨_,rfl⟩;rw[<-S] at d aa X L;clear S;have ab:=ZZ (Zdp 85 w.heap.size (fun e=>decide (r.proc<e.proc)) v2 a W2 (d.o.rd aa.o) al.o (fun W e h=>aj.o W e (n.o W (f.o.trans (h.mono (by have:=f.o.size;omega))))))
 obtain⟨va,vc,an⟩:=d.o.shape;subst an
 go_wp2_with fail
 refine ab.o.mono ?_;rintro x E ⟨k,rfl,D,C⟩;have am:=ZZ (d.o.below C zL);have F:=ZZ (f.o.trans (C.mono (by have:=f.o.size;omega)))
 have H:=ZZ (n.o E F.o);have Y:=ZZ (V.o.trans (F.o.mono (by omega)))
 have ad:w.heap.size+1<=E.heap.size:=by have:=F.o.size;omega
 clear C ab d f;obtain⟨q1,f1⟩:=H.o.cell 1;obtain⟨q2,f2⟩:=H.o.cell 2;obtain⟨q4,f4⟩:=H.o.cell 6;have y:=Zmq r.proc a;have m:=ZZ (fun I hI N hN=>Zoo (.slice va a.length vc) a (w.heap.size+1) E am.o ad (by omega) (J1 r.proc a) y ⟨r.proc,r.seq,r.resp⟩ ag.o I hI N hN)
 rw[<-X.o] at m;unfold Jq at m;have ap:(a.length:Int)<=2000:=by omega
 rcases Zrs D with ⟨hk,b⟩ | ⟨hk,b⟩
 ·clear D
  have q:=ZZ b;clear b y L M
  go_wp2_with fail
  refine(m.o _ (by rw[q.o]) _ rfl).mono ?_
  rintro x W4 ⟨v4,rfl,c,g⟩;have K:=ZZ (c.mono (B':=w.heap.size) (by omega))
  have B:=ZZ (Y.o.trans (g.mono (by omega)))
  clear c g;go_wp2;go_ret;exact⟨_,rfl,K.o,B.o⟩
 ·clear D
  have aq:¬ k<0:=by omega
  have q:=ZZ b;clear b y L M
  go_wp2_with fail
  refine(m.o _ q.o _ rfl).mono ?_;rintro x W4 ⟨v4,rfl,c,g⟩;have K:=ZZ (c.mono (B':=w.heap.size) (by omega))
  have B:=ZZ (Y.o.trans (g.mono (by omega)))
  clear c g;go_wp2;go_ret;exact⟨_,rfl,K.o,B.o⟩
def Bn (w:World) (b:Nat) (cs:Array Value):Prop:=w.heap[b]?=some (.cells cs 41 (0,0))
theorem Bn.lt (h:Bn w b cs):b<w.heap.size:=(Array.getElem?_eq_some_iff.1 h).1
theorem Bn.below (h:Bn w b cs) (a:Below B w w') (c:w.heap.size<=B):Bn w' b cs:=(a.block b (by have:=h.lt;omega)).trans h
theorem Bn.cell (h:Bn w b cs) (j:Nat):w.cell? ⟨b,j,none⟩=cs[j]?∧w.frozen? ⟨b,j,none⟩=false:=⟨cell_of_row w b j _ _ _ h,frozen_of_row w b j _ _ h⟩
theorem ZdM (w:World) (X Y:Obj):((w.alloc X).alloc Y).heap[w.heap.size+1]?=some Y:=by
 have h:=heap_alloc_new (w.alloc X) Y;have e:(w.alloc X).heap.size=w.heap.size+1:=by simp
 rw[e] at h;exact h
def Zoq (a b:Qv):Prop:=ZlI a.st b.st∧a.idx=b.idx∧a.tab=b.tab
instance (a b:Qv):Decidable (Zoq a b):=by unfold Zoq;infer_instance
theorem ZjL {q:Nat} (h:q<l.length):l.take (q+1)=l.take q++[l.getD q Q8]:=by
 rw[take_add_one];simp[List.getD,h]
theorem RdE.but (h:RdE w v l) {R T:Nat} (g:But R T w w') (hn:l=[]∨∀ b,v.ownBlock=some b->b≠R∧b≠T):RdE w' v l:=by
 obtain⟨ao,cap,rfl,m,i,q,t,a⟩:=h;refine⟨ao,cap,rfl,m,i,q,t,?_⟩;rcases a with a | ⟨b,k,e,n⟩
 ·exact .inl a
 ·by_cases d:l=[]
  ·exact .inl d
  ·refine .inr ⟨b,k,e,fun j p=>?_⟩
   have f:=n j p;rcases hn with hn | hn
   ·exact absurd hn d
   ·have c:=hn b (by rw[e];rfl)
    exact f.keep (g.block b f.lt c.1 c.2)
theorem RdE.block (h:RdE w v l):l=[]∨∀ b,v.ownBlock=some b->b<w.heap.size:=by
 obtain⟨ao,cap,rfl,k,i,m,n,a⟩:=h;rcases a with a | ⟨b,j,rfl,g⟩
 ·exact .inl a
 ·by_cases d:l=[]
  ·exact .inl d
  ·refine .inr fun c f=>?_
   have e:b=c:=by simpa[Value.ownBlock] using f
   rw[<-e];exact(g 0 (List.length_pos_iff.2 d)).lt
theorem RdI.old {l:List Int} (h:RdI w v l):l=[]∨∀ b,v.ownBlock=some b->b<w.heap.size:=by
 rcases h.block with h | ⟨_,b,d,e⟩
 ·exact .inl h
 ·refine .inr fun c a=>?_
  rw[d] at a
  injection a with a
  omega
theorem Xc.fresh (h:Xc w B v l):∀ b,v.ownBlock=some b->B<=b:=fun b a=>(World.ownsRow.lt h b a).1
def Zcg (w:World) (r:Qv × Int) (e:Ending) (w':World):Prop:=
 ∃ vl vt,e=.returned (.tuple #[.agg #[.int .i64 r.1.idx,.int .i64 r.1.st.kind,vl,.bool r.1.st.shut,.int .i64 r.1.st.eng,vt],.int .i64 r.2])∧RdI w' vl r.1.st.L∧I64 r.1.st.kind∧I64 r.1.st.eng∧RdE w' vt r.1.tab∧I64 r.1.idx∧(∀ b,vl.ownBlock=some b->w.heap.size<=b)∧(∀ b,vt.ownBlock=some b->w.heap.size<=b)∧Below w.heap.size w w'
theorem Zcg.zero (n:Int) (a:Below w.heap.size w w'):Zcg w (Xr,n) (.returned (.tuple #[.agg #[.int .i64 0,.int .i64 0,.slice none 0 0,.bool false,.int .i64 0,.slice none 0 0],.int .i64 n])) w':=
 ⟨_,_,rfl,RdI.nil _,(Qk (by decide) (by decide):I64 0),(Qk (by decide) (by decide):I64 0),RdE.nil _,(Qk (by decide) (by decide):I64 0),fun b a=>by simp[Value.ownBlock] at a,fun b a=>by simp[Value.ownBlock] at a,a⟩
theorem SnV.below {s:Qv} (h:SnV w v s) {B:Nat} (a:Below B w w') (b:w.heap.size<=B):SnV w' v s:=by
 obtain⟨i,g,e,j,c,k,f,d⟩:=h;exact⟨i,g,e,j.below a b,c,k,f.below a b,d⟩
def six (w:World) (R:Nat) (x0 x1 x2 x3 x4 x5:Value):World:=(((((w.setCell ⟨R,0,none⟩ x0).setCell ⟨R,1,none⟩ x1).setCell ⟨R,2,none⟩ x2).setCell ⟨R,3,none⟩ x3).setCell ⟨R,4,none⟩ x4).setCell ⟨R,5,none⟩ x5
theorem Zew {b:World} (h:Below C b w) (R:Nat) (a:C<=R) (d e c g i f:Value):Below C b (six w R d e c g i f):=
 (((((h.setCell a _).setCell a _).setCell a _).setCell a _).setCell a _).setCell a _
theorem ZaY {c:World} (h:Below C c w) (R:Nat) (i:C<=R) (b d a f g e:Value):Below C c ((((((w.setCell ⟨R,0,none⟩ b).setCell ⟨R,1,none⟩ d).setCell ⟨R,2,none⟩ a).setCell ⟨R,3,none⟩ f).setCell ⟨R,4,none⟩ g).setCell ⟨R,5,none⟩ e):=Zew h R i b d a f g e
theorem ZpZ (w:World) (R:Nat) (b c a e f d:Value):But R R w (six w R b c a e f d):=
 ((((((But.refl R R w).set _ _ (.inl rfl) _).set _ _ (.inl rfl) _).set _ _ (.inl rfl) _).set _ _ (.inl rfl) _).set _ _ (.inl rfl) _).set _ _ (.inl rfl) _
theorem Bn.set (h:Bn w b cs) (j:Nat) (x:Value):Bn (w.setCell ⟨b,j,none⟩ x) b (cs.setIfInBounds j x):=by
 have:=heap_setCell_same w b j _ _ x h;unfold Bn;simpa using this
theorem Bn.other (h:Bn w b cs) (j:Nat) (x:Value) (a:b≠c):Bn (w.setCell ⟨c,j,none⟩ x) b cs:=(Below.heap_setCell _ _ _ _ a).trans h
end Go.Proofs.YtnahjngbneicaaaGreatDoor
