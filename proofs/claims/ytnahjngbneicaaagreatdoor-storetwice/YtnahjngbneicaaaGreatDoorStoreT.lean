import Derived.Test.YtnahjngbneicaaaGreatDoorStoreS
namespace Go.Proofs.YtnahjngbneicaaaGreatDoor
open _root_.Go.Proofs.Tryz
set_option maxRecDepth 100000
open Go.RowKit
theorem ZxQ:(prog.info? 41).map (fun i=>(i.zero,i.size,i.bytes))=some (some (.agg #[.int .i64 0,.int .i64 0,.slice none 0 0,.bool false,.int .i64 0,.slice none 0 0]),6,80):=by kernel_rfl
def SlX (x:Qv × Value × Value):Prop:=∃ a n c a' n' c',x.2.1=.slice a n c∧x.2.2=.slice a' n' c'
theorem Zpi (l:List (Qv × Value × Value)) (h:∀ x ∈ l,SlX x):∀ u ∈ Xh l,u.oneCell'=true:=by
 induction l with
 | nil=>intro u hu;cases hu
 | cons c l f=>
  intro u hu;rw[Xh] at hu;rcases List.mem_append.1 hu with hu | hu
  ·obtain⟨a,n,k,a',n',g,e,b⟩:=h c (List.mem_cons_self ..)
   unfold snC at hu;rw[e,b] at hu;simp only [List.mem_cons,List.not_mem_nil,or_false] at hu;rcases hu with rfl | rfl | rfl | rfl | rfl | rfl <;> rfl
  ·exact f (fun x d=>h x (List.mem_cons_of_mem _ d)) u hu
theorem ZeO (w:World) (ty:TypeId) (v:Value) (l:List (Qv × Value × Value)) (h:w.ownsRow 0 41 6 v l.length (Xh l)) (c:Qv × Value × Value) (d:SlX c) (q:l.length<=10000000):
 ∃ v' w',(Builtin.append_ #[74,74] ty #[v,.slice (some ⟨w.heap.size,0,none⟩) 1 1]).run prog (w.alloc (.cells (snC c) 41))=.ok v' w'∧
  w'.ownsRow 0 41 6 v' (l++[c]).length (Xh (l++[c]))∧(w.alloc (.cells (snC c) 41)).grownBy w' v.ownBlock∧(v'.ownBlock=v.ownBlock∨v'.ownBlock=some (w.heap.size+1)):=by
 obtain⟨p,f,m,e,b⟩:=info_parts ZxQ
 obtain⟨v',w',k,n,g,_,hl⟩:=run_append_own_at (P:=prog) (w.alloc (.cells (snC c) 41)) 0 74 ty 41 p _ 6 80 underlying74 f m e b rfl (by decide) v l.length (Xh l) (World.ownsRow.alloc h _)
  ⟨w.heap.size,0,none⟩ 1 1 (Xh [c]) (Zdr [c]) (fun j u a=>by
   rw[Addr.add_lit,Nat.zero_add,cell_of_row _ w.heap.size j _ 41 (0,0) (heap_alloc_new w _)]
   simpa[Xh] using a) (Zpi [c] (fun x i=>by rw[List.mem_singleton.1 i];exact d)) (by unfold maxLen;omega) (by omega) (Nat.zero_le _)
 refine⟨v',w',k,?_,g,?_⟩
 ·rw[List.length_append,ZhQ]
  exact n
 ·rcases hl with hl | hl
  ·exact .inl hl
  ·exact .inr (by rw[hl];simp)
theorem Zgw (w:World) {b:Array Oper} {rest:List Oper} {o:Oper} {a:Act} {Q:Exit->Act->World->Prop} (m:o.guard=none) (s x:Operand)
 (t:o.op=.call { callee:=.builtin .append,args:=#[s,x],argTypes:=#[74,74] })
 (v:Value) (l:List (Qv × Value × Value)) (j:a.eval s=v) (h:w.ownsRow 0 41 6 v l.length (Xh l)) (c:Qv × Value × Value) (f:SlX c) (n:a.eval x=.slice (some ⟨w.heap.size,0,none⟩) 1 1) (i:l.length<=10000000)
 (e:∀ v' w',w'.ownsRow 0 41 6 v' (l++[c]).length (Xh (l++[c]))->(w.alloc (.cells (snC c) 41)).grownBy w' v.ownBlock->(v'.ownBlock=v.ownBlock∨v'.ownBlock=some (w.heap.size+1))->
  wpList prog b Q rest (a.put o.dst v') w'):wpList prog b Q (o::rest) a (w.alloc (.cells (snC c) 41)):=
 wpList_plain m fun _ g=>by
  obtain⟨v',w',q,d,k,p⟩:=ZeO w o.type v l h c f i;unfold Oper.wp execOp;simp only [t,resolve,invoke,builtin,Sem.run_bind,Sem.run_pure,Result.andThen_ok,List.map_toArray,List.map_cons,List.map_nil,j,n,q];exact g _ _ (e v' w' d k p)
end Go.Proofs.YtnahjngbneicaaaGreatDoor
