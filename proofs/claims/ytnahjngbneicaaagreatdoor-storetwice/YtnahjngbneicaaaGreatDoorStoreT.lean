import Derived.Test.YtnahjngbneicaaaGreatDoorStoreS
namespace Go.Proofs.YtnahjngbneicaaaGreatDoor
open _root_.Go.Proofs.Tryz
set_option maxRecDepth 100000
open Go.RowKit
theorem ZBg:(prog.info? 41).map (fun i=>(i.zero,i.size,i.bytes))=some (some (.agg #[.int .i64 0,.int .i64 0,.slice none 0 0,.bool false,.int .i64 0,.slice none 0 0]),6,80):=by kernel_rfl
def SlX (x:ZaW × Value × Value):Prop:=∃ a n c a' n' c',x.2.1=.slice a n c∧x.2.2=.slice a' n' c'
theorem Zsy (l:List (ZaW × Value × Value)) (h:∀ x ∈ l,SlX x):∀ u ∈ ZaN l,u.oneCell'=true:=by
 induction l with
 | nil=>intro u hu;cases hu
 | cons c l f=>
  intro u hu;rw[ZaN] at hu;rcases List.mem_append.1 hu with hu | hu
  ·obtain⟨a,n,k,a',n',g,e,d⟩:=h c (List.mem_cons_self ..)
   unfold snC at hu;rw[e,d] at hu;simp only [List.mem_cons,List.not_mem_nil,or_false] at hu;rcases hu with rfl | rfl | rfl | rfl | rfl | rfl <;> rfl
  ·exact f (fun x b=>h x (List.mem_cons_of_mem _ b)) u hu
theorem Zie (w:World) (ty:TypeId) (v:Value) (l:List (ZaW × Value × Value)) (h:w.ownsRow 0 41 6 v l.length (ZaN l)) (c:ZaW × Value × Value) (n:SlX c) (q:l.length<=10000000):
 ∃ v' w',(Builtin.append_ #[74,74] ty #[v,.slice (some ⟨w.heap.size,0,none⟩) 1 1]).run prog (w.alloc (.cells (snC c) 41))=.ok v' w'∧
  w'.ownsRow 0 41 6 v' (l++[c]).length (ZaN (l++[c]))∧(w.alloc (.cells (snC c) 41)).grownBy w' v.ownBlock∧(v'.ownBlock=v.ownBlock∨v'.ownBlock=some (w.heap.size+1)):=by
 obtain⟨k,i,p,b,e⟩:=info_parts ZBg
 obtain⟨v',w',f,m,d,_,hl⟩:=run_append_own_at (P:=prog) (w.alloc (.cells (snC c) 41)) 0 74 ty 41 k _ 6 80 underlying74 i p b e rfl (by decide) v l.length (ZaN l) (World.ownsRow.alloc h _)
  ⟨w.heap.size,0,none⟩ 1 1 (ZaN [c]) (ZgH [c]) (fun j u a=>by
   rw[Addr.add_lit,Nat.zero_add,cell_of_row _ w.heap.size j _ 41 (0,0) (heap_alloc_new w _)]
   simpa[ZaN] using a) (Zsy [c] (fun x g=>by rw[List.mem_singleton.1 g];exact n)) (by unfold maxLen;omega) (by omega) (Nat.zero_le _)
 refine⟨v',w',f,?_,d,?_⟩
 ·rw[List.length_append,Zlg]
  exact m
 ·rcases hl with hl | hl
  ·exact .inl hl
  ·exact .inr (by rw[hl];simp)
theorem ZjM (w:World) {b:Array Oper} {rest:List Oper} {o:Oper} {a:Act} {Q:Exit->Act->World->Prop} (p:o.guard=none) (s x:Operand)
 (q:o.op=.call { callee:=.builtin .append,args:=#[s,x],argTypes:=#[74,74] })
 (v:Value) (l:List (ZaW × Value × Value)) (g:a.eval s=v) (h:w.ownsRow 0 41 6 v l.length (ZaN l)) (c:ZaW × Value × Value) (t:SlX c) (m:a.eval x=.slice (some ⟨w.heap.size,0,none⟩) 1 1) (d:l.length<=10000000)
 (e:∀ v' w',w'.ownsRow 0 41 6 v' (l++[c]).length (ZaN (l++[c]))->(w.alloc (.cells (snC c) 41)).grownBy w' v.ownBlock->(v'.ownBlock=v.ownBlock∨v'.ownBlock=some (w.heap.size+1))->
  wpList prog b Q rest (a.put o.dst v') w'):wpList prog b Q (o::rest) a (w.alloc (.cells (snC c) 41)):=
 wpList_plain p fun _ k=>by
  obtain⟨v',w',j,n,i,f⟩:=Zie w o.type v l h c t d;unfold Oper.wp execOp;simp only [q,resolve,invoke,builtin,Sem.run_bind,Sem.run_pure,Result.andThen_ok,List.map_toArray,List.map_cons,List.map_nil,g,m,j];exact k _ _ (e v' w' n i f)
end Go.Proofs.YtnahjngbneicaaaGreatDoor
