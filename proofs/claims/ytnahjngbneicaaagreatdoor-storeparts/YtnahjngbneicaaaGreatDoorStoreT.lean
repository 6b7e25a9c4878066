import Derived.Test.YtnahjngbneicaaaGreatDoorStoreS
namespace Go.Proofs.YtnahjngbneicaaaGreatDoor
set_option maxRecDepth 100000
open Go.RowKit
theorem Zya:(Tryz.prog.info? 41).map (fun i=>(i.zero,i.size,i.bytes))=some (some (.agg #[.int .i64 0,.int .i64 0,.slice none 0 0,.bool false,.int .i64 0,.slice none 0 0]),6,80):=by kernel_rfl
def SlX (x:ZaX × Value × Value):Prop:=∃ a n c a' n' c',x.2.1=.slice a n c∧x.2.2=.slice a' n' c'
theorem Zqf (l:List (ZaX × Value × Value)) (h:∀ x ∈ l,SlX x):∀ u ∈ ZaQ l,u.oneCell'=true:=by
 induction l with
 | nil=>intro u hu;cases hu
 | cons c l ih=>
  intro u hu
  rw[ZaQ] at hu
  rcases List.mem_append.1 hu with hu | hu
  ·obtain⟨a,n,k,a',n',k',e1,e2⟩:=h c (List.mem_cons_self ..)
   unfold snC at hu
   rw[e1,e2] at hu
   simp only [List.mem_cons,List.not_mem_nil,or_false] at hu
   rcases hu with rfl | rfl | rfl | rfl | rfl | rfl <;> rfl
  ·exact ih (fun x hx=>h x (List.mem_cons_of_mem _ hx)) u hu
theorem ZmC (w:World) (ty:TypeId) (v:Value) (l:List (ZaX × Value × Value)) (h:w.ownsRow 0 41 6 v l.length (ZaQ l)) (c:ZaX × Value × Value) (hc:SlX c) (hlim:l.length<=10000000):
 ∃ v' w',(Builtin.append_ #[74,74] ty #[v,.slice (some ⟨w.heap.size,0,none⟩) 1 1]).run Tryz.prog (w.alloc (.cells (snC c) 41))=.ok v' w'∧
  w'.ownsRow 0 41 6 v' (l++[c]).length (ZaQ (l++[c]))∧(w.alloc (.cells (snC c) 41)).grownBy w' v.ownBlock∧(v'.ownBlock=v.ownBlock∨v'.ownBlock=some (w.heap.size+1)):=by
 obtain⟨i0,hi,hz0,hz1,hz2⟩:=info_parts Zya
 obtain⟨v',w',hrun,ho,hg,_,hl⟩:=run_append_own_at (P:=Tryz.prog) (w.alloc (.cells (snC c) 41)) 0 74 ty 41 i0 _ 6 80 Tryz.underlying74 hi hz0 hz1 hz2 rfl (by decide) v l.length (ZaQ l) (World.ownsRow.alloc h _)
  ⟨w.heap.size,0,none⟩ 1 1 (ZaQ [c]) (ZfC [c]) (fun j u hj=>by
   rw[Addr.add_lit,Nat.zero_add,cell_of_row _ w.heap.size j _ 41 (0,0) (heap_alloc_new w _)]
   simpa[ZaQ] using hj) (Zqf [c] (fun x hx=>by rw[List.mem_singleton.1 hx];exact hc)) (by unfold maxLen;omega) (by omega) (Nat.zero_le _)
 refine⟨v',w',hrun,?_,hg,?_⟩
 ·rw[List.length_append,ZjD]
  exact ho
 ·rcases hl with hl | hl
  ·exact .inl hl
  ·exact .inr (by rw[hl];simp)
theorem Zip (w:World) {ops:Array Oper} {rest:List Oper} {o:Oper} {a:Act} {Q:Exit->Act->World->Prop} (hgd:o.guard=none) (s x:Operand)
 (ho:o.op=.call { callee:=.builtin .append,args:=#[s,x],argTypes:=#[74,74] })
 (v:Value) (l:List (ZaX × Value × Value)) (hs:a.eval s=v) (h:w.ownsRow 0 41 6 v l.length (ZaQ l)) (c:ZaX × Value × Value) (hc:SlX c) (hx:a.eval x=.slice (some ⟨w.heap.size,0,none⟩) 1 1) (hlim:l.length<=10000000)
 (hK:∀ v' w',w'.ownsRow 0 41 6 v' (l++[c]).length (ZaQ (l++[c]))->(w.alloc (.cells (snC c) 41)).grownBy w' v.ownBlock->(v'.ownBlock=v.ownBlock∨v'.ownBlock=some (w.heap.size+1))->
  wpList Tryz.prog ops Q rest (a.put o.dst v') w'):wpList Tryz.prog ops Q (o::rest) a (w.alloc (.cells (snC c) 41)):=
 wpList_plain hgd fun _ hK'=>by
  obtain⟨v',w',hrun,h2,h3,h4⟩:=ZmC w o.type v l h c hc hlim
  unfold Oper.wp execOp
  simp only [ho,resolve,invoke,builtin,Sem.run_bind,Sem.run_pure,Result.andThen_ok,List.map_toArray,List.map_cons,List.map_nil,hs,hx,hrun]
  exact hK' _ _ (hK v' w' h2 h3 h4)
end Go.Proofs.YtnahjngbneicaaaGreatDoor
