/- Appending one element, whatever it is. -/
import Derived.Test.YtedfacbngefhnaaBlockBase
import Derived.Test.YtedfacbngefhnaaPack3
import Derived.Maps.AppendAt
import Derived.BigRegion
namespace Go.Proofs.Ytedfacbngefhnaa
open Go.RowKit Go.Maps Go.ChangeShapes

/-- One element more behind a row of one's own, whatever its elements are. -/
theorem step_append_one (RT T : TypeId) (sz bytes : Nat) (z : Value) (hu : Try.prog.underlying RT = some (.slice T)) (hinfo : (Try.prog.info? T).map (fun i => (i.zero, i.size, i.bytes)) = some (some z, sz, bytes)) (hz : z.cells.size = sz) (hsz : 0 < sz) (hby : bytes ≤ 1000)
    {ops : Array Oper} {o : Oper} {a : Act} {w : World} {K : Act → World → Prop} {Q : Exit → Act → World → Prop} {E : Prop}
    (hg : o.guard = none) (s x : Operand) (hop : o.op = Op.call { callee := Callee.builtin Builtin.append, args := #[s, x], argTypes := #[RT, RT] })
    (v : Value) (n : Nat) (xs : List Value) (hs : a.eval s = v) (cs : Array Value) (W0 : World) (hw0 : w = W0.alloc (.cells cs T)) (h : W0.ownsRow 0 T sz v n xs) (hlen : cs.size = sz) (h1 : ∀ u ∈ cs.toList, u.oneCell' = true) (hx : a.eval x = .slice (some ⟨W0.heap.size, 0, none⟩) 1 1) (hlim : n ≤ 10000000)
    (hK : ∀ v' w', w'.ownsRow 0 T sz v' (n + 1) (xs ++ cs.toList) → (W0.alloc (.cells cs T)).grownBy w' v.ownBlock → (v'.ownBlock = v.ownBlock ∨ v'.ownBlock = some (W0.heap.size + 1)) → K (a.put o.dst v') w') :
    if Region.wanted o (yielded ops a.tmps) = true then Oper.wp Try.prog o a w K Q else E := by
  have hw : Region.wanted o (yielded ops a.tmps) = true := by simp [Region.wanted, hg]
  rw [if_pos hw]
  subst hw0
  obtain ⟨i0, hi, hz0, hz1, hz2⟩ := info_parts hinfo
  obtain ⟨v', w', hrun, ho, hgr, _, hl⟩ := run_append_own_at (P := Try.prog) (W0.alloc (.cells cs T)) 0 RT o.type T i0 z sz bytes hu hi hz0 hz1 hz2 hz hsz v n xs (World.ownsRow.alloc h _)
    ⟨W0.heap.size, 0, none⟩ 1 1 cs.toList (by simpa using hlen) (fun j u hj => by
      rw [Addr.add_lit, Nat.zero_add, cell_of_row _ W0.heap.size j _ T (0, 0) (heap_alloc_new W0 _)]
      simpa using hj) h1 (by unfold maxLen; omega) (Nat.le_trans (Nat.mul_le_mul_left _ hby) (by omega)) (Nat.zero_le _)
  have hl' : v'.ownBlock = v.ownBlock ∨ v'.ownBlock = some (W0.heap.size + 1) := by
    rcases hl with hl | hl
    · exact .inl hl
    · exact .inr (by rw [hl]; simp)
  unfold Oper.wp execOp
  simp only [hop, resolve, invoke, builtin, Sem.run_bind, Sem.run_pure, Result.andThen_ok, List.map_toArray, List.map_cons, List.map_nil, hs, hx, hrun]
  exact hK v' w' ho hgr hl'

theorem grown_only {W0 w' : World} {o : Obj} {r : Option Nat} (hg : (W0.alloc o).grownBy w' r) : Only (fun k => r = some k) W0 w' := by
  have hsz : (W0.alloc o).heap.size = W0.heap.size + 1 := by simp
  have h1 : Only (fun k => r = some k) (W0.alloc o) w' := Only.ofGrown hg fun k hk _ => hk
  exact ((Only.refl (fun k => r = some k) W0).alloc o).trans h1 fun _ _ h => h

theorem info_rec7 : (Try.prog.info? 53).map (fun i => (i.zero, i.size, i.bytes)) = some (some (.agg #[.int .i64 0, .int .i64 0, .int .i64 0, .int .i64 0, .int .i64 0, .int .i64 0, .int .i64 0]), 7, 56) := by kernel_rfl

end Go.Proofs.Ytedfacbngefhnaa
