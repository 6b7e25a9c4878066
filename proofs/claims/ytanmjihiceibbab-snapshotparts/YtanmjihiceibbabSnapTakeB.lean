/- Contract of snapshot: Take, its beginning. -/
import Derived.Test.YtanmjihiceibbabPack4
import Derived.Test.YtanmjihiceibbabObjsOwn
import Derived.Test.YtanmjihiceibbabObjsFold
import Derived.Test.YtanmjihiceibbabSchemaFits
import Derived.Deep.DeepCutAuto
namespace Go.Proofs.Ytanmjihiceibbab
open Go.RowKit

/-- What comes of Take: the state's numbers may be those that came in; the table is the call's own, if there are records. -/
def TakenN (w : World) (vl0 vt0 : Value) (l : List Rec) (r : Snap × Int) (e : Ending) (w' : World) : Prop :=
  ∃ vl vt, e = .returned (.tuple #[.agg #[.int .i64 r.1.idx, .int .i64 r.1.st.kind, vl, .bool r.1.st.shut, .int .i64 r.1.st.eng, vt], .int .i64 r.2]) ∧ RdI w' vl r.1.st.L ∧ I64 r.1.st.kind ∧ I64 r.1.st.eng ∧ RdE w' vt r.1.tab ∧ I64 r.1.idx ∧
    (vl = vl0 ∨ ∀ b, vl.ownBlock = some b → w.heap.size ≤ b) ∧ ((l = [] ∧ vt = vt0) ∨ OwnE w' w.heap.size vt r.1.tab) ∧ Below w.heap.size w w'

/-- Behind some records: the box of the snapshot, what it reads. -/
def TakeIn (w : World) (S : Snap) (wr : World) : Prop :=
  ∃ la lc ta tc, Bn wr w.heap.size #[.int .i64 S.idx, .int .i64 S.st.kind, .slice la S.st.L.length lc, .bool S.st.shut, .int .i64 S.st.eng, .slice ta S.tab.length tc] ∧
    Bn wr (w.heap.size + 1) #[.int .i64 0, .int .i64 0, .slice none 0 0, .bool false, .int .i64 0, .slice none 0 0] ∧
    RdI wr (.slice la S.st.L.length lc) S.st.L ∧ (∀ b, (Value.slice la S.st.L.length lc).ownBlock = some b → w.heap.size + 2 ≤ b) ∧
    OwnE wr (w.heap.size + 2) (.slice ta S.tab.length tc) S.tab ∧ (∀ e ∈ S.tab, EntI e) ∧ I64 S.idx ∧ I64 S.st.kind ∧ I64 S.st.eng ∧ Below w.heap.size w wr

theorem OwnI.freshI {w : World} {B : Nat} {v : Value} {l : List Int} (h : OwnI w B v l) : ∀ b, v.ownBlock = some b → B ≤ b := fun b hb => (World.ownsRow.lt h b hb).1

theorem OwnE.butN {w w' : World} {B R T : Nat} {v : Value} {l : List Ent} (h : OwnE w B v l) (hb : But R T w w') (hn' : ∀ b, v.ownBlock = some b → b ≠ R ∧ b ≠ T) : OwnE w' B v l := by
  rcases h.row with ⟨rfl, rfl⟩ | ⟨g, cap, cur, rfl, hBg, hlt, hg, hn, hm, hs, hc⟩
  · exact OwnE.nil _ _
  · have := hn' g rfl
    exact OwnE.ofRow rfl hBg ((hb.block g hlt this.1 this.2).trans hg) hn hm hs hc

theorem OwnE.but {w w' : World} {B R T : Nat} {v : Value} {l : List Ent} (h : OwnE w B v l) (hb : But R T w w') (hR : R < B) (hT : T < B) : OwnE w' B v l :=
  h.butN hb (fun b hb => by have := h.fresh b hb; omega)

theorem takeIn_make {w W : World} {idx kind eng : Int} {shut : Bool} {x2 x5 : Value} {L : List Int} {tab : List Ent} {a1 a2 : Option Addr} {c1 c2 : Nat}
    (hX : Bn W w.heap.size #[.int .i64 idx, .int .i64 kind, x2, .bool shut, .int .i64 eng, x5]) (hY : Bn W (w.heap.size + 1) #[.int .i64 0, .int .i64 0, .slice none 0 0, .bool false, .int .i64 0, .slice none 0 0])
    (hl : OwnI W (w.heap.size + 2) (.slice a1 L.length c1) L) (hli : ∀ n ∈ L, I64 n) (hE : OwnE W (w.heap.size + 2) (.slice a2 tab.length c2) tab) (hEI : ∀ e ∈ tab, EntI e) (hi : I64 idx) (hk : I64 kind) (he : I64 eng) (hB : Below w.heap.size w W) :
    TakeIn w ⟨idx, ⟨kind, L, shut, eng⟩, tab⟩ ((W.setCell ⟨w.heap.size, 2, none⟩ (.slice a1 L.length c1)).setCell ⟨w.heap.size, 5, none⟩ (.slice a2 tab.length c2)) := by
  have hb : But w.heap.size w.heap.size W ((W.setCell ⟨w.heap.size, 2, none⟩ (.slice a1 L.length c1)).setCell ⟨w.heap.size, 5, none⟩ (.slice a2 tab.length c2)) := ((But.refl _ _ _).set _ _ (.inl rfl) _).set _ _ (.inl rfl) _
  refine ⟨a1, c1, a2, c2, (hX.set 2 _).set 5 _, (hY.other 2 _ (by omega)).other 5 _ (by omega), (hl.rd hli).but hb (.inr fun b h => ?_), hl.freshI, hE.but hb (by omega) (by omega), hEI, hi, hk, he, below_but hB hb (by have := hX.lt; omega) (Nat.le_refl _) (Nat.le_refl _)⟩
  have := hl.freshI b h
  omega

/-- The numbers of a state stay few. -/
theorem stepO_few {s : St} (o : Opn) (h : s.L.length ≤ 1000) : (stepO s o).1.L.length ≤ 1000 := by
  by_cases hm : MayS s
  · have := (may_small (stepO_may hm o)).2.1
    omega
  · rw [stepO_not hm]
    exact h

theorem takeN_drop {s : Snap} {l : List Rec} {q : Nat} (hq : q < l.length) : takeN s (l.drop q) = if (l.getD q zeroR).idx ≠ s.idx then (zeroN, 15) else if ¬ FitsR (l.getD q zeroR) then (zeroN, 1) else takeN (nextN s (l.getD q zeroR)) (l.drop (q + 1)) := by
  have e : l.drop q = l.getD q zeroR :: l.drop (q + 1) := by
    rw [List.drop_eq_getElem_cons hq]
    simp [List.getD, hq]
  rw [e, takeN]

/-- Behind a step: the state's four cells written, the record's response. -/
def stepped (W : World) (R Q : Nat) (k : Int) (v : Value) (sh : Bool) (g n : Int) : World :=
  ((((W.setCell ⟨R, 1, none⟩ (.int .i64 k)).setCell ⟨R, 2, none⟩ v).setCell ⟨R, 3, none⟩ (.bool sh)).setCell ⟨R, 4, none⟩ (.int .i64 g)).setCell ⟨Q, 6, none⟩ (.int .i64 n)

theorem Br.set {w : World} {b : Nat} {cs : Array Value} (h : Br w b cs) (j : Nat) (x : Value) : Br (w.setCell ⟨b, j, none⟩ x) b (cs.setIfInBounds j x) := by
  have := heap_setCell_same w b j _ _ x h
  unfold Br
  simpa using this

theorem Br.other {w : World} {b c : Nat} {cs : Array Value} (h : Br w b cs) (j : Nat) (x : Value) (hne : b ≠ c) : Br (w.setCell ⟨c, j, none⟩ x) b cs := (Below.heap_setCell _ _ _ _ hne).trans h

theorem but_stepped (W : World) (R Q : Nat) (k : Int) (v : Value) (sh : Bool) (g n : Int) : But R Q W (stepped W R Q k v sh g n) :=
  (((((But.refl R Q W).set _ _ (.inl rfl) _).set _ _ (.inl rfl) _).set _ _ (.inl rfl) _).set _ _ (.inl rfl) _).set _ _ (.inr rfl) _

theorem bn_stepped {W : World} {R Q : Nat} (hne : R ≠ Q) {x0 x1 x2 x3 x4 x5 : Value} (h : Bn W R #[x0, x1, x2, x3, x4, x5]) (k : Int) (v : Value) (sh : Bool) (g n : Int) : Bn (stepped W R Q k v sh g n) R #[x0, .int .i64 k, v, .bool sh, .int .i64 g, x5] :=
  ((((h.set 1 _).set 2 _).set 3 _).set 4 _).other 6 _ hne

theorem br_stepped {W : World} {R Q : Nat} (hne : Q ≠ R) {x0 x1 x2 x3 x4 x5 x6 : Value} (h : Br W Q #[x0, x1, x2, x3, x4, x5, x6]) (k : Int) (v : Value) (sh : Bool) (g n : Int) : Br (stepped W R Q k v sh g n) Q #[x0, x1, x2, x3, x4, x5, .int .i64 n] :=
  ((((h.other 1 _ hne).other 2 _ hne).other 3 _ hne).other 4 _ hne).set 6 _

theorem bnc_stepped {W : World} {R Q C : Nat} (h1 : C ≠ R) (h2 : C ≠ Q) {cs : Array Value} (h : Bn W C cs) (k : Int) (v : Value) (sh : Bool) (g n : Int) : Bn (stepped W R Q k v sh g n) C cs :=
  ((((h.other 1 _ h1).other 2 _ h1).other 3 _ h1).other 4 _ h1).other 6 _ h2

theorem takeIn_next {w W : World} {idx kind eng : Int} {shut : Bool} {x5 : Value} {L : List Int} {tab : List Ent} {a1 a2 : Option Addr} {c1 c2 : Nat}
    (hX : Bn W w.heap.size #[.int .i64 idx, .int .i64 kind, .slice a1 L.length c1, .bool shut, .int .i64 eng, x5]) (hY : Bn W (w.heap.size + 1) #[.int .i64 0, .int .i64 0, .slice none 0 0, .bool false, .int .i64 0, .slice none 0 0])
    (hl : RdI W (.slice a1 L.length c1) L) (hlf : ∀ b, (Value.slice a1 L.length c1).ownBlock = some b → w.heap.size + 2 ≤ b) (hE : OwnE W (w.heap.size + 2) (.slice a2 tab.length c2) tab) (hEI : ∀ e ∈ tab, EntI e) (hi : I64 (idx + 1)) (hk : I64 kind) (he : I64 eng) (hB : Below w.heap.size w W) :
    TakeIn w ⟨idx + 1, ⟨kind, L, shut, eng⟩, tab⟩ ((W.setCell ⟨w.heap.size, 5, none⟩ (.slice a2 tab.length c2)).setCell ⟨w.heap.size, 0, none⟩ (.int .i64 (idx + 1))) := by
  have hb : But w.heap.size w.heap.size W ((W.setCell ⟨w.heap.size, 5, none⟩ (.slice a2 tab.length c2)).setCell ⟨w.heap.size, 0, none⟩ (.int .i64 (idx + 1))) := ((But.refl _ _ _).set _ _ (.inl rfl) _).set _ _ (.inl rfl) _
  refine ⟨a1, c1, a2, c2, (hX.set 5 _).set 0 _, (hY.other 5 _ (by omega)).other 0 _ (by omega), hl.but hb (.inr fun b h => ?_), hlf, hE.but hb (by omega) (by omega), hEI, hi, hk, he, below_but hB hb (by have := hX.lt; omega) (Nat.le_refl _) (Nat.le_refl _)⟩
  have := hlf b h
  omega

theorem TakenN.zero {w w' : World} (vl0 vt0 : Value) (l : List Rec) (n : Int) (hb : Below w.heap.size w w') : TakenN w vl0 vt0 l (zeroN, n) (.returned (.tuple #[.agg #[.int .i64 0, .int .i64 0, .slice none 0 0, .bool false, .int .i64 0, .slice none 0 0], .int .i64 n])) w' :=
  ⟨_, _, rfl, RdI.nil _, (i64_small (by decide) (by decide) : I64 0), (i64_small (by decide) (by decide) : I64 0), RdE.nil _, (i64_small (by decide) (by decide) : I64 0), .inr (fun b hb => by simp [Value.ownBlock] at hb), .inr (OwnE.nil _ _), hb⟩

end Go.Proofs.Ytanmjihiceibbab
