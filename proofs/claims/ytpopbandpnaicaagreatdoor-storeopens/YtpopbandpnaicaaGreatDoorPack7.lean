import Derived.Test.YtpopbandpnaicaaGreatDoorPack6
import Derived.Test.YtpopbandpnaicaaGreatDoorPack5
import Derived.Test.YtpopbandpnaicaaGreatDoorPack2
import Derived.Deep.DeepCutAuto
import Derived.Test.YtpopbandpnaicaaGreatDoorPack4
import Derived.Test.YtpopbandpnaicaaGreatDoorPack1
import Derived.Test.YtpopbandpnaicaaGreatDoorPack3
import Derived.Deep.RegionHeld
import Derived.ChangeSlices
import Derived.Lib.SliceRun
import Derived.Shelf.Abstract
import Derived.Deep.QuietTactic
import Derived.BigQuiet
import Derived.Deep.RegionHeld2
namespace Go.Proofs.YtpopbandpnaicaaGreatDoor
set_option maxRecDepth 100000
open Go.RowKit

set_option maxHeartbeats 1000000 in
theorem inR_any (n a b : Int) (B : Bool) (hB : B = decide (a <= n ∧ n <= b)) (w : World) :
   Calls Tryz.prog 86 #[.int .i64 n, .int .i64 a, .int .i64 b] w fun e w' => e = .returned (.bool B) ∧ w' = w := by
 have HE := hide hB
 clear hB
 by_cases h1 : a <= n
 · by_cases h2 : n <= b
   · have HT : Hid (true = B) := hide (by rw [HE.out, decide_eq_true ⟨h1, h2⟩])
     clear HE
     go_enter Tryz.func86, Tryz.ntmps86
     go_wp2
     go_ret
     exact ⟨ret_b HT.out, rfl⟩
   · have HT : Hid (false = B) := hide (by rw [HE.out, decide_eq_false fun h => h2 h.2])
     clear HE
     go_enter Tryz.func86, Tryz.ntmps86
     go_wp2
     go_ret
     exact ⟨ret_b HT.out, rfl⟩
 · have HT : Hid (false = B) := hide (by rw [HE.out, decide_eq_false fun h => h1 h.1])
   clear HE
   go_enter Tryz.func86, Tryz.ntmps86
   go_wp2
   go_ret
   exact ⟨ret_b HT.out, rfl⟩

theorem fitsR_parts (r : Rec) : FitsR r ↔ (0 <= r.idx ∧ r.idx <= 4611686018427387903) ∧ (0 <= r.proc ∧ r.proc <= 64) ∧ (0 <= r.seq ∧ r.seq <= 4611686018427387903) ∧ FitsO r.op ∧ (-1125899906842624 <= r.resp ∧ r.resp <= 1125899906842624) := by
 unfold FitsR
 constructor
 · rintro ⟨h1, h2, h3, h4, h5, h6, h7, h8, h9⟩
   exact ⟨⟨h2, by omega⟩, ⟨h6, h7⟩, ⟨h4, by omega⟩, h1, h8, h9⟩
 · rintro ⟨⟨h2, h3⟩, ⟨h6, h7⟩, ⟨h4, h5⟩, h1, h8, h9⟩
   exact ⟨h1, h2, by omega, h4, by omega, h6, h7, h8, h9⟩

set_option maxHeartbeats 2000000 in
theorem fitsR_any (r : Rec) (w : World) :
   Calls Tryz.prog 45 #[recV r] w fun e w' => e = .returned (.bool (decide (FitsR r))) ∧ Below w.heap.size w w' := by
 obtain ⟨B, hB⟩ : ∃ B, B = decide (FitsR r) := ⟨_, rfl⟩
 rw [<- hB]
 have HP := hide (fitsR_parts r)
 have HF0 := hide (fun W => fits_any r.op W)
 have HB := hide hB
 clear hB
 obtain ⟨idx, proc, seq, ⟨code, a, b⟩, resp⟩ := r
 show Calls Tryz.prog _ #[.agg #[.int .i64 idx, .int .i64 proc, .int .i64 seq, .int .i64 code, .int .i64 a, .int .i64 b, .int .i64 resp]] w _
 have HB0 : Hid (∀ X, Below w.heap.size w (w.alloc X)) := fun X => (Below.refl _ _).alloc (Nat.le_refl _) X
 have X1 : Hid (∀ cs, Br (w.alloc (.cells cs 66)) w.heap.size cs) := fun cs => heap_alloc_new w _
 have HF : Hid (∀ W, Calls Tryz.prog 87 #[.agg #[.int .i64 code, .int .i64 a, .int .i64 b]] W fun e w' => e = .returned (.bool (decide (FitsO ⟨code, a, b⟩))) ∧ Below W.heap.size W w') := HF0.out
 clear HF0
 have HW := hide (fun n a b B hB W => inR_any n a b B hB W)
 by_cases h1 : 0 <= idx ∧ idx <= 4611686018427387903
 case neg =>
   have HT : Hid (false = B) := hide (by rw [HB.out, decide_eq_false fun h => h1 (HP.out.1 h).1])
   have HD := hide (decide_eq_false h1).symm
   clear HB HP h1 HF
   go_enter Tryz.func45, Tryz.ntmps45
   go_wp2_with fail
   refine (HW.out _ _ _ _ HD.out _).mono ?_
   rintro e W1 ⟨rfl, rfl⟩
   go_wp2
   go_ret
   exact ⟨ret_b HT.out, HB0.out _⟩
 have HD1 := hide (decide_eq_true h1).symm
 by_cases h2 : 0 <= proc ∧ proc <= 64
 case neg =>
   have HT : Hid (false = B) := hide (by rw [HB.out, decide_eq_false fun h => h2 (HP.out.1 h).2.1])
   have HD2 := hide (decide_eq_false h2).symm
   clear HB HP h1 h2 HF
   go_enter Tryz.func45, Tryz.ntmps45
   go_wp2_with fail
   refine (HW.out _ _ _ _ HD1.out _).mono ?_
   rintro e W1 ⟨rfl, rfl⟩
   go_wp2_with fail
   refine (HW.out _ _ _ _ HD2.out _).mono ?_
   rintro e W1 ⟨rfl, rfl⟩
   go_wp2
   go_ret
   exact ⟨ret_b HT.out, HB0.out _⟩
 have HD2 := hide (decide_eq_true h2).symm
 by_cases h3 : 0 <= seq ∧ seq <= 4611686018427387903
 case neg =>
   have HT : Hid (false = B) := hide (by rw [HB.out, decide_eq_false fun h => h3 (HP.out.1 h).2.2.1])
   have HD3 := hide (decide_eq_false h3).symm
   clear HB HP h1 h2 h3 HF
   go_enter Tryz.func45, Tryz.ntmps45
   go_wp2_with fail
   refine (HW.out _ _ _ _ HD1.out _).mono ?_
   rintro e W1 ⟨rfl, rfl⟩
   go_wp2_with fail
   refine (HW.out _ _ _ _ HD2.out _).mono ?_
   rintro e W1 ⟨rfl, rfl⟩
   go_wp2_with fail
   refine (HW.out _ _ _ _ HD3.out _).mono ?_
   rintro e W1 ⟨rfl, rfl⟩
   go_wp2
   go_ret
   exact ⟨ret_b HT.out, HB0.out _⟩
 have HD3 := hide (decide_eq_true h3).symm
 by_cases h4 : FitsO ⟨code, a, b⟩
 case neg =>
   have HT : Hid (false = B) := hide (by rw [HB.out, decide_eq_false fun h => h4 (HP.out.1 h).2.2.2.1])
   rw [decide_eq_false h4] at HF
   clear HB HP h1 h2 h3 h4
   go_enter Tryz.func45, Tryz.ntmps45
   go_wp2_with fail
   refine (HW.out _ _ _ _ HD1.out _).mono ?_
   rintro e W1 ⟨rfl, rfl⟩
   go_wp2_with fail
   refine (HW.out _ _ _ _ HD2.out _).mono ?_
   rintro e W1 ⟨rfl, rfl⟩
   go_wp2_with fail
   refine (HW.out _ _ _ _ HD3.out _).mono ?_
   rintro e W1 ⟨rfl, rfl⟩
   go_wp2_with fail
   refine (HF.out _).mono ?_
   rintro e W2 ⟨rfl, hb2⟩
   have HB2 := hide ((HB0.out _).trans (hb2.mono (HB0.out _).size))
   clear hb2
   go_wp2
   go_ret
   exact ⟨ret_b HT.out, HB2.out⟩
 rw [decide_eq_true h4] at HF
 by_cases h5 : -1125899906842624 <= resp ∧ resp <= 1125899906842624
 case neg =>
   have HT : Hid (false = B) := hide (by rw [HB.out, decide_eq_false fun h => h5 (HP.out.1 h).2.2.2.2])
   have HD5 := hide (decide_eq_false h5).symm
   clear HB HP h1 h2 h3 h4 h5
   go_enter Tryz.func45, Tryz.ntmps45
   go_wp2_with fail
   refine (HW.out _ _ _ _ HD1.out _).mono ?_
   rintro e W1 ⟨rfl, rfl⟩
   go_wp2_with fail
   refine (HW.out _ _ _ _ HD2.out _).mono ?_
   rintro e W1 ⟨rfl, rfl⟩
   go_wp2_with fail
   refine (HW.out _ _ _ _ HD3.out _).mono ?_
   rintro e W1 ⟨rfl, rfl⟩
   go_wp2_with fail
   refine (HF.out _).mono ?_
   rintro e W2 ⟨rfl, hb2⟩
   have hx2 := (X1.out _).below hb2 (Nat.le_refl _)
   have HB2 := hide ((HB0.out _).trans (hb2.mono (HB0.out _).size))
   obtain ⟨q6, -⟩ := hx2.cell 6
   clear hb2 hx2
   go_wp2_with fail
   refine (HW.out _ _ _ _ HD5.out _).mono ?_
   rintro e W3 ⟨rfl, rfl⟩
   go_wp2
   go_ret
   exact ⟨ret_b HT.out, HB2.out⟩
 have HT : Hid (true = B) := hide (by rw [HB.out, decide_eq_true (HP.out.2 ⟨h1, h2, h3, h4, h5⟩)])
 have HD5 := hide (decide_eq_true h5).symm
 clear HB HP h1 h2 h3 h4 h5
 go_enter Tryz.func45, Tryz.ntmps45
 go_wp2_with fail
 refine (HW.out _ _ _ _ HD1.out _).mono ?_
 rintro e W1 ⟨rfl, rfl⟩
 go_wp2_with fail
 refine (HW.out _ _ _ _ HD2.out _).mono ?_
 rintro e W1 ⟨rfl, rfl⟩
 go_wp2_with fail
 refine (HW.out _ _ _ _ HD3.out _).mono ?_
 rintro e W1 ⟨rfl, rfl⟩
 go_wp2_with fail
 refine (HF.out _).mono ?_
 rintro e W2 ⟨rfl, hb2⟩
 have hx2 := (X1.out _).below hb2 (Nat.le_refl _)
 have HB2 := hide ((HB0.out _).trans (hb2.mono (HB0.out _).size))
 obtain ⟨q6, -⟩ := hx2.cell 6
 clear hb2 hx2
 go_wp2_with fail
 refine (HW.out _ _ _ _ HD5.out _).mono ?_
 rintro e W3 ⟨rfl, rfl⟩
 go_wp2
 go_ret
 exact ⟨ret_b HT.out, HB2.out⟩

def TakenN (w : World) (vl0 vt0 : Value) (l : List Rec) (r : Snap × Int) (e : Ending) (w' : World) : Prop :=
 ∃ vl vt, e = .returned (.tuple #[.agg #[.int .i64 r.1.idx, .int .i64 r.1.st.kind, vl, .bool r.1.st.shut, .int .i64 r.1.st.eng, vt], .int .i64 r.2]) ∧ RdI w' vl r.1.st.L ∧ I64 r.1.st.kind ∧ I64 r.1.st.eng ∧ RdE w' vt r.1.tab ∧ I64 r.1.idx ∧
   (vl = vl0 ∨ ∀ b, vl.ownBlock = some b -> w.heap.size <= b) ∧ ((l = [] ∧ vt = vt0) ∨ OwnE w' w.heap.size vt r.1.tab) ∧ Below w.heap.size w w'

def TakeIn (w : World) (S : Snap) (wr : World) : Prop :=
 ∃ la lc ta tc, Bn wr w.heap.size #[.int .i64 S.idx, .int .i64 S.st.kind, .slice la S.st.L.length lc, .bool S.st.shut, .int .i64 S.st.eng, .slice ta S.tab.length tc] ∧
   Bn wr (w.heap.size + 1) #[.int .i64 0, .int .i64 0, .slice none 0 0, .bool false, .int .i64 0, .slice none 0 0] ∧
   RdI wr (.slice la S.st.L.length lc) S.st.L ∧ (∀ b, (Value.slice la S.st.L.length lc).ownBlock = some b -> w.heap.size + 2 <= b) ∧
   OwnE wr (w.heap.size + 2) (.slice ta S.tab.length tc) S.tab ∧ (∀ e ∈ S.tab, EntI e) ∧ I64 S.idx ∧ I64 S.st.kind ∧ I64 S.st.eng ∧ Below w.heap.size w wr

theorem OwnI.freshI {w : World} {B : Nat} {v : Value} {l : List Int} (h : OwnI w B v l) : ∀ b, v.ownBlock = some b -> B <= b := fun b hb => (World.ownsRow.lt h b hb).1

theorem OwnE.butN {w w' : World} {B R T : Nat} {v : Value} {l : List Ent} (h : OwnE w B v l) (hb : But R T w w') (hn' : ∀ b, v.ownBlock = some b -> b ≠ R ∧ b ≠ T) : OwnE w' B v l := by
 rcases h.row with ⟨rfl, rfl⟩ | ⟨g, cap, cur, rfl, hBg, hlt, hg, hn, hm, hs, hc⟩
 · exact OwnE.nil _ _
 · have := hn' g rfl
   exact OwnE.ofRow rfl hBg ((hb.block g hlt this.1 this.2).trans hg) hn hm hs hc

theorem OwnE.but {w w' : World} {B R T : Nat} {v : Value} {l : List Ent} (h : OwnE w B v l) (hb : But R T w w') (hR : R < B) (hT : T < B) : OwnE w' B v l :=
 h.butN hb (fun b hb => by have := h.fresh b hb; omega)

theorem takeIn_make {w W : World} {idx kind eng : Int} {shut : Bool} {x2 x5 : Value} {L : List Int} {tab : List Ent} {a1 a2 : Option Addr} {c1 c2 : Nat}
   (hX : Bn W w.heap.size #[.int .i64 idx, .int .i64 kind, x2, .bool shut, .int .i64 eng, x5]) (hY : Bn W (w.heap.size + 1) #[.int .i64 0, .int .i64 0, .slice none 0 0, .bool false, .int .i64 0, .slice none 0 0])
   (hl : OwnI W (w.heap.size + 2) (.slice a1 L.length c1) L) (hli : ∀ n ∈ L, I64 n) (hE : OwnE W (w.heap.size + 2) (.slice a2 tab.length c2) tab) (hEI : ∀ e ∈ tab, EntI e) (hi : I64 idx) (hk : I64 kind) (he : I64 eng) (hB : Below w.heap.size w W) :
   TakeIn w ⟨idx, ⟨kind, L, shut, eng⟩, tab⟩ ((W.setCell ⟨w.heap.size, 2, none⟩ (.slice a1 L.length c1)).setCell ⟨w.heap.size, 5, none⟩ (.slice a2 tab.length c2)) := by
 have hb : But w.heap.size w.heap.size W ((W.setCell ⟨w.heap.size, 2, none⟩ (.slice a1 L.length c1)).setCell ⟨w.heap.size, 5, none⟩ (.slice a2 tab.length c2)) := ((But.refl _ _ _).set _ _ (.inl rfl) _).set _ _ (.inl rfl) _
 refine ⟨a1, c1, a2, c2, (hX.set 2 _).set 5 _, (hY.other 2 _ (by omega)).other 5 _ (by omega), (hl.rd hli).but hb (.inr fun b h => ?_), hl.freshI, hE.but hb (by omega) (by omega), hEI, hi, hk, he, below_but hB hb (by have := hX.lt; omega) (Nat.le_refl _) (Nat.le_refl _)⟩
 have := hl.freshI b h
 omega

theorem stepO_few {s : St} (o : Opn) (h : s.L.length <= 1000) : (stepO s o).1.L.length <= 1000 := by
 by_cases hm : MayS s
 · have := (may_small (stepO_may hm o)).2.1
   omega
 · rw [stepO_not hm]
   exact h

theorem takeN_drop {s : Snap} {l : List Rec} {q : Nat} (hq : q < l.length) : takeN s (l.drop q) = if (l.getD q zeroR).idx ≠ s.idx then (zeroN, 15) else if ¬ FitsR (l.getD q zeroR) then (zeroN, 1) else takeN (nextN s (l.getD q zeroR)) (l.drop (q + 1)) := by
 have e : l.drop q = l.getD q zeroR :: l.drop (q + 1) := by
   rw [List.drop_eq_getElem_cons hq]
   simp [List.getD, hq]
 rw [e, takeN]

def stepped (W : World) (R Q : Nat) (k : Int) (v : Value) (sh : Bool) (g n : Int) : World :=
 ((((W.setCell ⟨R, 1, none⟩ (.int .i64 k)).setCell ⟨R, 2, none⟩ v).setCell ⟨R, 3, none⟩ (.bool sh)).setCell ⟨R, 4, none⟩ (.int .i64 g)).setCell ⟨Q, 6, none⟩ (.int .i64 n)

theorem Br.other {w : World} {b c : Nat} {cs : Array Value} (h : Br w b cs) (j : Nat) (x : Value) (hne : b ≠ c) : Br (w.setCell ⟨c, j, none⟩ x) b cs := (Below.heap_setCell _ _ _ _ hne).trans h

theorem but_stepped (W : World) (R Q : Nat) (k : Int) (v : Value) (sh : Bool) (g n : Int) : But R Q W (stepped W R Q k v sh g n) :=
 (((((But.refl R Q W).set _ _ (.inl rfl) _).set _ _ (.inl rfl) _).set _ _ (.inl rfl) _).set _ _ (.inl rfl) _).set _ _ (.inr rfl) _

theorem bn_stepped {W : World} {R Q : Nat} (hne : R ≠ Q) {x0 x1 x2 x3 x4 x5 : Value} (h : Bn W R #[x0, x1, x2, x3, x4, x5]) (k : Int) (v : Value) (sh : Bool) (g n : Int) : Bn (stepped W R Q k v sh g n) R #[x0, .int .i64 k, v, .bool sh, .int .i64 g, x5] :=
 ((((h.set 1 _).set 2 _).set 3 _).set 4 _).other 6 _ hne

theorem br_stepped {W : World} {R Q : Nat} (hne : Q ≠ R) {x0 x1 x2 x3 x4 x5 x6 : Value} (h : Br W Q #[x0, x1, x2, x3, x4, x5, x6]) (k : Int) (v : Value) (sh : Bool) (g n : Int) : Br (stepped W R Q k v sh g n) Q #[x0, x1, x2, x3, x4, x5, .int .i64 n] :=
 ((((h.other 1 _ hne).other 2 _ hne).other 3 _ hne).other 4 _ hne).set 6 _

theorem bnc_stepped {W : World} {R Q C : Nat} (h1 : C ≠ R) (h2 : C ≠ Q) {cs : Array Value} (h : Bn W C cs) (k : Int) (v : Value) (sh : Bool) (g n : Int) : Bn (stepped W R Q k v sh g n) C cs :=
 ((((h.other 1 _ h1).other 2 _ h1).other 3 _ h1).other 4 _ h1).other 6 _ h2

theorem takeIn_next {w W : World} {idx kind eng : Int} {shut : Bool} {x5 : Value} {L : List Int} {tab : List Ent} {a1 a2 : Option Addr} {c1 c2 : Nat}
   (hX : Bn W w.heap.size #[.int .i64 idx, .int .i64 kind, .slice a1 L.length c1, .bool shut, .int .i64 eng, x5]) (hY : Bn W (w.heap.size + 1) #[.int .i64 0, .int .i64 0, .slice none 0 0, .bool false, .int .i64 0, .slice none 0 0])
   (hl : RdI W (.slice a1 L.length c1) L) (hlf : ∀ b, (Value.slice a1 L.length c1).ownBlock = some b -> w.heap.size + 2 <= b) (hE : OwnE W (w.heap.size + 2) (.slice a2 tab.length c2) tab) (hEI : ∀ e ∈ tab, EntI e) (hi : I64 (idx + 1)) (hk : I64 kind) (he : I64 eng) (hB : Below w.heap.size w W) :
   TakeIn w ⟨idx + 1, ⟨kind, L, shut, eng⟩, tab⟩ ((W.setCell ⟨w.heap.size, 5, none⟩ (.slice a2 tab.length c2)).setCell ⟨w.heap.size, 0, none⟩ (.int .i64 (idx + 1))) := by
 have hb : But w.heap.size w.heap.size W ((W.setCell ⟨w.heap.size, 5, none⟩ (.slice a2 tab.length c2)).setCell ⟨w.heap.size, 0, none⟩ (.int .i64 (idx + 1))) := ((But.refl _ _ _).set _ _ (.inl rfl) _).set _ _ (.inl rfl) _
 refine ⟨a1, c1, a2, c2, (hX.set 5 _).set 0 _, (hY.other 5 _ (by omega)).other 0 _ (by omega), hl.but hb (.inr fun b h => ?_), hlf, hE.but hb (by omega) (by omega), hEI, hi, hk, he, below_but hB hb (by have := hX.lt; omega) (Nat.le_refl _) (Nat.le_refl _)⟩
 have := hlf b h
 omega

theorem TakenN.zero {w w' : World} (vl0 vt0 : Value) (l : List Rec) (n : Int) (hb : Below w.heap.size w w') : TakenN w vl0 vt0 l (zeroN, n) (.returned (.tuple #[.agg #[.int .i64 0, .int .i64 0, .slice none 0 0, .bool false, .int .i64 0, .slice none 0 0], .int .i64 n])) w' :=
 ⟨_, _, rfl, RdI.nil _, (i64_small (by decide) (by decide) : I64 0), (i64_small (by decide) (by decide) : I64 0), RdE.nil _, (i64_small (by decide) (by decide) : I64 0), .inr (fun b hb => by simp [Value.ownBlock] at hb), .inr (OwnE.nil _ _), hb⟩

set_option maxRecDepth 100000 in
set_option maxHeartbeats 4000000 in
theorem takeP_any {P : Snap -> Prop} (hPn : ∀ S r, P S -> FitsR r -> P (nextN S r)) (hPb : ∀ S, P S -> S.tab.length <= 1500) (idx kind : Int) (vl : Value) (shut : Bool) (eng : Int) (vt : Value) (s : Snap) (vr : Value) (l : List Rec) (w : World) (hs : SnV w (.agg #[.int .i64 idx, .int .i64 kind, vl, .bool shut, .int .i64 eng, vt]) s) (hr : RdR w vr l) (hlim : s.st.L.length <= 1000) (hlim2 : s.tab.length <= 1000) (hlim3 : l.length <= 1000000000) (hPs : P s) :
   Calls Tryz.prog 17 #[.agg #[.int .i64 idx, .int .i64 kind, vl, .bool shut, .int .i64 eng, vt], vr] w fun e w' => TakenN w vl vt l (takeN s l) e w' := by
 obtain ⟨vl', vt', heq, hl, hk, he, ht, hi⟩ := hs
 injection heq with heq
 injection heq with heq
 simp only [List.cons.injEq, Value.int.injEq, Value.bool.injEq, and_true, true_and] at heq
 obtain ⟨rfl, rfl, rfl, rfl, rfl, rfl⟩ := heq
 obtain ⟨la, lc, hvl, -⟩ := id hl
 obtain ⟨ta, tc, hvt⟩ := ht.shape
 subst hvl hvt
 obtain ⟨ra, rc, rfl, hrl, hrm, -, hrok, hrao⟩ := hr
 have HPN := hide hPn
 have HPB := hide hPb
 clear hPn hPb
 have HRA := hide hrao
 have HROK := hide hrok
 obtain ⟨idx, ⟨kind, L, shut, eng⟩, tab⟩ := s
 dsimp only at *
 have HPS := hide hPs
 clear hPs
 obtain ⟨TT, hTT⟩ : ∃ TT, TT = takeN ⟨idx, ⟨kind, L, shut, eng⟩, tab⟩ l := ⟨_, rfl⟩
 rw [<- hTT]
 have HTT := hide hTT
 have HTK : Hid (∀ (S : Snap) (q : Nat), q < l.length -> takeN S (l.drop q) = if (l.getD q zeroR).idx ≠ S.idx then (zeroN, 15) else if ¬ FitsR (l.getD q zeroR) then (zeroN, 1) else takeN (nextN S (l.getD q zeroR)) (l.drop (q + 1))) := hide (fun S q hq => takeN_drop hq)
 clear hTT hrao hrok hrl hrm
 have HCI := hide (fun W (h : Below w.heap.size w W) => cloneI_any _ L W (hl.below h (Nat.le_refl _)) (by omega))
 have HCE := hide (fun W (h : Below w.heap.size w W) => cloneE_any _ tab W (ht.below h (Nat.le_refl _)) (by omega))
 have HLI := hide hl.i64
 have hTI : ∀ e ∈ tab, EntI e := ht.choose_spec.choose_spec.2.2.2.2.1
 have HTI := hide hTI
 have HB0 : Hid (∀ X Y, Below w.heap.size w ((w.alloc X).alloc Y)) := fun X Y => ((Below.refl _ _).alloc (Nat.le_refl _) X).alloc (by simp) Y
 have HX0 : Hid (∀ cs ds, Bn ((w.alloc (.cells cs 41)).alloc (.cells ds 41)) w.heap.size cs) := fun cs ds => (Below.heap_alloc _ _ _ (by simp)).trans (heap_alloc_new w _)
 have HY0 : Hid (∀ cs ds, Bn ((w.alloc (.cells cs 41)).alloc (.cells ds 41)) (w.heap.size + 1) ds) := fun cs ds => new_two w _ _
 clear hl ht hTI
 go_enter Tryz.func17, Tryz.ntmps17
 go_upto_region 1 with fail
 obtain ⟨W0, hW0⟩ : ∃ W0, W0 = (w.alloc (.cells #[.int .i64 idx, .int .i64 kind, .slice la L.length lc, .bool shut, .int .i64 eng, .slice ta tab.length tc] 41)).alloc (.cells #[.int .i64 0, .int .i64 0, .slice none 0 0, .bool false, .int .i64 0, .slice none 0 0] 41) := ⟨_, rfl⟩
 have HBW : Hid (Below w.heap.size w W0) := hide (by rw [hW0]; exact HB0.out _ _)
 have HXW : Hid (Bn W0 w.heap.size #[.int .i64 idx, .int .i64 kind, .slice la L.length lc, .bool shut, .int .i64 eng, .slice ta tab.length tc]) := hide (by rw [hW0]; exact HX0.out _ _)
 have HYW : Hid (Bn W0 (w.heap.size + 1) #[.int .i64 0, .int .i64 0, .slice none 0 0, .bool false, .int .i64 0, .slice none 0 0]) := hide (by rw [hW0]; exact HY0.out _ _)
 have hs0 : W0.heap.size = w.heap.size + 2 := by rw [hW0]; simp
 rw [<- hW0]
 clear hW0 HB0 HX0 HY0
 obtain ⟨p2, g2⟩ := HXW.out.cell 2
 obtain ⟨p5, g5⟩ := HXW.out.cell 5
 go_cut [] (fun wc => Hid (TakeIn w ⟨idx, ⟨kind, L, shut, eng⟩, tab⟩ wc))
 case first =>
   go_region_with
     (first
       | (go_at_call 43; refine (HCI.out _ (by first | exact HBW.out.drew | exact HBW.out)).mono ?_; rintro e W1 ⟨v1, rfl, ho1, hb1⟩; have hbk1 : Below W0.heap.size W0 W1 := (by first | exact ((Below.refl _ _).drew).trans hb1 | exact hb1); have HO1 := hide ho1; have HB1 := hide hbk1; obtain ⟨a1, c1, hv1⟩ : ∃ a c, v1 = .slice a L.length c := (by obtain ⟨a, c, h, -⟩ := ho1.rd HLI.out; exact ⟨a, c, h⟩); subst hv1; obtain ⟨q2, k2⟩ := (HXW.out.below hbk1 (Nat.le_refl _)).cell 2; obtain ⟨q5, k5⟩ := (HXW.out.below hbk1 (Nat.le_refl _)).cell 5; clear ho1 hb1 hbk1)
       | (go_at_call 44; refine (HCE.out _ (HBW.out.trans (HB1.out.mono HBW.out.size))).mono ?_; rintro e W2 ⟨v2, rfl, ho2, hb2⟩; have HO2 := hide ho2; have HB2 := hide (HB1.out.trans (hb2.mono HB1.out.size)); have HO12 := hide (HO1.out.below hb2 (Nat.le_refl _)); obtain ⟨a2, c2, hv2⟩ := ho2.shape; subst hv2; obtain ⟨r2, j2⟩ := (HXW.out.below HB2.out (Nat.le_refl _)).cell 2; obtain ⟨r5, j5⟩ := (HXW.out.below HB2.out (Nat.le_refl _)).cell 5; clear ho2 hb2))
   all_goals
     go_wp2_with fail
     go_meet
     exact hide (takeIn_make (HXW.out.below HB2.out (Nat.le_refl _)) (HYW.out.below HB2.out (Nat.le_refl _)) (HO12.out.mono (by first | omega | (show w.heap.size + 2 <= W0.heap.size; omega))) HLI.out (HO2.out.mono (by have := HB1.out.size; omega)) HTI.out hi hk he (HBW.out.trans (HB2.out.mono HBW.out.size)))
 case rest =>
   have HT0 := hcut
   clear hcut HBW HXW HYW hs0 p2 g2 p5 g5 HCI HCE HLI HTI W0 hk he hi
   go_wp2
   go_loopw [20] (fun vi wr => ∃ (q : Nat) (S : Snap), vi = .int .i64 (q : Int) ∧ q <= l.length ∧ Hid (TakeIn w S wr) ∧ Hid (TT = takeN S (l.drop q)) ∧ Hid (S.st.L.length <= 1000) ∧ Hid (P S)) (fun vi _ => l.length - (intOf vi).toNat)
   case atStart => exact ⟨0, _, rfl, Nat.zero_le _, HT0, HTT, hide hlim, HPS⟩
   case round =>
     clear HT0 HTT hlim hlim2 HPS
     obtain ⟨q, S, rfl, hq, hT, hTS, hSL, hST⟩ := hrel
     obtain ⟨sa, sc, ea, ec, hX, hY, hL, hLf, hE, hEI, hi, hk, he, hB⟩ := hT.out
     clear hT
     have HX := hide hX
     have HY := hide hY
     have HL := hide hL
     have HLF := hide hLf
     have HE := hide hE
     have HEI := hide hEI
     have HIK := hide (And.intro hi (And.intro hk he))
     have HB := hide hB
     have HLT := hide hY.lt
     obtain ⟨p0, g0⟩ := hX.cell 0
     obtain ⟨p1, g1⟩ := hX.cell 1
     obtain ⟨p2, g2⟩ := hX.cell 2
     obtain ⟨p3, g3⟩ := hX.cell 3
     obtain ⟨p4, g4⟩ := hX.cell 4
     obtain ⟨p5, g5⟩ := hX.cell 5
     obtain ⟨z0, y0⟩ := hY.cell 0
     obtain ⟨z1, y1⟩ := hY.cell 1
     obtain ⟨z2, y2⟩ := hY.cell 2
     obtain ⟨z3, y3⟩ := hY.cell 3
     obtain ⟨z4, y4⟩ := hY.cell 4
     obtain ⟨z5, y5⟩ := hY.cell 5
     clear hX hY hL hLf hE hEI hi hk he hB
     by_cases hlt : q < l.length
     case neg =>
       obtain rfl : q = l.length := by omega
       have HF : Hid (TT = (S, 0)) := hide (by rw [hTS.out, List.drop_length]; rfl)
       clear hTS
       have hne1 : ¬ (w.heap.size = w.heap.size + 1) := by omega
       go_wp2
       refine bodyPost_ret (v := .tuple #[.agg #[.int .i64 S.idx, .int .i64 S.st.kind, .slice sa S.st.L.length sc, .bool S.st.shut, .int .i64 S.st.eng, .slice ea S.tab.length ec], .int .i64 0]) (by simp [results, Tryz.results17, go_sem, z0, z1, z2, z3, z4, z5]) rfl ?_
       rw [HF.out]
       have hbt := butSix wr (w.heap.size + 1) (.int .i64 S.idx) (.int .i64 S.st.kind) (.slice sa S.st.L.length sc) (.bool S.st.shut) (.int .i64 S.st.eng) (.slice ea S.tab.length ec)
       exact ⟨_, _, rfl, HL.out.but hbt (.inr fun b h => by have := HLF.out b h; omega), HIK.out.2.1, HIK.out.2.2, (HE.out.rd HEI.out).but hbt (.inr fun b h => by have := HE.out.fresh b h; omega), HIK.out.1, .inr (fun b h => by have := HLF.out b h; omega), .inr ((HE.out.but hbt (by omega) (by omega)).mono (by omega)), belowSix HB.out _ (by omega) _ _ _ _ _ _⟩
     have hqi : (q : Int) < (l.length : Int) := by omega
     rcases HRA.out with h0 | ⟨c, off, rfl, hc⟩
     · rw [h0] at hlt; simp at hlt
     obtain ⟨c0, c1, c2, c3, c4, c5, c6⟩ := (hc q hlt).keep (HB.out.block c (hc q hlt).lt)
     have HTQ := hide (HTK.out S q hlt)
     rw [<- hTS.out] at HTQ
     have HFR := hide (fun W => fitsR_any (l.getD q zeroR) W)
     have HRO : Hid (RecOk (l.getD q zeroR)) := hide (HROK.out _ (by rw [show l.getD q zeroR = l[q] by simp [List.getD, hlt]]; exact List.getElem_mem hlt))
     obtain ⟨r, hr⟩ : ∃ r, r = l.getD q zeroR := ⟨_, rfl⟩
     rw [<- hr] at HTQ HFR HRO c0 c1 c2 c3 c4 c5 c6
     clear hr hc HTK HRA HROK hTS
     obtain ⟨bf, hbf⟩ : ∃ bf, bf = decide (FitsR r) := ⟨_, rfl⟩
     rw [<- hbf] at HFR
     have HBF := hide hbf
     clear hbf
     have hsz := HLT.out
     clear p0 p1 p2 p3 p4 p5 g0 g1 g2 g3 g4 g5 z0 z1 z2 z3 z4 z5 y0 y1 y2 y3 y4 y5
     go_upto_region 5 with fail
     obtain ⟨W0, hW0⟩ : ∃ W0, W0 = wr.alloc (.cells (recC r) 66) := ⟨_, rfl⟩
     have HB0 : Hid (Below wr.heap.size wr W0) := hide (by rw [hW0]; exact (Below.refl _ _).alloc (Nat.le_refl _) _)
     have HR0 : Hid (Br W0 wr.heap.size (recC r)) := hide (by rw [hW0]; exact heap_alloc_new wr _)
     unfold recC at hW0
     rw [<- hW0]
     clear hW0 c0 c1 c2 c3 c4 c5 c6
     unfold recC at HR0
     unfold recV at HFR
     obtain ⟨QB, hQB⟩ : ∃ QB, QB = wr.heap.size := ⟨_, rfl⟩
     have HX0 := hide (HX.out.below HB0.out (Nat.le_refl _))
     have HY0 := hide (HY.out.below HB0.out (Nat.le_refl _))
     have HBW0 := hide (HB.out.trans (HB0.out.mono HB.out.size))
     rw [<- hQB] at HR0 ⊢
     obtain ⟨p0, g0⟩ := HX0.out.cell 0
     obtain ⟨k0, -⟩ := HR0.out.cell 0
     obtain ⟨k1, -⟩ := HR0.out.cell 1
     obtain ⟨k2, -⟩ := HR0.out.cell 2
     obtain ⟨k3, -⟩ := HR0.out.cell 3
     obtain ⟨k4, -⟩ := HR0.out.cell 4
     obtain ⟨k5, -⟩ := HR0.out.cell 5
     obtain ⟨k6, -⟩ := HR0.out.cell 6
     by_cases hix : r.idx = S.idx
     case neg =>
       have HF : Hid (TT = (zeroN, 15)) := hide (by rw [HTQ.out, if_pos hix])
       have hix' : (r.idx != S.idx) = true := by rw [bne_iff_ne]; exact hix
       obtain ⟨z0, y0⟩ := HY0.out.cell 0
       obtain ⟨z1, y1⟩ := HY0.out.cell 1
       obtain ⟨z2, y2⟩ := HY0.out.cell 2
       obtain ⟨z3, y3⟩ := HY0.out.cell 3
       obtain ⟨z4, y4⟩ := HY0.out.cell 4
       obtain ⟨z5, y5⟩ := HY0.out.cell 5
       clear hix HTQ hQB
       go_wp2
       refine bodyPost_ret (v := .tuple #[.agg #[.int .i64 0, .int .i64 0, .slice none 0 0, .bool false, .int .i64 0, .slice none 0 0], .int .i64 15]) (by simp [results, Tryz.results17, go_sem, z0, z1, z2, z3, z4, z5]) rfl ?_
       rw [HF.out]
       exact TakenN.zero _ _ _ _ (belowSixE HBW0.out _ (by omega) _ _ _ _ _ _)
     have hix' : (r.idx != S.idx) = false := by rw [bne_eq_false_iff_eq]; exact hix
     have HIX := hide hix
     have HQB := hide hQB
     clear hix hQB
     go_wp2_with fail
     refine (HFR.out _).mono ?_
     rintro x W1 ⟨rfl, hb1⟩
     have HB1 := hide (HB0.out.trans (hb1.mono HB0.out.size))
     have HBW1 := hide (HBW0.out.trans (hb1.mono HBW0.out.size))
     have HX1 := hide (HX0.out.below hb1 (Nat.le_refl _))
     have HY1 := hide (HY0.out.below hb1 (Nat.le_refl _))
     have HR1 := hide (HR0.out.below hb1 (Nat.le_refl _))
     clear hb1 HB0 HBW0 HX0 HY0 HR0 HFR p0 g0 k0 k1 k2 k3 k4 k5 k6
     cases bf with
     | false =>
       have HF : Hid (TT = (zeroN, 1)) := hide (by rw [HTQ.out, if_neg (by rw [HIX.out]; simp), if_pos (of_decide_eq_false HBF.out.symm)])
       obtain ⟨z0, y0⟩ := HY1.out.cell 0
       obtain ⟨z1, y1⟩ := HY1.out.cell 1
       obtain ⟨z2, y2⟩ := HY1.out.cell 2
       obtain ⟨z3, y3⟩ := HY1.out.cell 3
       obtain ⟨z4, y4⟩ := HY1.out.cell 4
       obtain ⟨z5, y5⟩ := HY1.out.cell 5
       clear HTQ
       go_wp2
       refine bodyPost_ret (v := .tuple #[.agg #[.int .i64 0, .int .i64 0, .slice none 0 0, .bool false, .int .i64 0, .slice none 0 0], .int .i64 1]) (by simp [results, Tryz.results17, go_sem, z0, z1, z2, z3, z4, z5]) rfl ?_
       rw [HF.out]
       exact TakenN.zero _ _ _ _ (belowSixE HBW1.out _ (by omega) _ _ _ _ _ _)
     | true =>
       have HFT : Hid (FitsR r) := hide (of_decide_eq_true HBF.out.symm)
       have HF : Hid (TT = takeN (nextN S r) (l.drop (q + 1))) := hide (by rw [HTQ.out, if_neg (by rw [HIX.out]; simp), if_neg (fun h => h HFT.out)])
       have HSTEP := hide (step_any (.agg #[.int .i64 S.st.kind, .slice sa S.st.L.length sc, .bool S.st.shut, .int .i64 S.st.eng]) S.st r.op W1 ⟨_, rfl, HL.out.below HB1.out (Nat.le_refl _), HIK.out.2.1, HIK.out.2.2⟩ (by have := hSL.out; omega))
       rw [lval_agg] at HSTEP
       have HSF := hide (stepO_few r.op hSL.out)
       have HSR := hide (stepO_resp S.st r.op)
       have HNX : Hid (nextN S r = ⟨S.idx + 1, (stepO S.st r.op).1, noteL S.tab ⟨r.proc, r.seq, (stepO S.st r.op).2⟩⟩) := hide rfl
       have HNT := hide (noteL_len S.tab ⟨r.proc, r.seq, (stepO S.st r.op).2⟩)
       obtain ⟨so, hso⟩ : ∃ so, so = stepO S.st r.op := ⟨_, rfl⟩
       rw [<- hso] at HSTEP HSF HSR HNX HNT
       clear hso HTQ HBF
       obtain ⟨⟨k', L', sh', g'⟩, n'⟩ := so
       dsimp only at HSTEP HSF HSR HNX HNT
       unfold opV at HSTEP
       unfold Stepped at HSTEP
       dsimp only at HSTEP
       obtain ⟨p1, g1⟩ := HX1.out.cell 1
       obtain ⟨p2, g2⟩ := HX1.out.cell 2
       obtain ⟨p3, g3⟩ := HX1.out.cell 3
       obtain ⟨p4, g4⟩ := HX1.out.cell 4
       obtain ⟨k3, -⟩ := HR1.out.cell 3
       obtain ⟨k4, -⟩ := HR1.out.cell 4
       obtain ⟨k5, -⟩ := HR1.out.cell 5
       go_wp2_with fail
       refine HSTEP.out.mono ?_
       rintro x W2 ⟨v2, rfl, hl2, hk2, he2, hf2, hb2⟩
       clear HSTEP p1 g1 p2 g2 p3 g3 p4 g4 k3 k4 k5
       have HX2 := hide (HX1.out.below hb2 (Nat.le_refl _))
       have HY2 := hide (HY1.out.below hb2 (Nat.le_refl _))
       have HR2 := hide (HR1.out.below hb2 (Nat.le_refl _))
       have HBW2 := hide (HBW1.out.trans (hb2.mono HBW1.out.size))
       have HE2 := hide ((HE.out.below HB1.out (Nat.le_refl _)).below hb2 (Nat.le_refl _))
       obtain ⟨a2, n2, hv2⟩ : ∃ a c, v2 = .slice a L'.length c := by obtain ⟨a, c, h, -⟩ := hl2; exact ⟨a, c, h⟩
       subst hv2
       have hQs : QB < W1.heap.size := HR1.out.lt
       have HFB : Hid (L' = [] ∨ ∀ b, (Value.slice a2 L'.length n2).ownBlock = some b -> b ≠ w.heap.size ∧ b ≠ QB) := hide (by
         rcases hf2 with ⟨h1, h2⟩ | h
         · rw [h1, h2]
           rcases HL.out.old with h3 | h3
           · exact .inl h3
           · exact .inr fun b hb => by
               have h4 := h3 b hb
               have h5 := HLF.out b hb
               have h6 := HQB.out
               omega
         · exact .inr fun b hb => by
             have h4 := h b hb
             have h5 := HY1.out.lt
             omega)
       have HFF : Hid (∀ b, (Value.slice a2 L'.length n2).ownBlock = some b -> w.heap.size + 2 <= b) := hide (fun b hb => by
         rcases hf2 with ⟨h1, h2⟩ | h
         · rw [h1] at hb
           exact HLF.out b hb
         · have h4 := h b hb
           have h5 := HY1.out.lt
           omega)
       have HEB : Hid (∀ b, (Value.slice ea S.tab.length ec).ownBlock = some b -> b ≠ w.heap.size ∧ b ≠ QB) := hide (fun b hb => by
         have h1 := World.ownsRow.lt HE.out b hb
         have h2 := HQB.out
         omega)
       have hne : w.heap.size ≠ QB := by have := HQB.out; omega
       have hne2 : QB ≠ w.heap.size := fun h => hne h.symm
       have hne3 : w.heap.size + 1 ≠ QB := by have := HQB.out; omega
       have HL2 := hide hl2
       have HKE := hide (And.intro hk2 he2)
       clear hl2 hk2 he2 hf2 hb2
       obtain ⟨W4, hW4⟩ : ∃ W4, W4 = stepped W2 w.heap.size QB k' (.slice a2 L'.length n2) sh' g' n' := ⟨_, rfl⟩
       have HX4 : Hid (Bn W4 w.heap.size #[.int .i64 S.idx, .int .i64 k', .slice a2 L'.length n2, .bool sh', .int .i64 g', .slice ea S.tab.length ec]) := hide (by rw [hW4]; exact bn_stepped hne HX2.out _ _ _ _ _)
       have HR4 : Hid (Br W4 QB #[.int .i64 r.idx, .int .i64 r.proc, .int .i64 r.seq, .int .i64 r.op.code, .int .i64 r.op.a, .int .i64 r.op.b, .int .i64 n']) := hide (by rw [hW4]; exact br_stepped hne2 HR2.out _ _ _ _ _)
       have HY4 : Hid (Bn W4 (w.heap.size + 1) #[.int .i64 0, .int .i64 0, .slice none 0 0, .bool false, .int .i64 0, .slice none 0 0]) := hide (by rw [hW4]; exact bnc_stepped (by omega) hne3 HY2.out _ _ _ _ _)
       have HBT : Hid (But w.heap.size QB W2 W4) := hide (by rw [hW4]; exact but_stepped _ _ _ _ _ _ _ _)
       have HL4 := hide (HL2.out.but HBT.out HFB.out)
       have HE4 := hide (HE2.out.butN HBT.out HEB.out)
       have HBW4 := hide (below_but HBW2.out HBT.out HBW2.out.size (Nat.le_refl _) (by have := HQB.out; omega))
       have HNOTE := hide (noteN_any (.slice ea S.tab.length ec) S.tab ⟨r.idx, r.proc, r.seq, r.op, n'⟩ W4 (HE4.out.rd HEI.out) ⟨HRO.out.1, HRO.out.2.1, HRO.out.2.2.1, HRO.out.2.2.2.1, HSR.out⟩ (by have := HPB.out _ hST.out; omega))
       unfold recV at HNOTE
       dsimp only at HNOTE
       have hW4' := hW4
       unfold stepped at hW4'
       have s1 := (HX2.out.cell 1)
       have s2 := (HX2.out.cell 2)
       have s3 := (HX2.out.cell 3)
       have s4 := (HX2.out.cell 4)
       have s5 := (HX2.out.cell 5)
       obtain ⟨s1, u1⟩ := s1
       obtain ⟨s2, u2⟩ := s2
       obtain ⟨s3, u3⟩ := s3
       obtain ⟨s4, u4⟩ := s4
       obtain ⟨s5, u5⟩ := s5
       obtain ⟨t0, m0⟩ := HR2.out.cell 0
       obtain ⟨t1, m1⟩ := HR2.out.cell 1
       obtain ⟨t2, m2⟩ := HR2.out.cell 2
       obtain ⟨t3, m3⟩ := HR2.out.cell 3
       obtain ⟨t4, m4⟩ := HR2.out.cell 4
       obtain ⟨t5, m5⟩ := HR2.out.cell 5
       obtain ⟨t6, m6⟩ := HR2.out.cell 6
       clear hW4
       go_wp2_with fail
       rw [<- hW4']
       refine HNOTE.out.mono ?_
       rintro x W5 ⟨v5, rfl, ho5, hb5⟩
       clear hW4' s1 s2 s3 s4 s5 u1 u2 u3 u4 u5 t0 t1 t2 t3 t4 t5 t6 m0 m1 m2 m3 m4 m5 m6 HNOTE
       have HX5 := hide (HX4.out.below hb5 (Nat.le_refl _))
       have HY5 := hide (HY4.out.below hb5 (Nat.le_refl _))
       have HL5 := hide (HL4.out.below hb5 (Nat.le_refl _))
       have HBW5 := hide (HBW4.out.trans (hb5.mono HBW4.out.size))
       have HE5 := hide (ho5.mono (B' := w.heap.size + 2) (by have := HY4.out.lt; omega))
       obtain ⟨a5, c5, hv5⟩ := ho5.shape
       subst hv5
       have HEI5 : Hid (∀ e ∈ noteL S.tab ⟨r.proc, r.seq, n'⟩, EntI e) := hide (fun e he => by
         unfold noteL at he
         rcases (noteG_mem _ _ _ _).1 he with ⟨-, h⟩ | ⟨h, -⟩
         · rw [h]
           exact ⟨HRO.out.2.1, HRO.out.2.2.1, HSR.out⟩
         · exact HEI.out e h)
       have HI5 : Hid (I64 (S.idx + 1)) := hide (by
         have h1 := HFT.out
         unfold FitsR at h1
         have h2 := HIX.out
         exact ⟨by omega, by omega⟩)
       have hw5 : IntKind.i64.wrap (S.idx + 1) = S.idx + 1 := by
         have := HI5.out
         rw [IntKind.wrap_i64]
         obtain ⟨h1, h2⟩ := this
         omega
       obtain ⟨p0, g0⟩ := HX5.out.cell 0
       obtain ⟨p5, g5⟩ := HX5.out.cell 5
       clear ho5 hb5
       have hb0 : -9223372036854775808 <= S.idx + 1 ∧ S.idx + 1 <= 9223372036854775807 := HI5.out
       obtain ⟨hb0, hb1⟩ := hb0
       go_wp2
       go_roundw
       case rel =>
         exact ⟨q + 1, nextN S r, by go_num, by omega, hide (by rw [HNX.out]; exact takeIn_next HX5.out HY5.out HL5.out HFF.out HE5.out HEI5.out HI5.out HKE.out.1 HKE.out.2 HBW5.out), HF, hide (by rw [HNX.out]; exact HSF.out), hide (HPN.out _ _ hST.out HFT.out)⟩
       case measure => simp [intOf]; omega

def RdL (w : World) (v : Value) (L : List (List UInt8)) : Prop :=
 ∃ ao cap, v = .slice ao L.length cap ∧ L.length <= cap ∧ cap <= maxLen ∧ (ao = none -> cap = 0) ∧
   (L = [] ∨ ∃ b off, ao = some ⟨b, off, none⟩ ∧ ∀ j, j < L.length -> ∃ x, w.cell? ⟨b, off + j, none⟩ = some x ∧ Rd w x (L.getD j []))

def OwnL (w : World) (B : Nat) (v : Value) (L : List (List UInt8)) : Prop :=
 ∃ xs : List Value, w.ownsRow B 53 1 v L.length xs ∧ ∀ j, j < L.length -> ∃ x, xs[j]? = some x ∧ Own w B x (L.getD j [])

theorem RdL.nil (w : World) : RdL w (.slice none 0 0) [] := ⟨none, 0, rfl, Nat.le_refl _, Nat.zero_le _, fun _ => rfl, .inl rfl⟩

theorem OwnL.nil (w : World) (B : Nat) : OwnL w B (.slice none 0 0) [] := ⟨[], World.ownsRow_nil w B 53 1, fun j hj => by simp at hj⟩

theorem RdL.below {w w' : World} {v : Value} {L : List (List UInt8)} (h : RdL w v L) {B : Nat} (hb : Below B w w') (hB : w.heap.size <= B) : RdL w' v L := by
 obtain ⟨ao, cap, h1, h2, h3, hn, h4⟩ := h
 refine ⟨ao, cap, h1, h2, h3, hn, ?_⟩
 rcases h4 with h4 | ⟨b, off, h5, h6⟩
 · exact .inl h4
 · refine .inr ⟨b, off, h5, fun j hj => ?_⟩
   obtain ⟨x, hc, hr⟩ := h6 j hj
   have hlt : b < w.heap.size := World.block_lt_of_cell? w ⟨b, off + j, none⟩ hc
   refine ⟨x, ?_, hr.below hb hB⟩
   rw [hb.cell (p := ⟨b, off + j, none⟩) (by exact Nat.lt_of_lt_of_le hlt hB)]
   exact hc

theorem RdL.front {w : World} {ao : Option Addr} {n cap : Nat} {L : List (List UInt8)} (h : RdL w (.slice ao n cap) L) (k : Nat) (hk : k <= L.length) : RdL w (.slice ao k cap) (L.take k) := by
 obtain ⟨ao', cap', hv, h1, h2, h3, h4⟩ := h
 simp only [Value.slice.injEq] at hv
 obtain ⟨rfl, _, rfl⟩ := hv
 have hlen : (L.take k).length = k := by simp; omega
 refine ⟨ao, cap, by rw [hlen], by omega, h2, h3, ?_⟩
 rcases h4 with h4 | ⟨b, off, h5, h6⟩
 · exact .inl (by rw [h4]; simp)
 · refine .inr ⟨b, off, h5, fun j hj => ?_⟩
   have hj2 : j < k := by omega
   obtain ⟨x, hc, hr⟩ := h6 j (by omega)
   refine ⟨x, hc, ?_⟩
   have e : (L.take k).getD j [] = L.getD j [] := by simp [List.getD, hj2]
   rw [e]
   exact hr

theorem OwnL.rd {w : World} {B : Nat} {v : Value} {L : List (List UInt8)} (h : OwnL w B v L) : RdL w v L := by
 obtain ⟨xs, h1, h2⟩ := h
 rcases h1.2 with ⟨hv, hn⟩ | ⟨g, cap, cur, hv, hb, hg, hnc, hcm, hcs, htake⟩
 · exact ⟨none, 0, by rw [hv, hn], by omega, Nat.zero_le _, fun _ => rfl, .inl (List.eq_nil_of_length_eq_zero hn)⟩
 · refine ⟨some ⟨g, 0, none⟩, cap, hv, hnc, hcm, (fun e => by cases e), .inr ⟨g, 0, rfl, fun j hj => ?_⟩⟩
   obtain ⟨x, hx, ho⟩ := h2 j hj
   have := World.ownsRow.cells h1 (g := g) (by rw [hv]; rfl) j _ hx
   rw [Addr.add_lit] at this
   exact ⟨x, this, ho.rd⟩

theorem OwnL.mono {w : World} {B B' : Nat} {v : Value} {L : List (List UInt8)} (h : OwnL w B v L) (hB : B' <= B) : OwnL w B' v L := by
 obtain ⟨xs, ⟨h1, h2⟩, h3⟩ := h
 refine ⟨xs, ⟨h1, ?_⟩, fun j hj => ?_⟩
 · rcases h2 with h2 | ⟨g, cap, cur, hv, hb, r⟩
   · exact .inl h2
   · exact .inr ⟨g, cap, cur, hv, by omega, r⟩
 · obtain ⟨x, hx, ho⟩ := h3 j hj
   exact ⟨x, hx, ho.mono hB⟩

theorem OwnL.below {w w' : World} {B B' : Nat} {v : Value} {L : List (List UInt8)} (h : OwnL w B v L) (hb : Below B' w w') (hB : w.heap.size <= B') : OwnL w' B v L := by
 obtain ⟨xs, ⟨h1, h2⟩, h3⟩ := h
 refine ⟨xs, ⟨h1, ?_⟩, fun j hj => ?_⟩
 · rcases h2 with h2 | ⟨g, cap, cur, hv, hbg, hg, r⟩
   · exact .inl h2
   · have hlt : g < w.heap.size := (Array.getElem?_eq_some_iff.1 hg).1
     exact .inr ⟨g, cap, cur, hv, hbg, by rw [hb.block g (by omega)]; exact hg, r⟩
 · obtain ⟨x, hx, ho⟩ := h3 j hj
   exact ⟨x, hx, ho.below hb hB⟩

theorem info_bytes : (Tryz.prog.info? 53).map (fun i => (i.zero, i.size, i.bytes)) = some (some (.slice none 0 0), 1, 24) := by kernel_rfl

theorem own_apart {w : World} {B B' : Nat} {v x : Value} {n : Nat} {xs : List Value} {l : List UInt8} (h1 : w.ownsRow B 53 1 v n xs) (h2 : Own w B' x l) : x.ownBlock = none ∨ x.ownBlock ≠ v.ownBlock := by
 rcases h2.2 with ⟨hv, _⟩ | ⟨g, cap, cur, hv, _, hg, _⟩
 · exact .inl (by rw [hv]; rfl)
 · right
   rcases h1.2 with ⟨hv', _⟩ | ⟨g', cap', cur', hv', _, hg', _⟩
   · rw [hv, hv']
     exact fun e => by cases e
   · rw [hv, hv']
     intro e
     have e' : g = g' := by simpa [Value.ownBlock] using e
     rw [e', hg'] at hg
     have h3 : (53 : Nat) = 5 := by
       injection hg with hg
       injection hg
     exact absurd h3 (by decide)

theorem run_append_snoc (w : World) (ty : TypeId) (B : Nat) (v : Value) (L : List (List UInt8)) (h : OwnL w B v L) (x : Value) (d : List UInt8) (hx : Own w B x d) (hlim : L.length <= 1000000) (hbase : B <= w.heap.size) :
   ∃ v' w', (Builtin.append_ #[146, 146] ty #[v, .slice (some ⟨w.heap.size, 0, none⟩) 1 1]).run Tryz.prog (w.alloc (.cells #[x] 53)) = .ok v' w' ∧ OwnL w' B v' (L ++ [d]) ∧ Below B w w' := by
 obtain ⟨i0, hi, hz0, hz1, hz2⟩ := info_parts info_bytes
 obtain ⟨xs, h1, h3⟩ := h
 have hx1 : x.oneCell' = true := by
   rcases hx.2 with ⟨hv, _⟩ | ⟨g, cap, cur, hv, _⟩ <;> rw [hv] <;> rfl
 obtain ⟨v', w', hrun, ho, hg, _⟩ := run_append_own (P := Tryz.prog) (w.alloc (.cells #[x] 53)) B 146 ty 53 i0 (.slice none 0 0) 1 24 Tryz.underlying146 hi hz0 hz1 hz2 rfl (by decide) v L.length xs (h1.alloc _)
   ⟨w.heap.size, 0, none⟩ 1 1 [x] rfl (fun j u hj => by
     match j, hj with
     | 0, hj => simp at hj; subst hj; simp [Addr.add]) (fun u hu => by simp at hu; subst hu; exact hx1) (by unfold maxLen; omega) (by omega) (by simp; omega)
 have hl : xs.length = L.length := by rw [h1.1, Nat.mul_one]
 refine ⟨v', w', hrun, ⟨xs ++ [x], by rw [List.length_append]; exact ho, fun j hj => ?_⟩, ?_⟩
 · by_cases hj' : j < L.length
   · obtain ⟨y, hy, hoy⟩ := h3 j hj'
     refine ⟨y, by rw [List.getElem?_append_left (by omega)]; exact hy, ?_⟩
     have e : (L ++ [d]).getD j [] = L.getD j [] := by simp [List.getD, List.getElem?_append_left hj']
     rw [e]
     exact World.ownsRow.kept (World.ownsRow.alloc hoy _) hg (own_apart h1 hoy)
   · have ej : j = L.length := by simp at hj; omega
     subst ej
     refine ⟨x, by rw [List.getElem?_append_right (by omega), hl]; simp, ?_⟩
     have e : (L ++ [d]).getD L.length [] = d := by simp [List.getD]
     rw [e]
     exact World.ownsRow.kept (World.ownsRow.alloc hx _) hg (own_apart h1 hx)
 · exact ((Below.refl _ _).alloc hbase _).grown hg (by simp; omega) (fun k hk => (World.ownsRow.lt h1 k hk).1)

theorem wpList_append_snoc (w : World) {ops : Array Oper} {rest : List Oper} {o : Oper} {a : Act} {Q : Exit -> Act -> World -> Prop} (hgd : o.guard = none) (s x : Operand)
   (ho : o.op = .call { callee := .builtin .append, args := #[s, x], argTypes := #[146, 146] })
   (B : Nat) (v : Value) (L : List (List UInt8)) (hs : a.eval s = v) (hown : OwnL w B v L) (y : Value) (d : List UInt8) (hx : a.eval x = .slice (some ⟨w.heap.size, 0, none⟩) 1 1) (hy : Own w B y d)
   (hlim : L.length <= 1000000) (hbase : B <= w.heap.size)
   (h : ∀ v' w', OwnL w' B v' (L ++ [d]) -> Below B w w' -> wpList Tryz.prog ops Q rest (a.put o.dst v') w') : wpList Tryz.prog ops Q (o :: rest) a (w.alloc (.cells #[y] 53)) :=
 wpList_plain hgd fun _ hK => by
   obtain ⟨v', w', hrun, h2, h3⟩ := run_append_snoc w o.type B v L hown y d hy hlim hbase
   unfold Oper.wp execOp
   simp only [ho, resolve, invoke, builtin, Sem.run_bind, Sem.run_pure, Result.andThen_ok, List.map_toArray, List.map_cons, List.map_nil, hs, hx, hrun]
   exact hK _ _ (h v' w' h2 h3)

theorem xor_u32 (a b : Nat) (ha : a < 4294967296) (hb : b < 4294967296) : bits .xor .u32 (a : Int) (b : Int) = ((a ^^^ b : Nat) : Int) := by
 have hx : a ^^^ b < 2 ^ 32 := Nat.xor_lt_two_pow (by omega) (by omega)
 have h1 : (BitVec.ofInt 32 (a : Int)).toNat = a := by
   rw [BitVec.ofInt_natCast, BitVec.toNat_ofNat]; exact Nat.mod_eq_of_lt (by omega)
 have h2 : (BitVec.ofInt 32 (b : Int)).toNat = b := by
   rw [BitVec.ofInt_natCast, BitVec.toNat_ofNat]; exact Nat.mod_eq_of_lt (by omega)
 show IntKind.u32.wrap ((BitVec.ofInt 32 (a : Int) ^^^ BitVec.ofInt 32 (b : Int)).toNat : Int) = _
 rw [BitVec.toNat_xor, h1, h2, IntKind.wrap_u32]
 omega

theorem xor_u8 (a b : Nat) (ha : a < 256) (hb : b < 256) : bits .xor .u8 (a : Int) (b : Int) = ((a ^^^ b : Nat) : Int) := by
 have hx : a ^^^ b < 2 ^ 8 := Nat.xor_lt_two_pow (by omega) (by omega)
 have h1 : (BitVec.ofInt 8 (a : Int)).toNat = a := by
   rw [BitVec.ofInt_natCast, BitVec.toNat_ofNat]; exact Nat.mod_eq_of_lt (by omega)
 have h2 : (BitVec.ofInt 8 (b : Int)).toNat = b := by
   rw [BitVec.ofInt_natCast, BitVec.toNat_ofNat]; exact Nat.mod_eq_of_lt (by omega)
 show IntKind.u8.wrap ((BitVec.ofInt 8 (a : Int) ^^^ BitVec.ofInt 8 (b : Int)).toNat : Int) = _
 rw [BitVec.toNat_xor, h1, h2, IntKind.wrap_u8]
 omega

theorem ticks_succ (k x : Nat) : ticks (k + 1) x = tick (ticks k x) := by
 rw [ticks_add k 1]
 rfl

theorem ticks32 (k : Nat) {x : Nat} (h : x < 4294967296) : ticks k x < 4294967296 := by
 have := ticks_lt k (Nat.le_refl 32) (by omega : x < 2 ^ 32)
 omega

theorem crcReg_snoc (l : List UInt8) (x k : Nat) (h : k < l.length) : crcReg x (l.take (k + 1)) = crcByte (crcReg x (l.take k)) (l.getD k 0).toNat := by
 rw [take_snoc l k h, crcReg_append]
 rfl

theorem low_byte (x c : Nat) (hc : c < 256) : (x ^^^ c) % 256 = x % 256 ^^^ c := by
 have h := @Nat.xor_mod_two_pow x c 8
 have e : c % 2 ^ 8 = c := Nat.mod_eq_of_lt (by omega)
 rw [e] at h
 exact h

theorem byte_lt (x c : Nat) (hc : c < 256) : x % 256 ^^^ c < 256 := by
 have : x % 256 ^^^ c < 2 ^ 8 := Nat.xor_lt_two_pow (by omega) (by omega)
 omega

theorem entry_lt (c : Nat) (h : c < 256) : entry c < 4294967296 := ticks32 8 (by omega)

theorem not_u32 (s : Nat) (h : s < 4294967296) : bits .xor .u32 IntKind.u32.max (s : Int) = ((s ^^^ 4294967295 : Nat) : Int) := by
 have e : IntKind.u32.max = ((4294967295 : Nat) : Int) := by decide
 rw [e, xor_u32 _ _ (by decide) h, Nat.xor_comm]

def encF (l : List UInt8) : List UInt8 × Nat := if l.length <= 1048576 then (frameOf l, 0) else ([], 5)

theorem ret_tup3 {v : Value} {k k' : IntKind} {a b c d : Int} (h : a = b) (h' : c = d) : Ending.returned (.tuple #[v, .int k a, .int k' c]) = .returned (.tuple #[v, .int k b, .int k' d]) := by rw [h, h']

theorem decF_1 {l : List UInt8} (h : isOpen l) : decF l = ([], 0, 2) := by unfold decF; rw [if_pos h]

theorem decF_2 {l : List UInt8} (h : ¬ isOpen l) (h2 : (dec62 l).2 = 0) : decF l = ([], 0, 3) := by unfold decF; rw [if_neg h, if_pos h2]

theorem decF_3 {l : List UInt8} (h : ¬ isOpen l) (h2 : (dec62 l).2 ≠ 0) (h3 : 1048576 < (dec62 l).1) : decF l = ([], 0, 5) := by unfold decF; rw [if_neg h, if_neg h2, if_pos h3]

theorem decF_4 {l : List UInt8} (h : ¬ isOpen l) (h2 : (dec62 l).2 ≠ 0) (h3 : ¬ 1048576 < (dec62 l).1) (h4 : l.length < (dec62 l).2 + 4 + (dec62 l).1) : decF l = ([], 0, 2) := by
 unfold decF; rw [if_neg h, if_neg h2, if_neg h3, if_pos h4]

theorem decF_5 {l : List UInt8} (h : ¬ isOpen l) (h2 : (dec62 l).2 ≠ 0) (h3 : ¬ 1048576 < (dec62 l).1) (h4 : ¬ l.length < (dec62 l).2 + 4 + (dec62 l).1)
   (h5 : Lib.leNat ((l.drop ((dec62 l).2 + (dec62 l).1)).take 4) ≠ crcMore 0 (l.take ((dec62 l).2 + (dec62 l).1))) : decF l = ([], 0, 4) := by
 unfold decF; rw [if_neg h, if_neg h2, if_neg h3, if_neg h4, if_pos h5]

theorem decF_6 {l : List UInt8} (h : ¬ isOpen l) (h2 : (dec62 l).2 ≠ 0) (h3 : ¬ 1048576 < (dec62 l).1) (h4 : ¬ l.length < (dec62 l).2 + 4 + (dec62 l).1)
   (h5 : Lib.leNat ((l.drop ((dec62 l).2 + (dec62 l).1)).take 4) = crcMore 0 (l.take ((dec62 l).2 + (dec62 l).1))) : decF l = ((l.drop (dec62 l).2).take (dec62 l).1, (dec62 l).2 + 4 + (dec62 l).1, 0) := by
 unfold decF; rw [if_neg h, if_neg h2, if_neg h3, if_neg h4, if_neg (by rw [h5]; simp)]

theorem dec62_nine (l : List UInt8) : (dec62 l).2 <= 9 := by
 rcases dec62_cases l with h | ⟨h1, h2, h3, h4⟩
 · rw [h]; decide
 · have h5 : (Lib.uvarint (dec62 l).1).length <= 9 := Lib.uvarint_length 8 _ (Nat.lt_of_lt_of_le h1 (by decide))
   rw [<- h4, List.length_take] at h5
   omega

def Decoded (w : World) (l : List UInt8) (e : Ending) (w' : World) : Prop :=
 ∃ v', e = .returned (.tuple #[v', .int .i64 ((decF l).2.1 : Nat), .int .i64 ((decF l).2.2 : Nat)]) ∧ Own w' w.heap.size v' (decF l).1 ∧ Below w.heap.size w w'

theorem Decoded.refused {w : World} {l : List UInt8} {c : Nat} (h : decF l = ([], 0, c)) : Decoded w l (.returned (.tuple #[.slice none 0 0, .int .i64 0, .int .i64 (c : Int)])) w := by
 refine ⟨.slice none 0 0, ?_, ?_, Below.refl _ _⟩
 · rw [h]; rfl
 · rw [h]; exact Own.nil _ _

def Upto (l : List UInt8) (A : Nat) (L : List (List UInt8)) : Prop :=
 wholeF l = (L ++ (wholeF (l.drop A)).1, A + (wholeF (l.drop A)).2.1, (wholeF (l.drop A)).2.2) ∧ 5 * L.length <= A ∧ A <= l.length

theorem Upto.start (l : List UInt8) : Upto l 0 [] := ⟨by simp, by simp, by omega⟩

theorem Upto.stop {l : List UInt8} {A : Nat} {L : List (List UInt8)} (h : Upto l A L) (hA : A < l.length) (he : (decF (l.drop A)).2.2 ≠ 0) : wholeF l = (L, A, (decF (l.drop A)).2.2) := by
 have hne : l.drop A ≠ [] := fun e => by
   have := congrArg List.length e
   rw [List.length_drop, List.length_nil] at this
   omega
 rw [h.1, wholeF_stop hne he]
 simp

theorem Upto.whole {l : List UInt8} {A : Nat} {L : List (List UInt8)} (h : Upto l A L) (hA : ¬ A < l.length) : wholeF l = (L, A, 0) := by
 have e : l.drop A = [] := List.drop_of_length_le (by omega)
 rw [h.1, e, wholeF_nil]
 simp

theorem Upto.step {l : List UInt8} {A : Nat} {L : List (List UInt8)} (h : Upto l A L) (hA : A < l.length) (he : (decF (l.drop A)).2.2 = 0) : Upto l (A + (decF (l.drop A)).2.1) (L ++ [(decF (l.drop A)).1]) := by
 have hne : l.drop A ≠ [] := fun e => by
   have := congrArg List.length e
   rw [List.length_drop, List.length_nil] at this
   omega
 have h5 := decF_five he
 have hle := decF_le (l.drop A)
 rw [List.length_drop] at hle
 refine ⟨?_, ?_, by omega⟩
 · rw [h.1, wholeF_step hne he, List.drop_drop]
   simp [Nat.add_assoc]
 · have := h.2.1
   simp
   omega

def allF (l : List UInt8) : List (List UInt8) × Nat := if (wholeF l).2.2 = 0 then ((wholeF l).1, 0) else ([], (wholeF l).2.2)

theorem run_append_rdg (w : World) (ty : TypeId) (B : Nat) (v : Value) (l0 : List UInt8) (hown : Own w B v l0) (vx : Value) (l : List UInt8) (hr : Rd w vx l)
   (hlim : l0.length + l.length <= 70368744177664) (hbase : B <= w.heap.size) :
   ∃ v' w', (Builtin.append_ #[53, 53] ty #[v, vx]).run Tryz.prog w = .ok v' w' ∧ Own w' B v' (l0 ++ l) ∧ w.grownBy w' v.ownBlock := by
 obtain ⟨i0, hi, hz0, hz1, hz2⟩ := info_parts info8
 obtain ⟨ao, cap, rfl, hlc, hcm, hn0, hao⟩ := hr
 cases ao with
 | none =>
   have hc := hn0 rfl
   subst hc
   have hl : l = [] := List.eq_nil_of_length_eq_zero (by omega)
   subst hl
   have hrun := run_append_owned_none (P := Tryz.prog) w B 53 ty 5 i0 1 Tryz.underlying53 hi v l0.length (Lib.byteCells l0) hown
   exact ⟨v, w, hrun, by rw [List.append_nil]; exact hown, ⟨rfl, rfl, rfl, Nat.le_refl _, fun _ _ _ => rfl⟩⟩
 | some a =>
   obtain ⟨v', w', hrun, ho, hg, _⟩ := run_append_own (P := Tryz.prog) w B 53 ty 5 i0 (.int .u8 0) 1 1 Tryz.underlying53 hi hz0 hz1 hz2 rfl (by decide) v l0.length (Lib.byteCells l0) hown a l.length cap (Lib.byteCells l)
     (by rw [byteCells_length, Nat.mul_one]) (Rd.cells hao a rfl) (byteCells_one l) (by unfold maxLen; omega) (by omega) hbase
   exact ⟨v', w', hrun, Own.mk' ho (by simp) (by simp [Lib.byteCells]), hg⟩

theorem wpList_append_rdg (w : World) {ops : Array Oper} {rest : List Oper} {o : Oper} {a : Act} {Q : Exit -> Act -> World -> Prop} (hgd : o.guard = none) (s x : Operand)
   (ho : o.op = .call { callee := .builtin .append, args := #[s, x], argTypes := #[53, 53] })
   (B : Nat) (v : Value) (l0 : List UInt8) (hs : a.eval s = v) (hown : Own w B v l0) (vx : Value) (l : List UInt8) (hx : a.eval x = vx) (hr : Rd w vx l)
   (hlim : l0.length + l.length <= 70368744177664) (hbase : B <= w.heap.size)
   (h : ∀ v' w', Own w' B v' (l0 ++ l) -> w.grownBy w' v.ownBlock -> wpList Tryz.prog ops Q rest (a.put o.dst v') w') : wpList Tryz.prog ops Q (o :: rest) a w :=
 wpList_plain hgd fun _ hK => by
   obtain ⟨v', w', hrun, h2, h3⟩ := run_append_rdg w o.type B v l0 hown vx l hr hlim hbase
   unfold Oper.wp execOp
   simp only [ho, resolve, invoke, builtin, Sem.run_bind, Sem.run_pure, Result.andThen_ok, List.map_toArray, List.map_cons, List.map_nil, hs, hx, hrun]
   exact hK _ _ (h v' w' h2 h3)

open Go.RowKit Go.ChangeShapes

theorem elem_rows : Tryz.prog.elem 146 = 53 := by kernel_rfl

theorem size_bytes (w : World) : (sizeOf 53).run Tryz.prog w = .ok 1 w := by
 obtain ⟨i0, hi, _, hz1, _⟩ := info_parts info_bytes
 simp [sizeOf, typeInfo, hi, hz1]

theorem under_rows : Tryz.prog.underlying 146 = some (.slice (Tryz.prog.elem 146)) := by rw [elem_rows]; exact Tryz.underlying146

theorem RdR.mid {w : World} {ao : Option Addr} {n cap : Nat} {l : List Rec} (h : RdR w (.slice ao n cap) l) (i j m : Nat) (hij : i <= j) (hj : j <= l.length) (hm : j <= m) (hmc : m <= cap) : RdR w (sliced ao i j m 7) ((l.drop i).take (j - i)) := by
 obtain ⟨ao', cap', hv, h1, h2, h3, hi, h4⟩ := h
 simp only [Value.slice.injEq] at hv
 obtain ⟨rfl, rfl, rfl⟩ := hv
 have hlen : ((l.drop i).take (j - i)).length = j - i := by simp; omega
 have hi' : ∀ n ∈ (l.drop i).take (j - i), RecOk n := fun n hn => hi n (List.mem_of_mem_drop (List.mem_of_mem_take hn))
 unfold sliced
 by_cases hmi : m = i
 · rw [if_pos hmi]
   have e : j - i = 0 := by omega
   refine ⟨ao, m - i, by rw [hlen], by omega, by omega, fun hn => by have := h3 hn; omega, hi', .inl ?_⟩
   rw [e]
   simp
 · rw [if_neg hmi]
   refine ⟨ao.map (·.add (i * 7)), m - i, by rw [hlen], by omega, by omega, fun hn => ?_, hi', ?_⟩
   · have hn' : ao = none := by simpa using hn
     have := h3 hn'
     omega
   · rcases h4 with h4 | ⟨b, off, h5, h6⟩
     · exact .inl (by rw [h4]; simp)
     · refine .inr ⟨b, off + i * 7, ?_, fun k hk => ?_⟩
       · rw [h5, Option.map_some, Addr.add_lit]
       · rw [hlen] at hk
         have h7 := h6 (i + k) (by omega)
         have e1 : off + i * 7 + k * 7 = off + (i + k) * 7 := by omega
         have e2 : ((l.drop i).take (j - i)).getD k zeroR = l.getD (i + k) zeroR := by simp [List.getD, hk]
         rw [e1, e2]
         exact h7

theorem RdL.mid {w : World} {ao : Option Addr} {n cap : Nat} {l : List (List UInt8)} (h : RdL w (.slice ao n cap) l) (i j m : Nat) (hij : i <= j) (hj : j <= l.length) (hm : j <= m) (hmc : m <= cap) : RdL w (sliced ao i j m 1) ((l.drop i).take (j - i)) := by
 obtain ⟨ao', cap', hv, h1, h2, h3, h4⟩ := h
 simp only [Value.slice.injEq] at hv
 obtain ⟨rfl, rfl, rfl⟩ := hv
 have hlen : ((l.drop i).take (j - i)).length = j - i := by simp; omega
 unfold sliced
 by_cases hmi : m = i
 · rw [if_pos hmi]
   have e : j - i = 0 := by omega
   refine ⟨ao, m - i, by rw [hlen], by omega, by omega, fun hn => by have := h3 hn; omega, .inl ?_⟩
   rw [e]
   simp
 · rw [if_neg hmi]
   refine ⟨ao.map (·.add (i * 1)), m - i, by rw [hlen], by omega, by omega, fun hn => ?_, ?_⟩
   · have hn' : ao = none := by simpa using hn
     have := h3 hn'
     omega
   · rcases h4 with h4 | ⟨b, off, h5, h6⟩
     · exact .inl (by rw [h4]; simp)
     · refine .inr ⟨b, off + i, ?_, fun k hk => ?_⟩
       · rw [h5, Nat.mul_one, Option.map_some, Addr.add_lit]
       · rw [hlen] at hk
         obtain ⟨x, hx, hxr⟩ := h6 (i + k) (by omega)
         refine ⟨x, by rw [Nat.add_assoc]; exact hx, ?_⟩
         have e2 : ((l.drop i).take (j - i)).getD k [] = l.getD (i + k) [] := by simp [List.getD, hk]
         rw [e2]
         exact hxr

theorem RdR.cells {w : World} {ao : Option Addr} {l : List Rec} (h : l = [] ∨ ∃ b off, ao = some ⟨b, off, none⟩ ∧ ∀ j, j < l.length -> RecAt w b (off + j * 7) (l.getD j zeroR)) (a : Addr) (ha : ao = some a) :
   ∀ j u, (recCells l)[j]? = some u -> w.cell? (a.add j) = some u := by
 intro j u hu
 rcases h with h | ⟨b, off, h5, h6⟩
 · rw [h] at hu
   simp [recCells] at hu
 · rw [h5] at ha
   injection ha with ha
   subst ha
   have hj : j < (recCells l).length := (List.getElem?_eq_some_iff.1 hu).1
   rw [recCells_length] at hj
   have hdiv : j = j / 7 * 7 + j % 7 := by omega
   have hg := recCells_get l (j / 7) (j % 7) (by omega) (by omega)
   rw [<- hdiv, hu] at hg
   obtain ⟨c0, c1, c2, c3, c4, c5, c6⟩ := h6 (j / 7) (by omega)
   have e : ∀ k, k < 7 -> off + (j / 7 * 7 + k) = off + j / 7 * 7 + k := fun k _ => by omega
   rw [Addr.add_lit, hdiv, e (j % 7) (by omega)]
   have hk : j % 7 = 0 ∨ j % 7 = 1 ∨ j % 7 = 2 ∨ j % 7 = 3 ∨ j % 7 = 4 ∨ j % 7 = 5 ∨ j % 7 = 6 := by omega
   rcases hk with hk | hk | hk | hk | hk | hk | hk
   all_goals
     rw [hk] at hg ⊢
     rw [hg]
     first | exact c0 | exact c1 | exact c2 | exact c3 | exact c4 | exact c5 | exact c6

def Bsg (w : World) (b : Nat) (cs : Array Value) : Prop := w.heap[b]? = some (.cells cs 219 (0, 0))

theorem Bsg.lt {w : World} {b : Nat} {cs : Array Value} (h : Bsg w b cs) : b < w.heap.size := (Array.getElem?_eq_some_iff.1 h).1

theorem Bsg.below {w w' : World} {b B : Nat} {cs : Array Value} (h : Bsg w b cs) (hb : Below B w w') (hB : w.heap.size <= B) : Bsg w' b cs := (hb.block b (by have := h.lt; omega)).trans h

theorem Bsg.cell {w : World} {b : Nat} {cs : Array Value} (h : Bsg w b cs) (j : Nat) : w.cell? ⟨b, j, none⟩ = cs[j]? ∧ w.frozen? ⟨b, j, none⟩ = false := ⟨cell_of_row w b j _ _ _ h, frozen_of_row w b j _ _ h⟩

def pcC (p : Pce) : Array Value := #[.int .i64 p.name, .int .i64 p.first, .int .i64 p.stop]

def pcCells : List Pce -> List Value
 | [] => []
 | c :: l => (pcC c).toList ++ pcCells l

theorem pcCells_length : ∀ l : List Pce, (pcCells l).length = l.length * 3
 | [] => rfl
 | c :: l => by
   rw [pcCells, List.length_append, pcCells_length l, List.length_cons]
   show 3 + _ = _
   omega

theorem pcCells_app : ∀ a b : List Pce, pcCells (a ++ b) = pcCells a ++ pcCells b
 | [], _ => rfl
 | c :: l, b => by rw [List.cons_append, pcCells, pcCells_app l b, pcCells, List.append_assoc]

theorem pcCells_get : ∀ (l : List Pce) (j k : Nat), j < l.length -> k < 3 -> (pcCells l)[j * 3 + k]? = (pcC (l.getD j zeroP))[k]?
 | c :: l, 0, k, _, hk => by
   rw [pcCells, Nat.zero_mul, Nat.zero_add, List.getElem?_append_left (by show k < 3; exact hk)]
   simp
 | c :: l, j + 1, k, hj, hk => by
   have e : (j + 1) * 3 + k = (pcC c).toList.length + (j * 3 + k) := by show _ = 3 + _; omega
   rw [pcCells, e, List.getElem?_append_right (by omega), Nat.add_sub_cancel_left, pcCells_get l j k (by simpa using hj) hk]
   rfl

theorem pcCells_one (l : List Pce) : ∀ u ∈ pcCells l, u.oneCell' = true := by
 induction l with
 | nil => intro u hu; cases hu
 | cons c l ih =>
   intro u hu
   rw [pcCells] at hu
   rcases List.mem_append.1 hu with h | h
   · simp [pcC] at h
     rcases h with rfl | rfl | rfl <;> rfl
   · exact ih u h

def snC (x : Snap × Value × Value) : Array Value := #[.int .i64 x.1.idx, .int .i64 x.1.st.kind, x.2.1, .bool x.1.st.shut, .int .i64 x.1.st.eng, x.2.2]

def snV (x : Snap × Value × Value) : Value := .agg (snC x)

def snCells : List (Snap × Value × Value) -> List Value
 | [] => []
 | c :: l => (snC c).toList ++ snCells l

theorem snCells_length : ∀ l : List (Snap × Value × Value), (snCells l).length = l.length * 6
 | [] => rfl
 | c :: l => by
   rw [snCells, List.length_append, snCells_length l, List.length_cons]
   show 6 + _ = _
   omega

theorem snCells_app : ∀ a b : List (Snap × Value × Value), snCells (a ++ b) = snCells a ++ snCells b
 | [], _ => rfl
 | c :: l, b => by rw [List.cons_append, snCells, snCells_app l b, snCells, List.append_assoc]

theorem snCells_get : ∀ (l : List (Snap × Value × Value)) (j k : Nat) (hj : j < l.length), k < 6 -> (snCells l)[j * 6 + k]? = (snC l[j])[k]?
 | c :: l, 0, k, _, hk => by
   rw [snCells, Nat.zero_mul, Nat.zero_add, List.getElem?_append_left (by show k < 6; exact hk)]
   simp
 | c :: l, j + 1, k, hj, hk => by
   have e : (j + 1) * 6 + k = (snC c).toList.length + (j * 6 + k) := by show _ = 6 + _; omega
   rw [snCells, e, List.getElem?_append_right (by omega), Nat.add_sub_cancel_left, snCells_get l j k (by simpa using hj) hk]
   rfl

structure SnR (w : World) (x : Snap × Value × Value) : Prop where
 l : RdI w x.2.1 x.1.st.L
 t : RdE w x.2.2 x.1.tab
 k : I64 x.1.st.kind
 e : I64 x.1.st.eng
 i : I64 x.1.idx

theorem SnR.snV {w : World} {x : Snap × Value × Value} (h : SnR w x) : SnV w (snV x) x.1 := ⟨x.2.1, x.2.2, rfl, h.l, h.k, h.e, h.t, h.i⟩

theorem SnR.below {w w' : World} {x : Snap × Value × Value} (h : SnR w x) {B : Nat} (hb : Below B w w') (hB : w.heap.size <= B) : SnR w' x := ⟨h.l.below hb hB, h.t.below hb hB, h.k, h.e, h.i⟩

def SnIn (I : Nat -> Prop) (x : Snap × Value × Value) : Prop := (x.1.st.L = [] ∨ ∀ g, x.2.1.ownBlock = some g -> I g) ∧ (x.1.tab = [] ∨ ∀ g, x.2.2.ownBlock = some g -> I g)

theorem SnIn.mono {I J : Nat -> Prop} {x : Snap × Value × Value} (h : SnIn I x) (hI : ∀ k, I k -> J k) : SnIn J x := by
 obtain ⟨h1, h2⟩ := h
 exact ⟨h1.imp id fun h g hg => hI g (h g hg), h2.imp id fun h g hg => hI g (h g hg)⟩

theorem RdE.keepS {w w' : World} {v : Value} {l : List Ent} (h : RdE w v l) (hk : l = [] ∨ ∀ g, v.ownBlock = some g -> w'.heap[g]? = w.heap[g]?) : RdE w' v l := by
 obtain ⟨ao, cap, rfl, h2, h3, hn, hw, h4⟩ := h
 refine ⟨ao, cap, rfl, h2, h3, hn, hw, ?_⟩
 rcases h4 with h4 | ⟨b, off, rfl, h6⟩
 · exact .inl h4
 · rcases hk with hk | hk
   · exact .inl hk
   · exact .inr ⟨b, off, rfl, fun j hj => (h6 j hj).keep (hk b rfl)⟩

theorem RdI.keepS {w w' : World} {v : Value} {l : List Int} (h : RdI w v l) (hk : l = [] ∨ ∀ g, v.ownBlock = some g -> w'.heap[g]? = w.heap[g]?) : RdI w' v l := by
 obtain ⟨ao, cap, rfl, h2, h3, hn, hw, h4⟩ := h
 refine ⟨ao, cap, rfl, h2, h3, hn, hw, ?_⟩
 rcases h4 with h4 | ⟨b, off, rfl, h6⟩
 · exact .inl h4
 · rcases hk with hk | hk
   · exact .inl hk
   · exact .inr ⟨b, off, rfl, fun j hj => (World.cell?_of_block (a := ⟨b, off + j, none⟩) (hk b rfl)).trans (h6 j hj)⟩

theorem SnR.keep {w w' : World} {I : Nat -> Prop} {x : Snap × Value × Value} (h : SnR w x) (hi : SnIn I x) (hk : ∀ g, I g -> w'.heap[g]? = w.heap[g]?) : SnR w' x :=
 ⟨h.l.keepS (hi.1.imp id fun h g hg => hk g (h g hg)), h.t.keepS (hi.2.imp id fun h g hg => hk g (h g hg)), h.k, h.e, h.i⟩

structure SLay where
 rv : Value
 pv : Value
 bv : Value
 nl : Value
 nt : Value
 bs : List (Snap × Value × Value)

def SLay.nx (L : SLay) (s : Sto) : Snap × Value × Value := (s.now, L.nl, L.nt)

def stC (pd : Nat) (L : SLay) (s : Sto) : Array Value :=
 #[ptr pd, .int .i64 s.log.first, L.rv, L.pv, L.bv, .int .i64 s.now.idx, .int .i64 s.now.st.kind, L.nl, .bool s.now.st.shut, .int .i64 s.now.st.eng, L.nt, .int .i64 s.synced, .int .i64 s.cur, .bool s.nw]

structure StoL (M I : Nat -> Prop) (w : World) (p pd : Nat) (L : SLay) (s : Sto) : Prop where
 head : Bk 79 w p (stC pd L s)
 recs : OwnR w 0 L.rv s.log.recs
 pcs : w.ownsRow 0 120 3 L.pv s.log.pcs.length (pcCells s.log.pcs)
 bases : w.ownsRow 0 41 6 L.bv L.bs.length (snCells L.bs)
 bsEq : L.bs.map Prod.fst = s.bases
 now : SnR w (L.nx s)
 base : ∀ x ∈ L.bs, SnR w x
 mh : M p
 mr : ∀ g, L.rv.ownBlock = some g -> M g
 mp : ∀ g, L.pv.ownBlock = some g -> M g
 mb : ∀ g, L.bv.ownBlock = some g -> M g
 inow : SnIn I (L.nx s)
 ibase : ∀ x ∈ L.bs, SnIn I x
 ltM : ∀ k, M k -> k < w.heap.size
 ltI : ∀ k, I k -> k < w.heap.size
 dis : ∀ k, M k -> ¬ I k

theorem StoL.keep {M I : Nat -> Prop} {w w' : World} {p pd : Nat} {L : SLay} {s : Sto} (h : StoL M I w p pd L s) (hk : ∀ k, (M k ∨ I k) -> w'.heap[k]? = w.heap[k]?) (hs : w.heap.size <= w'.heap.size) : StoL M I w' p pd L s :=
 ⟨h.head.keep (hk p (.inl h.mh)), ownsRow_keep h.recs fun g hg => hk g (.inl (h.mr g hg)), ownsRow_keep h.pcs fun g hg => hk g (.inl (h.mp g hg)), ownsRow_keep h.bases fun g hg => hk g (.inl (h.mb g hg)), h.bsEq,
   h.now.keep h.inow fun g hg => hk g (.inr hg), fun x hx => (h.base x hx).keep (h.ibase x hx) fun g hg => hk g (.inr hg), h.mh, h.mr, h.mp, h.mb, h.inow, h.ibase, fun k hm => Nat.lt_of_lt_of_le (h.ltM k hm) hs, fun k hm => Nat.lt_of_lt_of_le (h.ltI k hm) hs, h.dis⟩

theorem StoL.only {M I G : Nat -> Prop} {w w' : World} {p pd : Nat} {L : SLay} {s : Sto} (h : StoL M I w p pd L s) (ho : Only G w w') (hM : ∀ k, M k -> ¬ G k) (hI : ∀ k, I k -> ¬ G k) : StoL M I w' p pd L s :=
 h.keep (fun k hk => by
   rcases hk with hk | hk
   · exact ho.block k (h.ltM k hk) (hM k hk)
   · exact ho.block k (h.ltI k hk) (hI k hk)) ho.size

theorem StoL.below {M I : Nat -> Prop} {w w' : World} {p pd : Nat} {L : SLay} {s : Sto} (h : StoL M I w p pd L s) (hb : Below w.heap.size w w') : StoL M I w' p pd L s :=
 h.keep (fun k hk => hb.block k (by
   rcases hk with hk | hk
   · exact h.ltM k hk
   · exact h.ltI k hk)) hb.size

theorem StoL.cs {M I : Nat -> Prop} {w : World} {p pd : Nat} {L : SLay} {s : Sto} (h : StoL M I w p pd L s) :
   w.cell? ⟨p, 0, none⟩ = some (ptr pd) ∧ w.cell? ⟨p, 1, none⟩ = some (.int .i64 s.log.first) ∧ w.cell? ⟨p, 2, none⟩ = some L.rv ∧ w.cell? ⟨p, 3, none⟩ = some L.pv ∧ w.cell? ⟨p, 4, none⟩ = some L.bv ∧
   (w.cell? ⟨p, 5, none⟩ = some (.int .i64 s.now.idx) ∧ w.cell? ⟨p, 6, none⟩ = some (.int .i64 s.now.st.kind) ∧ w.cell? ⟨p, 7, none⟩ = some L.nl ∧ w.cell? ⟨p, 8, none⟩ = some (.bool s.now.st.shut) ∧ w.cell? ⟨p, 9, none⟩ = some (.int .i64 s.now.st.eng) ∧ w.cell? ⟨p, 10, none⟩ = some L.nt) ∧
   w.cell? ⟨p, 11, none⟩ = some (.int .i64 s.synced) ∧ w.cell? ⟨p, 12, none⟩ = some (.int .i64 s.cur) ∧ w.cell? ⟨p, 13, none⟩ = some (.bool s.nw) :=
 ⟨(h.head.cell 0 rfl).1, (h.head.cell 1 rfl).1, (h.head.cell 2 rfl).1, (h.head.cell 3 rfl).1, (h.head.cell 4 rfl).1, ⟨(h.head.cell 5 rfl).1, (h.head.cell 6 rfl).1, (h.head.cell 7 rfl).1, (h.head.cell 8 rfl).1, (h.head.cell 9 rfl).1, (h.head.cell 10 rfl).1⟩, (h.head.cell 11 rfl).1, (h.head.cell 12 rfl).1, (h.head.cell 13 rfl).1⟩

theorem StoL.fz {M I : Nat -> Prop} {w : World} {p pd : Nat} {L : SLay} {s : Sto} (h : StoL M I w p pd L s) (j : Nat) : w.frozen? ⟨p, j, none⟩ = false := frozen_of_row w p j _ _ h.head

def SD (K : Nat -> Prop) (w : World) (pd p : Nat) (s : Sto) (d : Dk) (N T : Nat) : Prop :=
 ∃ F M I L, Dsk F w pd d N T ∧ StoL M I w p pd L s ∧ (∀ k, F k -> ¬ K k) ∧ (∀ k, M k -> ¬ K k) ∧ (∀ k, I k -> ¬ K k) ∧ (∀ k, F k -> ¬ M k) ∧ (∀ k, F k -> ¬ I k)

def SDid (K : Nat -> Prop) (w : World) (pd p : Nat) (r : SDk × Int) (N T : Nat) (e : Ending) (w' : World) : Prop :=
 e = .returned (.int .i64 r.2) ∧ SD K w' pd p r.1.1 r.1.2 N T ∧ Only (fun k => ¬ K k) w w'

theorem SD.below {K : Nat -> Prop} {w w' : World} {pd p : Nat} {s : Sto} {d : Dk} {N T : Nat} (h : SD K w pd p s d N T) (hb : Below w.heap.size w w') : SD K w' pd p s d N T := by
 obtain ⟨F, M, I, L, h1, h2, h3⟩ := h
 exact ⟨F, M, I, L, h1.below hb, h2.below hb, h3⟩

theorem SD.mono {K : Nat -> Prop} {w : World} {pd p : Nat} {s : Sto} {d : Dk} {N T N' T' : Nat} (h : SD K w pd p s d N T) (hN : N <= N') (hT : T <= T') : SD K w pd p s d N' T' := by
 obtain ⟨F, M, I, L, h1, h2, h3⟩ := h
 exact ⟨F, M, I, L, h1.mono hN hT, h2, h3⟩

theorem SD.less {K K' : Nat -> Prop} {w : World} {pd p : Nat} {s : Sto} {d : Dk} {N T : Nat} (h : SD K w pd p s d N T) (hK : ∀ k, K' k -> K k) : SD K' w pd p s d N T := by
 obtain ⟨F, M, I, L, h1, h2, h3, h4, h5, h6⟩ := h
 exact ⟨F, M, I, L, h1, h2, fun k hk hh => h3 k hk (hK k hh), fun k hk hh => h4 k hk (hK k hh), fun k hk hh => h5 k hk (hK k hh), h6⟩

theorem SD.fresh {K : Nat -> Prop} {w w' : World} {pd p : Nat} {s : Sto} {d : Dk} {N T : Nat} (h : SD K w pd p s d N T) (hb : Below w.heap.size w w') : SD (fun k => K k ∨ (w.heap.size <= k ∧ k < w'.heap.size)) w' pd p s d N T := by
 obtain ⟨F, M, I, L, h1, h2, h3, h4, h5, h6⟩ := h
 refine ⟨F, M, I, L, h1.below hb, h2.below hb, fun k hk hh => ?_, fun k hk hh => ?_, fun k hk hh => ?_, h6⟩
 · rcases hh with hh | hh
   · exact h3 k hk hh
   · have := h1.ltF k hk
     omega
 · rcases hh with hh | hh
   · exact h4 k hk hh
   · have := h2.ltM k hk
     omega
 · rcases hh with hh | hh
   · exact h5 k hk hh
   · have := h2.ltI k hk
     omega

theorem SD.disk {K : Nat -> Prop} {w : World} {pd p : Nat} {s : Sto} {d d' : Dk} {N T N' T' : Nat} {f : Nat} {args : Array Value} {c : Int} (h : SD K w pd p s d N T) (hK : ∀ k, K k -> k < w.heap.size)
   (hc : ∀ F, Dsk F w pd d N T -> (∀ k, F k -> ¬ K k) -> Calls Tryz.prog f args w fun e w' => DidF F w pd d' c N' T' e w') : Calls Tryz.prog f args w fun e w' => e = .returned (.int .i64 c) ∧ SD K w' pd p s d' N' T' ∧ Only (fun k => ¬ K k) w w' := by
 obtain ⟨F, M, I, L, h1, h2, h3, h4, h5, h6, h7⟩ := h
 refine (hc F h1 h3).mono ?_
 rintro e w' ⟨he, F', hd, ho, hF⟩
 refine ⟨he, ⟨F', M, I, L, hd, h2.only ho (fun k hk hf => h6 k hf hk) (fun k hk hf => h7 k hf hk), fun k hk hh => ?_, h4, h5, fun k hk hh => ?_, fun k hk hh => ?_⟩, ho.mono h3⟩
 · rcases hF k hk with hx | hx
   · exact h3 k hx hh
   · have := hK k hh
     omega
 · rcases hF k hk with hx | hx
   · exact h6 k hx hh
   · have := h2.ltM k hh
     omega
 · rcases hF k hk with hx | hx
   · exact h7 k hx hh
   · have := h2.ltI k hh
     omega

theorem SD.own {K F M I M' I' : Nat -> Prop} {w w' : World} {pd p : Nat} {s' : Sto} {d : Dk} {N T : Nat} {L' : SLay} (hK : ∀ k, K k -> k < w.heap.size) (h1 : Dsk F w pd d N T) (h3 : ∀ k, F k -> ¬ K k) (h4 : ∀ k, M k -> ¬ K k) (h5 : ∀ k, I k -> ¬ K k) (h6 : ∀ k, F k -> ¬ M k) (h7 : ∀ k, F k -> ¬ I k)
   (ho : Only M w w') (hs : StoL M' I' w' p pd L' s') (hM : ∀ k, M' k -> M k ∨ w.heap.size <= k) (hI : ∀ k, I' k -> I k ∨ w.heap.size <= k) : SD K w' pd p s' d N T ∧ Only (fun k => ¬ K k) w w' := by
 refine ⟨⟨F, M', I', L', h1.only ho h6, hs, h3, fun k hk hh => ?_, fun k hk hh => ?_, fun k hk hh => ?_, fun k hk hh => ?_⟩, ho.mono h4⟩
 · rcases hM k hk with hx | hx
   · exact h4 k hx hh
   · have := hK k hh
     omega
 · rcases hI k hk with hx | hx
   · exact h5 k hx hh
   · have := hK k hh
     omega
 · rcases hM k hh with hx | hx
   · exact h6 k hk hx
   · have := h1.ltF k hk
     omega
 · rcases hI k hh with hx | hx
   · exact h7 k hk hx
   · have := h1.ltF k hk
     omega

theorem getD_memI {l : List Int} {j : Nat} (h : j < l.length) : l.getD j 0 ∈ l := by
 rw [show l.getD j 0 = l[j] by simp [List.getD, h]]
 exact List.getElem_mem h

def FoundI (p : Int -> Bool) (l : List Int) (k : Int) : Prop := (k = -1 ∧ ∀ j, j < l.length -> p (l.getD j 0) = false) ∨ ∃ i : Nat, k = (i : Int) ∧ i < l.length ∧ (∀ j, j < i -> p (l.getD j 0) = false) ∧ p (l.getD i 0) = true

set_option maxHeartbeats 2000000 in
theorem indexFuncI_any (g R : Nat) (p : Int -> Bool) (v : Value) (l : List Int) (w : World) (hr : RdI w v l)
   (eg : ∀ args W, (callFunc g args).run Tryz.prog W = .ok (.enter g args) W)
   (hp : ∀ W e, e ∈ l -> Below w.heap.size w W -> Calls Tryz.prog g #[.int .i64 e, .pointer (some ⟨R, 0, none⟩)] W fun x w' => x = .returned (.bool (p e)) ∧ Below W.heap.size W w') :
   Calls Tryz.prog 161 #[v, .func (.func g) #[] #[.pointer (some ⟨R, 0, none⟩)]] w fun x w' => ∃ k : Int, x = .returned (.int .i64 k) ∧ FoundI p l k ∧ Below w.heap.size w w' := by
 have HR := hide hr
 have HP := hide hp
 obtain ⟨va, vc, rfl, hlc, hcm, -, -, hao⟩ := hr
 have HAO := hide hao
 have hml : (l.length : Int) <= 9223372036854775807 := by unfold maxLen at hcm; omega
 clear hp hlc hcm hao
 go_enter Tryz.func161, Tryz.ntmps161
 go_wp2
 go_loopw [8] (fun vi wr => ∃ q : Nat, vi = .int .i64 (q : Int) ∧ q <= l.length ∧ Hid (∀ j, j < q -> p (l.getD j 0) = false) ∧ Hid (Below w.heap.size w wr)) (fun vi _ => l.length - (intOf vi).toNat)
 case atStart => exact ⟨0, rfl, Nat.zero_le _, hide (fun j hj => absurd hj (Nat.not_lt_zero _)), Below.refl _ _⟩
 case round =>
   obtain ⟨q, rfl, hq, hN, hB⟩ := hrel
   by_cases hlt : q < l.length
   case neg =>
     obtain rfl : q = l.length := by omega
     go_wp2
     go_ret
     exact ⟨-1, rfl, .inl ⟨rfl, hN.out⟩, hB.out⟩
   have hqi : (q : Int) < (l.length : Int) := by omega
   rcases HAO.out with h0 | ⟨b, off, rfl, hc⟩
   · rw [h0] at hlt; simp at hlt
   have c0 : wr.cell? ⟨b, off + q, none⟩ = some (.int .i64 (l.getD q 0)) := (World.cell?_of_block (a := ⟨b, off + q, none⟩) (hB.out.block b (World.block_lt_of_cell? w ⟨b, off + q, none⟩ (hc q hlt)))).trans (hc q hlt)
   have HC := hide (HP.out wr (l.getD q 0) (getD_memI hlt) hB.out)
   have HX : Hid (∀ j, j < q + 1 -> j = q ∨ j < q) := hide (fun j hj => by omega)
   obtain ⟨e, he⟩ : ∃ e, e = l.getD q 0 := ⟨_, rfl⟩
   rw [<- he] at HC c0
   have HE := hide he
   obtain ⟨pe, hpe⟩ : ∃ pe, pe = p e := ⟨_, rfl⟩
   rw [<- hpe] at HC
   have HPE := hide hpe
   clear he hc HP HAO HR hpe
   go_wp2_with fail
   refine HC.out.mono ?_
   rintro x W1 ⟨rfl, hb1⟩
   have HB1 := hide (hB.out.trans (hb1.mono hB.out.size))
   clear hb1 HC
   cases pe with
   | true =>
     go_wp2
     go_ret
     exact ⟨(q : Int), rfl, .inr ⟨q, rfl, hlt, hN.out, by rw [<- HE.out]; exact HPE.out.symm⟩, HB1.out⟩
   | false =>
     go_wp2
     go_roundw
     case rel => exact ⟨q + 1, by go_num, by omega, hide (fun j hj => by
       rcases HX.out j hj with h | h
       · rw [h, <- HE.out]; exact HPE.out.symm
       · exact hN.out j h), HB1⟩
     case measure => simp [intOf]; omega

theorem filter_nextI (p : Int -> Bool) (l : List Int) (j : Nat) (hj : j < l.length) : (l.take (j + 1)).filter (fun e => !p e) = (l.take j).filter (fun e => !p e) ++ if p (l.getD j 0) = true then [] else [l.getD j 0] := by
 have e1 : l.take (j + 1) = l.take j ++ [l.getD j 0] := by
   rw [List.take_add_one, List.getElem?_eq_getElem hj]
   simp [List.getD, hj]
 rw [e1, List.filter_append]
 congr 1
 generalize l.getD j 0 = x
 cases h : p x <;> simp [h]

theorem filter_noneI (p : Int -> Bool) (l : List Int) (i : Nat) (hi : i <= l.length) (h : ∀ j, j < i -> p (l.getD j 0) = false) : (l.take i).filter (fun e => !p e) = l.take i := by
 rw [List.filter_eq_self]
 intro e he
 obtain ⟨j, hj, rfl⟩ := List.getElem_of_mem he
 rw [List.length_take] at hj
 have := h j (by omega)
 rw [List.getElem_take]
 simp only [List.getD, List.getElem?_eq_getElem (show j < l.length by omega), Option.getD_some] at this
 simp [this]

def DelI (p : Int -> Bool) (l L : List Int) (i j : Nat) : Prop := L.length = l.length ∧ L.take i = (l.take j).filter (fun e => !p e) ∧ L.drop j = l.drop j ∧ i < j

theorem DelI.start {p : Int -> Bool} {l : List Int} {i : Nat} (hi : i < l.length) (h : ∀ j, j < i -> p (l.getD j 0) = false) (hp : p (l.getD i 0) = true) : DelI p l l i (i + 1) := by
 refine ⟨rfl, ?_, rfl, Nat.lt_succ_self _⟩
 rw [filter_nextI p l i hi, if_pos hp, List.append_nil, filter_noneI p l i (by omega) h]

theorem DelI.at {p : Int -> Bool} {l L : List Int} {i j : Nat} (h : DelI p l L i j) : L.getD j 0 = l.getD j 0 := by
 obtain ⟨h1, h2, h3, h4⟩ := h
 have e1 : (L.drop j).getD 0 0 = L.getD j 0 := by simp [List.getD]
 have e2 : (l.drop j).getD 0 0 = l.getD j 0 := by simp [List.getD]
 rw [<- e1, <- e2, h3]

theorem drop_nextI {L l : List Int} {j : Nat} (h : L.drop j = l.drop j) : L.drop (j + 1) = l.drop (j + 1) := by
 rw [<- List.drop_drop, <- List.drop_drop, h]

theorem DelI.skip {p : Int -> Bool} {l L : List Int} {i j : Nat} (h : DelI p l L i j) (hj : j < l.length) (hp : p (l.getD j 0) = true) : DelI p l L i (j + 1) := by
 obtain ⟨h1, h2, h3, h4⟩ := h
 refine ⟨h1, ?_, drop_nextI h3, by omega⟩
 rw [filter_nextI p l j hj, if_pos hp, List.append_nil, h2]

theorem DelI.keep {p : Int -> Bool} {l L : List Int} {i j : Nat} (h : DelI p l L i j) (hj : j < l.length) (hp : p (l.getD j 0) = false) : DelI p l (L.set i (l.getD j 0)) (i + 1) (j + 1) := by
 obtain ⟨h1, h2, h3, h4⟩ := h
 refine ⟨by rw [List.length_set, h1], ?_, ?_, by omega⟩
 · rw [filter_nextI p l j hj, if_neg (by rw [hp]; simp), <- h2, List.take_add_one, List.take_set_of_le (Nat.le_refl _)]
   congr 1
   rw [List.getElem?_set_self (by omega)]
   rfl
 · rw [List.drop_set_of_lt (by omega)]
   exact drop_nextI h3

theorem OwnI.cutClear {w : World} {B g n cap : Nat} {l : List Int} (h : OwnI w B (.slice (some ⟨g, 0, none⟩) n cap) l) (i : Nat) (hi : i <= l.length) (vs : List Value) : OwnI (w.setCells g i vs) B (.slice (some ⟨g, 0, none⟩) i cap) (l.take i) := by
 rcases h.row with ⟨h1, -⟩ | ⟨g', cap', cur, h1, hB, hlt, hg, hn, hm, hs, hc⟩
 · cases h1
 · injection h1 with h1 _ h3
   injection h1 with h1
   injection h1 with h1
   subst h1 h3
   have hgs := heap_setCells g _ vs i w cur hg
   refine OwnI.ofRowN (by rw [List.length_take]; omega) hB hgs (by rw [List.length_take]; omega) hm (by rw [layC_size]; exact hs) fun j hj => ?_
   rw [List.length_take] at hj
   rw [layC_get _ _ _ _ (by omega), if_neg (by omega), hc j (by omega)]
   simp [List.getD, show j < i by omega]

set_option maxHeartbeats 4000000 in
theorem deleteFuncI_any (g R : Nat) (p : Int -> Bool) (v : Value) (l : List Int) (B : Nat) (w : World) (ho : OwnI w B v l) (hI : ∀ e ∈ l, I64 e) (hBw : B <= w.heap.size) (hlim : l.length <= 1000000)
   (eg : ∀ args W, (callFunc g args).run Tryz.prog W = .ok (.enter g args) W)
   (hp : ∀ W e, e ∈ l -> Below B w W -> Calls Tryz.prog g #[.int .i64 e, .pointer (some ⟨R, 0, none⟩)] W fun x w' => x = .returned (.bool (p e)) ∧ Below W.heap.size W w') :
   Calls Tryz.prog 116 #[v, .func (.func g) #[] #[.pointer (some ⟨R, 0, none⟩)]] w fun x w' => ∃ v', x = .returned v' ∧ OwnI w' B v' (l.filter (fun e => !p e)) ∧ Below B w w' := by
 have HO := hide ho
 have HP := hide hp
 have HIX := hide (indexFuncI_any g R p v l w (ho.rd hI) eg (fun W e he h => hp W e he (h.mono hBw)))
 obtain ⟨va, vc, hv⟩ := ho.shape
 subst hv
 clear ho hp
 go_enter Tryz.func116, Tryz.ntmps116
 go_wp2_with fail
 refine HIX.out.mono ?_
 rintro x W0 ⟨k, rfl, hf, hb0⟩
 have HB0 := hide (hb0.mono hBw)
 have HO0 := hide (HO.out.below hb0 (Nat.le_refl _))
 clear HIX hb0 HO
 rcases hf with ⟨rfl, hf⟩ | ⟨i0, rfl, hi0, hf, hpi⟩
 · have HE : Hid (l.filter (fun e => !p e) = l) := hide (by
     have := filter_noneI p l l.length (Nat.le_refl _) hf
     rwa [List.take_length] at this)
   clear hf
   go_wp2
   go_ret
   exact ⟨_, rfl, by rw [HE.out]; exact HO0.out, HB0.out⟩
 have HD0 := hide (DelI.start hi0 hf hpi)
 clear hf hpi
 rcases HO0.out.row with ⟨-, h2⟩ | ⟨gr, cap, cur, h1, hBg, -, -, hlc, hcm, -, -⟩
 · rw [h2] at hi0; simp at hi0
 injection h1 with h1 _ h3
 subst h1 h3
 have hml : (l.length : Int) <= 1000000 := by omega
 clear cur hcm
 have ei : ((i0 : Int) == -1) = false := beq_eq_false_iff_ne.2 (by omega)
 go_wp2
 go_loopw [5, 6] (fun v5 v6 wr => ∃ (i j : Nat) (L : List Int), v5 = .int .i64 (i : Int) ∧ v6 = .int .i64 (j : Int) ∧ i < j ∧ j <= l.length ∧ Hid (OwnI wr B (.slice (some ⟨gr, 0, none⟩) l.length vc) L) ∧ Hid (DelI p l L i j) ∧ Hid (Below B w wr)) (fun _ v6 _ => l.length - (intOf v6).toNat)
 case atStart => exact ⟨i0, i0 + 1, l, rfl, by go_num, by omega, by omega, HO0, HD0, HB0⟩
 case round =>
   clear HO0 HD0 HB0 ei
   obtain ⟨i, j, L, rfl, rfl, hij, hjl, hO, hD, hB⟩ := hrel
   by_cases hlt : j < l.length
   case neg =>
     obtain rfl : j = l.length := by omega
     have hL : L.length = l.length := hD.out.1
     have HT : Hid (L.take i = l.filter (fun e => !p e)) := hide (by rw [hD.out.2.1, List.take_length])
     obtain ⟨g', cap', hv', -, hfz', -, -, -, -⟩ := hO.out.put i (by omega) 0
     injection hv' with e1 e2 e3
     clear e2
     injection e1 with e1
     injection e1 with e1
     subst e1 e3
     have HFZ : Hid (∀ k, k < l.length -> wr.frozen? ⟨gr, k, none⟩ = false ∧ (wr.cell? ⟨gr, k, none⟩).isSome = true) := hide (fun k hk => by
       obtain ⟨g2, cap2, hv2, hc2, hf2, -⟩ := hO.out.put k (by omega) 0
       injection hv2 with f1 _ _
       injection f1 with f1
       injection f1 with f1
       subst f1
       exact ⟨hf2, by rw [hc2]; rfl⟩)
     have HK : Hid (∀ ty, (Builtin.clear_ #[23] ty #[.slice (some ⟨gr, i, none⟩) (l.length - i) (vc - i)]).run Tryz.prog wr = .ok (.tuple #[]) (wr.setCells gr i (List.replicate (l.length - i) (.int .i64 0)))) := hide (fun ty =>
       Go.Lib.run_clear_slice wr _ _ ty (.int .i64 0) Tryz.underlying23 Tryz.zeroValue3 rfl rfl gr i (l.length - i) (vc - i) (by omega) (fun k hk => (HFZ.out (i + k) (by omega)).2) (fun k hk => (HFZ.out (i + k) (by omega)).1))
     have HOC := hide (hO.out.cutClear i (by omega) (List.replicate (l.length - i) (.int .i64 0)))
     rw [HT.out] at HOC
     have HBC := hide (belowCells hBg (List.replicate (l.length - i) (.int .i64 0)) i wr hB.out)
     have hvi : ¬ (vc = i) := by omega
     have hb1 : (i : Int) <= (l.length : Int) := by omega
     have hb2 : (i : Int) <= (vc : Int) := by omega
     have hb3 : i <= l.length := by omega
     have hb4 : i <= vc := by omega
     clear hfz'
     have hK := HK.out
     go_wp2
     go_ret
     exact ⟨_, rfl, HOC.out, HBC.out⟩
   have hji : (j : Int) < (l.length : Int) := by omega
   have hLl : L.length = l.length := hD.out.1
   obtain ⟨g', cap', hv', c0, -⟩ := hO.out.put j (by omega) 0
   injection hv' with e1 e2 e3
   clear e2
   injection e1 with e1
   injection e1 with e1
   subst e1 e3
   rw [hD.out.at] at c0
   have HSK := hide (hD.out.skip hlt)
   have HKP := hide (hD.out.keep hlt)
   obtain ⟨e, he⟩ : ∃ e, e = l.getD j 0 := ⟨_, rfl⟩
   rw [<- he] at c0 HSK HKP
   obtain ⟨pe, hpe⟩ : ∃ pe, pe = p e := ⟨_, rfl⟩
   have HC := hide (fun W h => HP.out W e (by rw [he]; exact getD_memI hlt) h)
   rw [<- hpe] at HC HSK HKP
   clear he hpe hD
   go_wp2_with fail
   refine (HC.out _ hB.out).mono ?_
   rintro x W1 ⟨rfl, hb1⟩
   have HB3 := hide (hB.out.trans (hb1.mono (Nat.le_trans hBw hB.out.size)))
   have HO3 := hide (hO.out.below hb1 (Nat.le_refl _))
   clear hb1 HC c0 hO hB
   cases pe with
   | true =>
     go_wp2
     go_roundw
     case rel => exact ⟨i, j + 1, L, rfl, by go_num, by omega, by omega, HO3, hide (HSK.out (by simp)), HB3⟩
     case measure => simp [intOf]; omega
   | false =>
     obtain ⟨g2, cap2, hv2, d0, z0, -, -, hOP, -⟩ := HO3.out.put i (by omega) e
     injection hv2 with f1 f2 f3
     clear f2
     injection f1 with f1
     injection f1 with f1
     subst f1 f3
     have HOP := hide hOP
     clear hOP
     have hii : (i : Int) < (l.length : Int) := by omega
     have hil : i < l.length := by omega
     go_wp2
     go_roundw
     case rel => exact ⟨i + 1, j + 1, L.set i e, by go_num, by go_num, by omega, by omega, HOP, hide (HKP.out (by simp)), hide (HB3.out.setCell hBg _)⟩
     case measure => simp [intOf]; omega

theorem step_call {ops : Array Oper} {o : Oper} {a : Act} {w : World} {K : Act -> World -> Prop} {Q : Exit -> Act -> World -> Prop} {E : Prop} {R : Value -> World -> Prop}
   (f : FuncId) (xs : Array Operand) (ts : Array TypeId) (hg : o.guard = none) (hop : o.op = Op.call { callee := Callee.value (Operand.func f), args := xs, argTypes := ts }) (vals : Array Value) (hv : xs.map a.eval = vals)
   (hE : ∀ args w, (callFunc f args).run Tryz.prog w = .ok (.enter f args) w) (hC : Calls Tryz.prog f vals w fun e w' => ∃ v', e = .returned v' ∧ R v' w') (hK : ∀ v' w', R v' w' -> K (a.put o.dst v') w') :
   if Region.wanted o (yielded ops a.tmps) = true then Oper.wp Tryz.prog o a w K Q else E := by
 have hw : Region.wanted o (yielded ops a.tmps) = true := by simp [Region.wanted, hg]
 rw [if_pos hw]
 unfold Oper.wp
 have h : (execOp a.eval o).run Tryz.prog w = .ok (.enter f vals) w := by
   have he : a.eval (Operand.func f) = .func (.func f) #[] #[] := rfl
   simp [execOp, hop, resolve, invoke, hv, he, Deferred.ofValue, hE]
 rw [h, Oper.upon_enter]
 refine hC.mono ?_
 rintro e w' ⟨v', rfl, hr⟩
 exact hK v' w' hr

theorem next_any (b o : Nat) (f : Int) (ra : Option Addr) (n rc : Nat) (w : World) (c0 : w.cell? ⟨b, o, none⟩ = some (.int .i64 f)) (c1 : w.cell? ⟨b, o + 1, none⟩ = some (.slice ra n rc)) (h0 : 0 <= f) (h1 : f + n <= 9000000000000000000) :
   Calls Tryz.prog 42 #[.pointer (some ⟨b, o, none⟩)] w fun e w' => e = .returned (.int .i64 (f + n)) ∧ Below w.heap.size w w' := by
 have hw : IntKind.i64.wrap (f + (n : Int)) = f + n := by rw [IntKind.wrap_i64]; omega
 have hnn : (n : Int) <= 9000000000000000000 := by omega
 go_enter Tryz.func42, Tryz.ntmps42
 go_upto_region 1 with fail
 go_quiet (fail)
 go_wp2
 go_ret
 refine ⟨?_, below_drewN (Below.refl _ _) _⟩
 first | rfl | (rw [hw])

structure NumS (s : Sto) : Prop where
 f0 : 0 <= s.log.first
 f1 : s.next <= 4611686018427387904
 sy : I64 s.synced
 cu : I64 s.cur

theorem nextS_any {M I : Nat -> Prop} {p pd : Nat} {L : SLay} {s : Sto} (w : World) (h : StoL M I w p pd L s) (hn : NumS s) :
   Calls Tryz.prog 16 #[ptr p] w fun e w' => e = .returned (.int .i64 s.next) ∧ Below w.heap.size w w' := by
 obtain ⟨ra, rc, hrv⟩ := h.recs.shape
 obtain ⟨-, c1, c2, -⟩ := h.cs
 rw [hrv] at c2
 have h1 := hn.f1
 have h0 := hn.f0
 unfold Sto.next Lgb.next at h1
 have HN := hide (next_any p 1 s.log.first ra s.log.recs.length rc w c1 c2 h0 (by omega))
 have HE : Hid (s.next = s.log.first + s.log.recs.length) := hide rfl
 rw [HE.out]
 generalize s.log.first + (s.log.recs.length : Int) = nx at *
 clear c1 c2 hrv h1 h0
 go_enter Tryz.func16, Tryz.ntmps16
 go_wp2_with fail
 refine HN.out.mono ?_
 rintro e w' ⟨rfl, hb⟩
 have HB := hide hb
 clear hb
 go_wp2
 go_ret
 exact ⟨rfl, HB.out⟩

theorem syncedS_any {M I : Nat -> Prop} {p pd : Nat} {L : SLay} {s : Sto} (w : World) (h : StoL M I w p pd L s) :
   Calls Tryz.prog 13 #[ptr p] w fun e w' => e = .returned (.int .i64 s.synced) ∧ w' = w := by
 obtain ⟨-, -, -, -, -, -, c1, -⟩ := h.cs
 clear h
 go_enter Tryz.func13, Tryz.ntmps13
 go_wp2
 go_ret
 exact ⟨rfl, rfl⟩

theorem lastI_any (v : Value) (l : List Int) (x : Int) (w : World) (hr : RdI w v l) (hlim : l.length <= 1000000000) :
   Calls Tryz.prog 99 #[v, .int .i64 x] w fun e w' => e = .returned (.int .i64 (l.getD (l.length - 1) x)) ∧ w' = w := by
 obtain ⟨ao, cap, rfl, hlc, hcm, -, -, hao⟩ := hr
 have hml : (l.length : Int) <= 9223372036854775807 := by unfold maxLen at hcm; omega
 by_cases h0 : l.length = 0
 · have e : l = [] := List.eq_nil_of_length_eq_zero h0
   subst e
   have h0' : ((0 : Int) == 0) = true := rfl
   clear hao hcm hlc h0
   have hz : ([] : List Int).length = 0 := rfl
   rw [hz]
   go_enter Tryz.func99, Tryz.ntmps99
   go_wp2
   go_ret
   exact ⟨rfl, rfl⟩
 · rcases hao with hao | ⟨b, off, rfl, hc⟩
   · rw [hao] at h0; simp at h0
   have h0' : ((l.length : Int) == 0) = false := beq_eq_false_iff_ne.2 (by omega)
   have hlast := hc (l.length - 1) (by omega)
   have e : l.getD (l.length - 1) x = l.getD (l.length - 1) 0 := by
     simp [List.getD, show l.length - 1 < l.length by omega]
   rw [e]
   obtain ⟨y, hy⟩ : ∃ y, y = l.getD (l.length - 1) 0 := ⟨_, rfl⟩
   rw [<- hy] at hlast ⊢
   obtain ⟨m, hm⟩ : ∃ m, l.length = m + 1 := ⟨l.length - 1, by omega⟩
   rw [hm] at hlast h0' hml ⊢
   have hm1 : m + 1 - 1 = m := by omega
   rw [hm1] at hlast
   have hml2 : (m : Int) <= 1000000000 := by omega
   clear hy hc e hcm hlc h0 hm hml hlim
   go_enter Tryz.func99, Tryz.ntmps99
   go_wp2
   go_ret
   exact ⟨rfl, rfl⟩

def otherN (first n : Int) : Bool := decide (n < first) || decide ((n - first) % 2 ≠ 0)

theorem sortD_filter (l : List Int) (first : Int) : sortD l first = l.filter fun n => !otherN first n := rfl

theorem other_any (R : Nat) (first n : Int) (w : World) (c : w.cell? ⟨R, 0, none⟩ = some (.int .i64 first)) (h1 : 0 <= first) (h2 : first <= 1000) (h3 : -1000000000000000000 <= n) (h4 : n <= 1000000000000000000) :
   Calls Tryz.prog 115 #[.int .i64 n, .pointer (some ⟨R, 0, none⟩)] w fun e w' => e = .returned (.bool (otherN first n)) ∧ Below w.heap.size w w' := by
 by_cases hlt : n < first
 · have e : otherN first n = true := by unfold otherN; rw [decide_eq_true hlt]; rfl
   rw [e]
   clear e
   go_enter Tryz.func115, Tryz.ntmps115
   go_wp2
   go_ret
   exact ⟨rfl, Below.refl _ _⟩
 · have hw : IntKind.i64.wrap (n - first) = n - first := by rw [IntKind.wrap_i64]; omega
   have htm : (n - first).tmod 2 = (n - first) % 2 := Int.tmod_eq_emod_of_nonneg (by omega)
   by_cases hz : (n - first) % 2 = 0
   · have e : otherN first n = false := by unfold otherN; rw [decide_eq_false hlt, decide_eq_false (fun h => h hz)]; rfl
     have hz2 : ((n - first) % 2 != 0) = false := by rw [hz]; rfl
     have hz3 : ((n - first).tmod 2 != 0) = false := by rw [htm, hz]; rfl
     rw [e]
     clear e hz
     go_enter Tryz.func115, Tryz.ntmps115
     go_wp2
     go_ret
     exact ⟨rfl, Below.refl _ _⟩
   · have e : otherN first n = true := by unfold otherN; rw [decide_eq_false hlt, decide_eq_true hz]; rfl
     have hz2 : ((n - first) % 2 != 0) = true := by rw [bne_iff_ne]; exact hz
     have hz3 : ((n - first).tmod 2 != 0) = true := by rw [htm, bne_iff_ne]; exact hz
     rw [e]
     clear e hz
     go_enter Tryz.func115, Tryz.ntmps115
     go_wp2
     go_ret
     exact ⟨rfl, Below.refl _ _⟩

theorem names_i64 {d : Dk} (h : OkD d) : ∀ n ∈ namesD d, 0 <= n ∧ n < 1048576 := fun n hn => by
 obtain ⟨e, he, rfl⟩ := List.mem_map.1 hn
 have hm := (h.dir.may e he).1
 unfold mayN at hm
 simp only [Bool.and_eq_true, decide_eq_true_eq] at hm
 exact hm

set_option maxHeartbeats 1000000 in
theorem namesFrom_any {F : Nat -> Prop} {p : Nat} {d : Dk} {N T : Nat} (first : Int) (w : World) (h : Dsk F w p d N T) (hN : N <= 1000000) (h1 : 0 <= first) (h2 : first <= 1000) :
   Calls Tryz.prog 81 #[ptr p, .int .i64 first] w fun e w' => ∃ v, e = .returned v ∧ OwnI w' w.heap.size v (sortD (namesD d) first) ∧ Below w.heap.size w w' := by
 obtain ⟨W0, hW0⟩ : ∃ W0, W0 = w.alloc (.cells #[.int .i64 first] 3) := ⟨_, rfl⟩
 have HB0 : Hid (Below w.heap.size w W0) := hide (by rw [hW0]; exact allocB _ _)
 have HX : Hid (Bk 3 W0 w.heap.size #[.int .i64 first]) := hide (by rw [hW0]; exact heap_alloc_new w _)
 have HD := hide (h.below HB0.out)
 have HNM : Hid (Calls Tryz.prog 33 #[ptr p] W0 fun e w' => ∃ v, e = .returned v ∧ OwnI w' W0.heap.size v (namesD d) ∧ Below W0.heap.size W0 w') := hide (by
   obtain ⟨L, g1, g2, -⟩ := HD.out
   exact names_any W0 g1 g2 hN)
 have HI : Hid (∀ n ∈ namesD d, 0 <= n ∧ n < 1048576) := hide (by
   obtain ⟨L, g1, g2, -⟩ := HD.out
   exact names_i64 g2)
 have HL : Hid ((namesD d).length <= 1000000) := hide (by
   obtain ⟨L, g1, g2, g3, -⟩ := HD.out
   have h3 := dirK_len d d.waits.length
   rw [dirK_all] at h3
   have := g3.names
   unfold namesD
   rw [List.length_map]
   omega)
 clear h
 go_enter Tryz.func81, Tryz.ntmps81
 go_upto_region 1 with fail
 rw [<- hW0]
 clear hW0
 go_wp2_with fail
 refine HNM.out.mono ?_
 rintro e W1 ⟨v1, rfl, ho1, hb1⟩
 have HB1 := hide (HB0.out.trans (hb1.mono HB0.out.size))
 have HR : Hid (∀ W, Below W0.heap.size W1 W -> W.cell? ⟨w.heap.size, 0, none⟩ = some (.int .i64 first)) := hide (fun W hb => ((HX.out.keep ((hb.block _ HX.out.lt).trans (hb1.block _ HX.out.lt))).cell 0 rfl).1)
 have HDF := hide (deleteFuncI_any 115 w.heap.size (otherN first) v1 (namesD d) W0.heap.size W1 ho1 (fun n hn => by
   have := HI.out n hn
   exact ⟨by omega, by omega⟩) hb1.size HL.out (enters_of Tryz.func115 (by kernel_rfl) rfl) (fun W n hn hb => other_any w.heap.size first n W (HR.out W hb) h1 h2 (by have := HI.out n hn; omega) (by have := HI.out n hn; omega)))
 rw [<- sortD_filter] at HDF
 obtain ⟨a1, n1, c1, hv1⟩ : ∃ a n c, v1 = .slice a n c := by
   obtain ⟨a, c, hh⟩ := ho1.shape
   exact ⟨a, _, c, hh⟩
 subst hv1
 clear ho1 hb1 HNM
 go_wp2_with fail
 refine HDF.out.mono ?_
 rintro e W2 ⟨v2, rfl, ho2, hb2⟩
 have HO2 := hide (ho2.mono HB0.out.size)
 have HB2 := hide (HB1.out.trans (hb2.mono HB0.out.size))
 clear ho2 hb2
 go_wp2
 go_ret
 exact ⟨_, rfl, HO2.out, HB2.out⟩

theorem nextName_any {F M I : Nat -> Prop} {p pd : Nat} {L : SLay} {s : Sto} {d : Dk} {N T : Nat} (first : Int) (w : World) (h : StoL M I w p pd L s) (hd : Dsk F w pd d N T) (hN : N <= 1000000) (h1 : 2 <= first) (h2 : first <= 1000) :
   Calls Tryz.prog 54 #[ptr p, .int .i64 first] w fun e w' => e = .returned (.int .i64 (nextName d first)) ∧ Below w.heap.size w w' := by
 have HNF := hide (namesFrom_any first w hd hN (by omega) h2)
 have HI : Hid (∀ n ∈ sortD (namesD d) first, 0 <= n ∧ n < 1048576) := hide (by
   obtain ⟨L, g1, g2, -⟩ := hd
   exact fun n hn => names_i64 g2 n (List.mem_filter.1 hn).1)
 have HLN : Hid ((namesD d).length <= 1000000000) := hide (by
   obtain ⟨L, g1, g2, g3, -⟩ := hd
   have h3 := dirK_len d d.waits.length
   rw [dirK_all] at h3
   have := g3.names
   unfold namesD
   rw [List.length_map]
   omega)
 obtain ⟨c0, -⟩ := h.cs
 have HN0 : Hid (nextName d first = (sortD (namesD d) first).getD ((sortD (namesD d) first).length - 1) (first - 2) + 2) := hide rfl
 have HBD : Hid (0 <= (sortD (namesD d) first).getD ((sortD (namesD d) first).length - 1) (first - 2) ∧ (sortD (namesD d) first).getD ((sortD (namesD d) first).length - 1) (first - 2) <= 1048576) := hide (by
   by_cases h0 : (sortD (namesD d) first).length = 0
   · rw [List.eq_nil_of_length_eq_zero h0]
     show 0 <= first - 2 ∧ first - 2 <= 1048576
     omega
   · have hm : (sortD (namesD d) first).getD ((sortD (namesD d) first).length - 1) (first - 2) ∈ sortD (namesD d) first := by
       rw [show (sortD (namesD d) first).getD ((sortD (namesD d) first).length - 1) (first - 2) = (sortD (namesD d) first)[(sortD (namesD d) first).length - 1]'(by omega) by simp [List.getD, show (sortD (namesD d) first).length - 1 < (sortD (namesD d) first).length by omega]]
       exact List.getElem_mem _
     have := HI.out _ hm
     omega)
 clear h hd
 rw [HN0.out]
 have HLL : Hid ((sortD (namesD d) first).length <= 1000000000) := hide (Nat.le_trans (List.length_filter_le _ _) HLN.out)
 generalize sortD (namesD d) first = l at *
 obtain ⟨y, hy⟩ : ∃ y, y = l.getD (l.length - 1) (first - 2) := ⟨_, rfl⟩
 rw [<- hy] at HBD ⊢
 have HY := hide hy
 clear hy
 go_enter Tryz.func54, Tryz.ntmps54
 go_wp2_with fail
 refine HNF.out.mono ?_
 rintro e W1 ⟨v1, rfl, ho1, hb1⟩
 have HB1 := hide hb1
 have HRD := hide (ho1.rd (fun n hn => by
   have := HI.out n hn
   exact ⟨by omega, by omega⟩))
 obtain ⟨a1, n1, c1, hv1⟩ : ∃ a n c, v1 = .slice a n c := by
   obtain ⟨a, c, hh⟩ := ho1.shape
   exact ⟨a, _, c, hh⟩
 subst hv1
 have HLA := hide (lastI_any _ l (first - 2) W1 HRD.out HLL.out)
 rw [<- HY.out] at HLA
 have hb0 := HBD.out.1
 have hb2 := HBD.out.2
 clear ho1 hb1 HRD c0
 go_wp2_with fail
 refine HLA.out.mono ?_
 rintro e W2 ⟨rfl, rfl⟩
 go_wp2
 go_ret
 exact ⟨rfl, HB1.out⟩

def zeroX : Snap × Value × Value := (zeroN, .slice none 0 0, .slice none 0 0)

def lastX (l : List (Snap × Value × Value)) : Snap × Value × Value := l.getD (l.length - 1) zeroX

theorem lastX_base {L : SLay} {s : Sto} (h : L.bs.map Prod.fst = s.bases) : (lastX L.bs).1 = s.base := by
 unfold lastX Sto.base
 rw [<- h, List.length_map]
 simp only [List.getD, List.getElem?_map]
 cases L.bs[L.bs.length - 1]? <;> rfl

theorem lastX_mem {l : List (Snap × Value × Value)} (h : l.length ≠ 0) : lastX l ∈ l := by
 unfold lastX
 rw [show l.getD (l.length - 1) zeroX = l[l.length - 1]'(by omega) by simp [List.getD, show l.length - 1 < l.length by omega]]
 exact List.getElem_mem _

theorem rowX_last {w : World} {v : Value} {l : List (Snap × Value × Value)} (h : w.ownsRow 0 41 6 v l.length (snCells l)) (h0 : l.length ≠ 0) :
   ∃ g cap, v = .slice (some ⟨g, 0, none⟩) l.length cap ∧ ∀ k u, k < 6 -> (snC (lastX l))[k]? = some u -> w.cell? ⟨g, (l.length - 1) * 6 + k, none⟩ = some u := by
 rcases h.2 with ⟨_, hn⟩ | ⟨g, cap, cur, hv, _, hg, hnc, hcm, hcs, htake⟩
 · exact absurd hn h0
 · refine ⟨g, cap, hv, fun k u hk hu => ?_⟩
   have hlt : l.length - 1 < l.length := by omega
   have e : lastX l = l[l.length - 1] := by unfold lastX; simp [List.getD, hlt]
   rw [e] at hu
   rw [cell_of_row w g _ _ _ _ hg]
   have h1 := snCells_get l (l.length - 1) k hlt hk
   rw [hu, <- htake, List.getElem?_take] at h1
   rw [if_pos (by omega)] at h1
   rw [<- Array.getElem?_toList]
   exact h1

set_option maxHeartbeats 1000000 in
theorem lastX_any (v : Value) (l : List (Snap × Value × Value)) (w : World) (h : w.ownsRow 0 41 6 v l.length (snCells l)) (h0 : l.length ≠ 0) (hlim : l.length <= 1000000000) (hsn : ∃ a n c a' n' c', (lastX l).2.1 = .slice a n c ∧ (lastX l).2.2 = .slice a' n' c') :
   Calls Tryz.prog 85 #[v, .agg #[.int .i64 0, .int .i64 0, .slice none 0 0, .bool false, .int .i64 0, .slice none 0 0]] w fun e w' => e = .returned (snV (lastX l)) ∧ Below w.heap.size w w' := by
 obtain ⟨g, cap, rfl, hc⟩ := rowX_last h h0
 obtain ⟨x, hx⟩ : ∃ x, x = lastX l := ⟨_, rfl⟩
 rw [<- hx] at hc hsn ⊢
 obtain ⟨m, hm⟩ : ∃ m, l.length = m + 1 := ⟨l.length - 1, by omega⟩
 have hm1 : l.length - 1 = m := by omega
 rw [hm1] at hc
 obtain ⟨⟨ix, ⟨kd, LL, sh, eg⟩, tb⟩, vl, vt⟩ := x
 obtain ⟨la, ln, lc, ta, tn, tc, h1, h2⟩ := hsn
 dsimp only at h1 h2
 subst h1 h2
 have c0 := hc 0 _ (by decide) rfl
 have c1 := hc 1 _ (by decide) rfl
 have c2 := hc 2 _ (by decide) rfl
 have c3 := hc 3 _ (by decide) rfl
 have c4 := hc 4 _ (by decide) rfl
 have c5 := hc 5 _ (by decide) rfl
 have hgl : g < w.heap.size := World.block_lt_of_cell? w ⟨g, m * 6 + 0, none⟩ c0
 rw [hm]
 have h0' : ((m + 1 : Nat) : Int) ≠ 0 := by omega
 have h0'' : ((((m + 1 : Nat) : Int)) == 0) = false := beq_eq_false_iff_ne.2 h0'
 have hml2 : (m : Int) <= 1000000000 := by omega
 obtain ⟨W0, hW0⟩ : ∃ W0, W0 = (w.alloc (.cells #[.int .i64 0, .int .i64 0, .slice none 0 0, .bool false, .int .i64 0, .slice none 0 0] 41)).alloc (.cells #[.int .i64 0, .int .i64 0, .slice none 0 0, .bool false, .int .i64 0, .slice none 0 0] 41) := ⟨_, rfl⟩
 have HB0 : Hid (Below w.heap.size w W0) := hide (by rw [hW0]; exact ((Below.refl _ _).alloc (Nat.le_refl _) _).alloc (by simp) _)
 have HY : Hid (Bn W0 (w.heap.size + 1) #[.int .i64 0, .int .i64 0, .slice none 0 0, .bool false, .int .i64 0, .slice none 0 0]) := hide (by rw [hW0]; exact new_two w _ _)
 have e0 : W0.cell? ⟨g, m * 6, none⟩ = some (.int .i64 ix) := (HB0.out.cell (p := ⟨g, m * 6, none⟩) hgl).trans c0
 have e1 : W0.cell? ⟨g, m * 6 + 1, none⟩ = some (.int .i64 kd) := (HB0.out.cell (p := ⟨g, m * 6 + 1, none⟩) hgl).trans c1
 have e2 : W0.cell? ⟨g, m * 6 + 2, none⟩ = some (.slice la ln lc) := (HB0.out.cell (p := ⟨g, m * 6 + 2, none⟩) hgl).trans c2
 have e3 : W0.cell? ⟨g, m * 6 + 3, none⟩ = some (.bool sh) := (HB0.out.cell (p := ⟨g, m * 6 + 3, none⟩) hgl).trans c3
 have e4 : W0.cell? ⟨g, m * 6 + 4, none⟩ = some (.int .i64 eg) := (HB0.out.cell (p := ⟨g, m * 6 + 4, none⟩) hgl).trans c4
 have e5 : W0.cell? ⟨g, m * 6 + 5, none⟩ = some (.slice ta tn tc) := (HB0.out.cell (p := ⟨g, m * 6 + 5, none⟩) hgl).trans c5
 obtain ⟨z0, y0⟩ := HY.out.cell 0
 obtain ⟨z1, y1⟩ := HY.out.cell 1
 obtain ⟨z2, y2⟩ := HY.out.cell 2
 obtain ⟨z3, y3⟩ := HY.out.cell 3
 obtain ⟨z4, y4⟩ := HY.out.cell 4
 obtain ⟨z5, y5⟩ := HY.out.cell 5
 clear c0 c1 c2 c3 c4 c5 hc h hx hm hm1 h0 hlim
 go_enter Tryz.func85, Tryz.ntmps85
 go_upto_region 1 with fail
 rw [<- hW0]
 clear hW0
 go_wp2
 refine bodyPost_ret (v := .agg #[.int .i64 ix, .int .i64 kd, .slice la ln lc, .bool sh, .int .i64 eg, .slice ta tn tc]) (by simp [results, Tryz.results85, go_sem, z0, z1, z2, z3, z4, z5]) rfl ?_
 exact ⟨rfl, belowSixE HB0.out _ (by omega) _ _ _ _ _ _⟩

theorem SnR.shape {w : World} {x : Snap × Value × Value} (h : SnR w x) : ∃ a n c a' n' c', x.2.1 = .slice a n c ∧ x.2.2 = .slice a' n' c' := by
 obtain ⟨a, c, h1, -⟩ := h.l
 obtain ⟨a', c', h2⟩ := h.t.shape
 exact ⟨a, _, c, a', _, c', h1, h2⟩

set_option maxHeartbeats 1000000 in
theorem base_any {M I : Nat -> Prop} {p pd : Nat} {L : SLay} {s : Sto} (w : World) (h : StoL M I w p pd L s) (h0 : s.bases.length ≠ 0) (hlim : s.bases.length <= 1000000000) :
   Calls Tryz.prog 41 #[ptr p] w fun e w' => e = .returned (snV (lastX L.bs)) ∧ Below w.heap.size w w' := by
 have hl : L.bs.length = s.bases.length := by rw [<- h.bsEq, List.length_map]
 have hm := lastX_mem (l := L.bs) (by omega)
 have HS := hide (h.base _ hm)
 obtain ⟨W0, hW0⟩ : ∃ W0, W0 = w.alloc (.cells #[.int .i64 0, .int .i64 0, .slice none 0 0, .bool false, .int .i64 0, .slice none 0 0] 41) := ⟨_, rfl⟩
 have HB0 : Hid (Below w.heap.size w W0) := hide (by rw [hW0]; exact allocB _ _)
 have HY : Hid (Bn W0 w.heap.size #[.int .i64 0, .int .i64 0, .slice none 0 0, .bool false, .int .i64 0, .slice none 0 0]) := hide (by rw [hW0]; exact heap_alloc_new w _)
 have HH := hide (h.below HB0.out)
 obtain ⟨-, -, -, -, c4, -⟩ := HH.out.cs
 have HL := hide (lastX_any L.bv L.bs W0 HH.out.bases (by omega) (by omega) HS.out.shape)
 obtain ⟨ba, bn, bc, hbv⟩ : ∃ a n c, L.bv = .slice a n c := by
   rcases h.bases.2 with ⟨hv, _⟩ | ⟨g, cap, cur, hv, _⟩
   · exact ⟨_, _, _, hv⟩
   · exact ⟨_, _, _, hv⟩
 rw [hbv] at c4 HL
 obtain ⟨x, hx⟩ : ∃ x, x = lastX L.bs := ⟨_, rfl⟩
 rw [<- hx] at HL HS ⊢
 obtain ⟨la, ln, lc, ta, tn, tc, h1, h2⟩ := HS.out.shape
 obtain ⟨⟨ix, ⟨kd, LL, sh, eg⟩, tb⟩, vl, vt⟩ := x
 dsimp only at h1 h2
 subst h1 h2
 unfold snV snC at HL ⊢
 dsimp only at HL ⊢
 clear h hbv hx hm hl h0 hlim HH HS
 go_enter Tryz.func41, Tryz.ntmps41
 go_upto_region 1 with fail
 rw [<- hW0]
 clear hW0
 go_wp2_with fail
 refine HL.out.mono ?_
 rintro e W1 ⟨rfl, hb1⟩
 have HB1 := hide (HB0.out.trans (hb1.mono HB0.out.size))
 have hy := HY.out.below hb1 (Nat.le_refl _)
 obtain ⟨z0, y0⟩ := hy.cell 0
 obtain ⟨z1, y1⟩ := hy.cell 1
 obtain ⟨z2, y2⟩ := hy.cell 2
 obtain ⟨z3, y3⟩ := hy.cell 3
 obtain ⟨z4, y4⟩ := hy.cell 4
 obtain ⟨z5, y5⟩ := hy.cell 5
 clear hb1 hy c4
 go_wp2
 refine bodyPost_ret (v := .agg #[.int .i64 ix, .int .i64 kd, .slice la ln lc, .bool sh, .int .i64 eg, .slice ta tn tc]) (by simp [results, Tryz.results41, go_sem, z0, z1, z2, z3, z4, z5]) rfl ?_
 exact ⟨rfl, belowSixE HB1.out _ (by omega) _ _ _ _ _ _⟩

end Go.Proofs.YtpopbandpnaicaaGreatDoor

