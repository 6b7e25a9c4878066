/- The engine that copies: a process makes its copy. -/
import Derived.Test.YtedfacbngefhnaaPsimB
namespace Go.Proofs.Ytedfacbngefhnaa
open Go.RowKit Go.Maps

/-- Blocks of an engine that has come of another. -/
theorem HasE.of {eb n B : Nat} {L L' : HL} (h1 : L'.l = L.l) (h2 : L'.m = L.m) (h3 : L'.mc = L.mc) (h4 : L'.ms = L.ms) (h5 : L'.qs = L.qs) (h6 : L'.pv = L.pv) (h7 : L'.ov = L.ov)
    (h8 : ∀ k, L'.lv.ownBlock = some k → HasE eb L n k ∨ B ≤ k) (h9 : ∀ k, L'.av.ownBlock = some k → HasE eb L n k ∨ B ≤ k)
    (hc : ∀ r, r < n → L'.cp r → ∀ k, (L'.mf r).ownBlock = some k ∨ (L'.ma r).ownBlock = some k → HasE eb L n k ∨ B ≤ k) : ∀ k, HasE eb L' n k → HasE eb L n k ∨ B ≤ k := by
  rintro k ⟨t, hk⟩
  match t, hk with
  | 0, hk => exact .inl ⟨0, hk⟩
  | 1, hk => exact .inl ⟨1, (show k = L'.l from hk).trans h1⟩
  | 2, hk => exact .inl ⟨2, (show k = L'.m from hk).trans h2⟩
  | 3, hk => exact .inl ⟨3, (show k = L'.mc from hk).trans h3⟩
  | 4, hk => exact .inl ⟨4, (show k = L'.ms from hk).trans h4⟩
  | 5, hk => obtain ⟨p, hp, hk⟩ := hk; exact .inl ⟨5, p, hp, by rw [← h5]; exact hk⟩
  | 6, hk => exact .inl ⟨6, by show L.pv.ownBlock = some k; rw [← h6]; exact hk⟩
  | 7, hk => exact .inl ⟨7, by show L.ov.ownBlock = some k; rw [← h7]; exact hk⟩
  | 8, hk =>
    rcases hk with hk | ⟨r, hr, hcr, hk⟩
    · exact h8 k hk
    · exact hc r hr hcr k (.inl hk)
  | 9, hk =>
    rcases hk with hk | ⟨r, hr, hcr, hk⟩
    · exact h9 k hk
    · exact hc r hr hcr k (.inr hk)
  | _ + 10, hk => exact hk.elim

theorem has_lv {eb n k : Nat} {L : HL} (h : L.lv.ownBlock = some k) : HasE eb L n k := ⟨8, .inl h⟩

theorem has_av {eb n k : Nat} {L : HL} (h : L.av.ownBlock = some k) : HasE eb L n k := ⟨9, .inl h⟩

theorem has_cp {eb n k r : Nat} {L : HL} (hr : r < n) (hc : L.cp r) (h : (L.mf r).ownBlock = some k ∨ (L.ma r).ownBlock = some k) : HasE eb L n k :=
  h.elim (fun h => ⟨8, .inr ⟨r, hr, hc, h⟩⟩) fun h => ⟨9, .inr ⟨r, hr, hc, h⟩⟩

/-- Only what a process itself has is told anew. -/
theorem EgL.macp {w W : World} {eb : Nat} {L : HL} {x : Nat → Value} {e : Eg} {M M' : Mc} {N N' p : Nat} {q' : Pc} (h : EgL w eb L x e M N) (ho : Only (MachF L) w W) (hm : MacL W L.m L.mc L.ms M' N') (hr : HRel { e with ps := putN e.ps p q' } M')
    (h1 : ∀ y mv av fv, pcC L.l p y mv av fv q' = pcC L.l p y mv av fv (e.ps p)) (h2 : q'.mlast = (e.ps p).mlast) (h3 : q'.fresh = (e.ps p).fresh) (h4 : q'.mst = (e.ps p).mst) : EgL W eb L x { e with ps := putN e.ps p q' } M' N' :=
  h.macd (e' := { e with ps := putN e.ps p q' }) ho hm rfl rfl rfl rfl rfl (fun r _ => by
    dsimp only
    by_cases a : r = p
    · subst a
      rw [putN_same]
      exact ⟨h1, h2, h3, h4⟩
    · rw [putN_other _ _ a]
      exact ⟨fun _ _ _ _ => rfl, rfl, rfl, rfl⟩) hr

/-- A process stores into a cell of its own. -/
theorem EgL.store {w : World} {eb : Nat} {L : HL} {x : Nat → Value} {e : Eg} {M : Mc} {N p : Nat} (h : EgL w eb L x e M N) (hp : p < e.n) (j : Nat) (v : Value) (q' : Pc) (hq : (pcC L.l p (x p) (L.mv p) (L.ma p) (L.mf p) (e.ps p)).setIfInBounds j v = pcC L.l p (x p) (L.mv p) (L.ma p) (L.mf p) q') (hd : q'.did = (e.ps p).did)
    (h2 : q'.mlast = (e.ps p).mlast) (h3 : q'.fresh = (e.ps p).fresh) (h4 : q'.mst = (e.ps p).mst) :
    EgL (w.setCell ⟨L.qs p, j, none⟩ v) eb L x { e with ps := putN e.ps p q' } M N ∧ Only (fun k => k = L.qs p) w (w.setCell ⟨L.qs p, j, none⟩ v) := by
  have o1 : Only (fun k => k = L.qs p) w (w.setCell ⟨L.qs p, j, none⟩ v) := (Only.refl (fun k => k = L.qs p) w).setCell j (fun _ => rfl) v
  exact ⟨h.procd hp o1 (fun _ k => .inl k) (by rw [← hq]; exact (h.pr p hp).set j v) (fun _ _ => rfl) (fun _ _ => ⟨rfl, rfl, rfl⟩) hd fun _ => ⟨rfl, rfl, rfl, h2, h3, h4⟩, o1⟩

/-- A process's next step is stored. -/
theorem EgL.storeX {w : World} {eb : Nat} {L : HL} {x : Nat → Value} {e : Eg} {M : Mc} {N p : Nat} (h : EgL w eb L x e M N) (hp : p < e.n) (v : Value) :
    EgL (w.setCell ⟨L.qs p, 2, none⟩ v) eb L (putN x p v) e M N ∧ Only (fun k => k = L.qs p) w (w.setCell ⟨L.qs p, 2, none⟩ v) := by
  have o1 : Only (fun k => k = L.qs p) w (w.setCell ⟨L.qs p, 2, none⟩ v) := (Only.refl (fun k => k = L.qs p) w).setCell 2 (fun _ => rfl) v
  have h1 := h.procd (q' := e.ps p) (x' := putN x p v) hp o1 (fun _ k => .inl k) (mv' := L.mv) (ma' := L.ma) (mf' := L.mf) (by rw [putN_same]; exact (h.pr p hp).set 2 v) (fun r hr => putN_other _ _ hr) (fun _ _ => ⟨rfl, rfl, rfl⟩) rfl fun _ => ⟨rfl, rfl, rfl, rfl, rfl, rfl⟩
  rw [putN_id] at h1
  exact ⟨h1, o1⟩

theorem MayS.i64k {s : St} (hs : MayS s) : I64 s.kind ∧ I64 s.eng := ⟨⟨by have := hs.2.2.2.1; omega, by have := hs.2.2.2.2.1; omega⟩, ⟨by have := hs.1; omega, by have := hs.2.1; omega⟩⟩

/-- Blocks of numbers lie among what there is. -/
theorem RdI.blk {w : World} {v : Value} {l : List Int} (h : RdI w v l) : l = [] ∨ ∀ g, v.ownBlock = some g → g < w.heap.size := by
  obtain ⟨ao, cap, hv, _, _, _, _, h4⟩ := h
  rcases h4 with h4 | ⟨b, off, h5, h6⟩
  · exact .inl h4
  · by_cases hn : l = []
    · exact .inl hn
    · right
      intro g hg
      rw [hv, h5] at hg
      have : b = g := Option.some.inj hg
      rw [← this]
      exact World.block_lt_of_cell? w _ (h6 0 (List.length_pos_iff.2 hn))

set_option maxRecDepth 100000 in
set_option maxHeartbeats 4000000 in
theorem copyP_any {w : World} {eb : Nat} {L : HL} {x : Nat → Value} {e : Eg} {g : Nat → Nat} {M : Mc} {N p : Nat} (h : EgL w eb L x e M N) (I : Inv e g) (hp : p < e.n) (F : FitE e N) (hN : N ≤ 150000) :
    Calls Try.prog 43 #[ptr (L.qs p)] w fun r w' => ∃ L' M', GoDid w eb L x e (copyE e p) N p r w' L' M' := by
  have hmf : ∀ (fn : Fn) (first cap : Array Value) (w : World), (Instr.makeFunc fn first cap).run Try.prog w = .ok (.func fn first cap) w := fun _ _ _ _ => rfl
  have hn := F.n
  have hsq := F.seq p hp
  have hlg := F.log
  have hcn := I.G.count
  obtain ⟨ga, gc, hav, hac⟩ := row_at h.last (by omega)
  obtain ⟨sa, sc, hsv⟩ : ∃ a c, L.sv = .slice a e.st.L.length c := by
    obtain ⟨a, c, hv, _⟩ := h.st
    exact ⟨a, c, hv⟩
  obtain ⟨fa, fn, fc, hfv⟩ : ∃ a n c, L.fv = .slice a n c := ⟨_, _, _, rfl⟩
  obtain ⟨C, hC⟩ : ∃ C : Int, C = (e.count : Int) := ⟨_, rfl⟩
  -- the copy is let go, and the counter is read
  have hd := h.drop p
  have HC : Hid (∀ W, Below w.heap.size w W → Calls Try.prog 46 #[ptr (L.qs p), .int .i64 0] W fun r w' => r = .returned (.int .i64 C) ∧ MacL w' L.m L.mc L.ms (readM M (p : Int)) (N + 2) ∧ Only (MachF L) W w') := hide fun W hb =>
    readP_any (h.below hb) hp hn hN _ _ ⟨by omega, by omega⟩ (by rw [hC]; exact h.rel.cnt)
  obtain ⟨q1, hq1⟩ : ∃ q1 : Pc, q1 = { e.ps p with did := (e.ps p).did + 1 } := ⟨_, rfl⟩
  obtain ⟨q2, hq2⟩ : ∃ q2 : Pc, q2 = { e.ps p with did := (e.ps p).did + 1, frm := e.count } := ⟨_, rfl⟩
  have H1 : Hid (∀ W, MacL W L.m L.mc L.ms (readM M (p : Int)) (N + 2) → Only (MachF L) w W → EgL W eb { L with cp := putN L.cp p False } x { e with ps := putN e.ps p q1 } (readM M (p : Int)) (N + 2)) := hide fun W hm ho =>
    hd.macp ho hm (did_step h.rel hp (by rw [hq1])) (fun _ _ _ _ => by rw [hq1]; rfl) (by rw [hq1]) (by rw [hq1]) (by rw [hq1])
  have H2 : Hid (∀ W, EgL W eb { L with cp := putN L.cp p False } x { e with ps := putN e.ps p q1 } (readM M (p : Int)) (N + 2) → EgL (W.setCell ⟨L.qs p, 9, none⟩ (.int .i64 C)) eb { L with cp := putN L.cp p False } x { e with ps := putN e.ps p q2 } (readM M (p : Int)) (N + 2)) := hide fun W hW => by
    have := (hW.store (p := p) hp 9 (.int .i64 C) q2 (by dsimp only; rw [putN_same, hq1, hq2, hC]; rfl) (by dsimp only; rw [putN_same, hq1, hq2]) (by dsimp only; rw [putN_same, hq1, hq2]) (by dsimp only; rw [putN_same, hq1, hq2]) (by dsimp only; rw [putN_same, hq1, hq2])).1
    dsimp only at this
    rw [putN_putN] at this
    exact this
  obtain ⟨q4, hq4⟩ : ∃ q4 : Pc, q4 = { e.ps p with did := (e.ps p).did + 1, frm := e.count, mst := e.st, mlast := e.last, fresh := [] } := ⟨_, rfl⟩
  have H4 : Hid (∀ W v, EgL W eb { L with cp := putN L.cp p False } x { e with ps := putN e.ps p q2 } (readM M (p : Int)) (N + 2) →
      EgL ((((((W.setCell ⟨L.qs p, 10, none⟩ (.int .i64 e.st.kind)).setCell ⟨L.qs p, 11, none⟩ L.sv).setCell ⟨L.qs p, 12, none⟩ (.bool e.st.shut)).setCell ⟨L.qs p, 13, none⟩ (.int .i64 e.st.eng)).setCell ⟨L.qs p, 14, none⟩ v).setCell ⟨L.qs p, 15, none⟩ (.slice none 0 0)) eb
        { L with cp := putN L.cp p False, mv := putN L.mv p L.sv, ma := putN L.ma p v, mf := putN L.mf p (.slice none 0 0) } x { e with ps := putN e.ps p q4 } (readM M (p : Int)) (N + 2)) := hide fun W v hW => by
    have hb : Bk 71 W (L.qs p) (pcC L.l p (x p) (L.mv p) (L.ma p) (L.mf p) q2) := by
      have := hW.pr p hp
      dsimp only at this
      rw [putN_same] at this
      exact this
    have := hW.procd (p := p) (x' := x) (q' := q4) hp (only_six W (L.qs p) 10 11 12 13 14 15 _ _ _ _ _ _) (fun _ k => .inl k) (mv' := putN L.mv p L.sv) (ma' := putN L.ma p v) (mf' := putN L.mf p (.slice none 0 0)) (by
      rw [putN_same, putN_same, putN_same, hq4]
      rw [hq2] at hb
      exact (((((hb.set 10 (.int .i64 e.st.kind)).set 11 L.sv).set 12 (.bool e.st.shut)).set 13 (.int .i64 e.st.eng)).set 14 v).set 15 (.slice none 0 0)) (fun _ _ => rfl) (fun r hr => ⟨putN_other _ _ hr, putN_other _ _ hr, putN_other _ _ hr⟩) (by dsimp only; rw [putN_same, hq2, hq4]) (fun hc => by dsimp only at hc; rw [putN_same] at hc; exact hc.elim)
    dsimp only at this
    rw [putN_putN] at this
    exact this
  have sup : ∀ W W' : World, Only (MachF L) w W → Only (fun k => k = L.qs p) W W' → Only (HasE eb L e.n) w W' := fun W W' a b => (a.mono MachF.has).trans b fun k _ hk => by rw [hk]; exact has_q eb L hp
  have hgrow : ∀ (B : Nat) (v : Value) (cp' : Nat → Prop), (∀ k, v.ownBlock = some k → B ≤ k) → (∀ r, r ≠ p → cp' r → L.cp r) → ∀ k, HasE eb { L with cp := cp', mv := putN L.mv p L.sv, ma := putN L.ma p v, mf := putN L.mf p (.slice none 0 0) } e.n k → HasE eb L e.n k ∨ B ≤ k := fun B v cp' hv hcp =>
    HasE.of rfl rfl rfl rfl rfl rfl rfl (fun k hk => .inl (has_lv hk)) (fun k hk => .inl (has_av hk)) fun r hr hc k hk => by
      dsimp only at hc hk
      by_cases a : r = p
      · subst a
        rw [putN_same, putN_same] at hk
        rcases hk with hk | hk
        · cases hk
        · exact .inr (hv k hk)
      · rw [putN_other _ _ a, putN_other _ _ a] at hk
        exact .inl (has_cp hr (hcp r a hc) hk)
  obtain ⟨P, hP⟩ : ∃ P : Int, P = (p : Int) := ⟨_, rfl⟩
  obtain ⟨T, hT⟩ : ∃ T : Int, T = ((e.ps p).seq : Int) := ⟨_, rfl⟩
  obtain ⟨Z, hZ⟩ : ∃ Z : Int, Z = ((e.last p).seq : Int) := ⟨_, rfl⟩
  obtain ⟨R, hR⟩ : ∃ R : Int, R = (e.last p).resp := ⟨_, rfl⟩
  have hd8 : ∀ (q : Pc), q.did = (e.ps p).did + 1 → HRel { e with ps := putN e.ps p q } (readM M (p : Int)) := fun q hq => did_step h.rel hp hq
  have HF : Hid (∀ W1 W2 W3 W4 vb vc, MacL W1 L.m L.mc L.ms (readM M (p : Int)) (N + 2) → Only (MachF L) w W1 → W2 = W1.setCell ⟨L.qs p, 9, none⟩ (.int .i64 C) → W3.ownsRow W2.heap.size 91 2 (.slice (some ⟨vb, 0, none⟩) e.n vc) e.n (anC e.last e.n) → Below W2.heap.size W2 W3 →
      W4 = (((((W3.setCell ⟨L.qs p, 10, none⟩ (.int .i64 e.st.kind)).setCell ⟨L.qs p, 11, none⟩ L.sv).setCell ⟨L.qs p, 12, none⟩ (.bool e.st.shut)).setCell ⟨L.qs p, 13, none⟩ (.int .i64 e.st.eng)).setCell ⟨L.qs p, 14, none⟩ (.slice (some ⟨vb, 0, none⟩) e.n vc)).setCell ⟨L.qs p, 15, none⟩ (.slice none 0 0) →
      Bk 71 W4 (L.qs p) (pcC L.l p (x p) L.sv (.slice (some ⟨vb, 0, none⟩) e.n vc) (.slice none 0 0) q4) ∧ W4.cell? ⟨vb, p * 2, none⟩ = some (.int .i64 Z) ∧ W4.cell? ⟨vb, p * 2 + 1, none⟩ = some (.int .i64 R) ∧
      (Z = T → ∀ j k, ∃ L' M', GoDid w eb L x e (copyE e p) N p (.returned .nilFunc) (((W4.drewN j).setCell ⟨L.qs p, 8, none⟩ (.int .i64 R)).drewN k) L' M') ∧
      (Z ≠ T → ∀ j, ∃ L' M', GoDid w eb L x e (copyE e p) N p (.returned (.func (.func 49) #[ptr (L.qs p)] #[])) ((W4.drewN j).setCell ⟨L.qs p, 16, none⟩ (.int .i64 0)) L' M')) := hide fun W1 W2 W3 W4 vb vc hm ho hw2 hrow hb3 hw4 => by
    have g1 := H1.out W1 hm ho
    have g2 := H2.out W1 g1
    rw [← hw2] at g2
    have g3 := g2.below hb3
    have g4 := H4.out W3 (.slice (some ⟨vb, 0, none⟩) e.n vc) g3
    rw [← hw4] at g4
    have o2 : Only (fun k => k = L.qs p) W1 W2 := by rw [hw2]; exact (Only.refl (fun k => k = L.qs p) W1).setCell 9 (fun _ => rfl) _
    have o4 : Only (fun k => k = L.qs p) W3 W4 := by rw [hw4]; exact only_six W3 (L.qs p) 10 11 12 13 14 15 _ _ _ _ _ _
    have o12 := sup W1 W2 ho o2
    have o14 : Only (HasE eb L e.n) w W4 := (o12.trans (Only.ofBelow (F := HasE eb L e.n) hb3) fun _ _ k => k).trans o4 fun k _ hk => by rw [hk]; exact has_q eb L hp
    have hsz : w.heap.size ≤ W2.heap.size := o12.size
    have hvb : W2.heap.size ≤ vb ∧ vb < W3.heap.size := World.ownsRow.lt hrow vb rfl
    have hqlt : L.qs p < w.heap.size := (h.pr p hp).lt
    have row4 : W4.ownsRow 0 91 2 (.slice (some ⟨vb, 0, none⟩) e.n vc) e.n (anC e.last e.n) := ownsRow_mono (ownsRow_keep hrow fun g' hg => by
      obtain rfl : vb = g' := Option.some.inj hg
      exact o4.block _ hvb.2 (by omega)) (Nat.zero_le _)
    have cel := World.ownsRow.cells row4 (g := vb) rfl
    obtain ⟨a0, a1⟩ := anC_get e.last hp
    have c0 := cel _ _ a0
    have c1 := cel _ _ a1
    rw [Addr.add_lit, Nat.zero_add] at c0 c1
    have hq : Bk 71 W4 (L.qs p) (pcC L.l p (x p) L.sv (.slice (some ⟨vb, 0, none⟩) e.n vc) (.slice none 0 0) q4) := by
      have := g4.pr p hp
      dsimp only at this
      rw [putN_same, putN_same, putN_same, putN_same] at this
      exact this
    refine ⟨hq, by rw [hZ]; exact c0, by rw [hR]; exact c1, fun hz j k => ?_, fun hz j => ?_⟩
    · have g5 := g4.below (below_drewN (Below.refl _ _) j)
      obtain ⟨g6, o6⟩ := g5.store (p := p) hp 8 (.int .i64 R) { q4 with nx := .rest, resp := R } (by dsimp only; rw [putN_same, putN_same, putN_same, putN_same]; rfl) (by dsimp only; rw [putN_same]) (by dsimp only; rw [putN_same]) (by dsimp only; rw [putN_same]) (by dsimp only; rw [putN_same])
      dsimp only at g6
      rw [putN_putN] at g6
      have e1 : ({ e with ps := putN e.ps p { q4 with nx := .rest, resp := R } } : Eg) = copyE e p := by
        unfold copyE
        rw [if_pos (by omega), hq4, hR]
      have e2 : (copyE e p).ps p = { q4 with nx := .rest, resp := R } := by rw [← e1]; exact putN_same _ _ _
      rw [e1] at g6
      have hg : GoDid w eb L x e (copyE e p) N p (.returned .nilFunc) ((W4.drewN j).setCell ⟨L.qs p, 8, none⟩ (.int .i64 R)) { L with cp := putN L.cp p False, mv := putN L.mv p L.sv, ma := putN L.ma p (.slice (some ⟨vb, 0, none⟩) e.n vc), mf := putN L.mf p (.slice none 0 0) } (readM M (p : Int)) := by
        refine ⟨by rw [e2, nxV_rest], g6, rfl, (o14.drewN j).trans o6 fun k _ hk => by rw [hk]; exact has_q eb L hp, hgrow _ _ _ (fun k hk => ?_) (fun r hr hc => by rw [putN_other _ _ hr] at hc; exact hc), fun k hk => .inl hk, fun r _ hn hc => by dsimp only; rw [putN_other _ _ hn]; exact hc, by rw [e2]; nofun⟩
        obtain rfl : vb = k := Option.some.inj hk
        omega
      exact ⟨_, _, hg.drewN k⟩
    · have g5 := g4.below (below_drewN (Below.refl _ _) j)
      obtain ⟨g6, o6⟩ := g5.store (p := p) hp 16 (.int .i64 0) { q4 with nx := .readAnn, asked := 0 } (by dsimp only; rw [putN_same, putN_same, putN_same, putN_same]; rfl) (by dsimp only; rw [putN_same]) (by dsimp only; rw [putN_same]) (by dsimp only; rw [putN_same]) (by dsimp only; rw [putN_same])
      dsimp only at g6
      rw [putN_putN] at g6
      have e1 : ({ e with ps := putN e.ps p { q4 with nx := .readAnn, asked := 0 } } : Eg) = copyE e p := by
        unfold copyE
        rw [if_neg (by omega), hq4]
      have e2 : (copyE e p).ps p = { q4 with nx := .readAnn, asked := 0 } := by rw [← e1]; exact putN_same _ _ _
      have e3 : (copyE e p).n = e.n := by rw [← e1]
      have e4 : (copyE e p).st = e.st := by rw [← e1]
      rw [e1] at g6
      have hlt : ∀ k, HasE eb L e.n k → k ≠ vb := fun k hk => by have := h.lt hk; omega
      have row5 : ((W4.drewN j).setCell ⟨L.qs p, 16, none⟩ (.int .i64 0)).ownsRow 0 91 2 (.slice (some ⟨vb, 0, none⟩) e.n vc) e.n (anC e.last e.n) := ownsRow_keep (w := W4) row4 fun g' hg => by
        obtain rfl : vb = g' := Option.some.inj hg
        exact o6.block _ (by have := o4.size; show vb < W4.heap.size; omega) (show vb ≠ L.qs p by omega)
      have st6 := g6.st
      have g7 := g6.take (p := p) (S' := L.S) (by dsimp only; rw [putN_same]; exact id) (fun _ hk => hk) (by dsimp only; rw [putN_same, e2, hq4, e3]; exact row5) (by dsimp only; rw [putN_same, e2, hq4]; exact OwnR.nil _ _) (by dsimp only; rw [putN_same, e2, hq4]; rw [e4] at st6; exact st6) (by dsimp only; rw [putN_same, e2, hq4]; exact h.stn)
        (fun k hk => by
          dsimp only at hk ⊢
          rw [putN_same] at hk
          obtain rfl : vb = k := Option.some.inj hk
          refine ⟨fun a => hlt _ (has_av a) rfl, fun r hr hn hc => ?_⟩
          rw [putN_other _ _ hn] at hc ⊢
          rw [e3] at hr
          exact fun a => hlt _ (has_cp hr hc (.inr a)) rfl)
        (fun k hk => by dsimp only at hk; rw [putN_same] at hk; cases hk)
        (fun k hk hS => by
          dsimp only at hk
          rw [putN_same, putN_same] at hk
          rcases hk with hk | hk
          · obtain rfl : vb = k := Option.some.inj hk
            have := h.sz _ hS
            omega
          · cases hk)
        g6.sz g6.hS
      dsimp only at g7
      rw [putN_putN] at g7
      refine ⟨_, readM M (p : Int), ⟨by rw [e2, nxV_ne _ (by nofun)]; rfl, g7, rfl, (o14.drewN j).trans o6 fun k _ hk => by rw [hk]; exact has_q eb L hp, hgrow _ _ _ (fun k hk => by
        obtain rfl : vb = k := Option.some.inj hk
        omega) (fun r hr hc => by rw [putN_other _ _ hr] at hc; exact hc), fun k hk => .inl hk, fun r _ hn hc => by dsimp only; rw [putN_other _ _ hn]; exact hc, fun _ => by dsimp only; rw [putN_same]; trivial⟩⟩
  have HA : Hid (∀ W, EgL W eb { L with cp := putN L.cp p False } x { e with ps := putN e.ps p q2 } (readM M (p : Int)) (N + 2) → Calls Try.prog 47 #[.agg #[.int .i64 e.st.kind, .slice sa e.st.L.length sc, .bool e.st.shut, .int .i64 e.st.eng, .slice (some ⟨ga, 0, none⟩) e.n gc, .slice fa fn fc]] W fun r W' =>
      ∃ vb vc, r = .returned (.agg #[.int .i64 e.st.kind, .slice sa e.st.L.length sc, .bool e.st.shut, .int .i64 e.st.eng, .slice (some ⟨vb, 0, none⟩) e.n vc, .slice none 0 0]) ∧ W'.ownsRow W.heap.size 91 2 (.slice (some ⟨vb, 0, none⟩) e.n vc) e.n (anC e.last e.n) ∧ Below W.heap.size W W') := hide fun W hW => by
    have hl := hW.last
    dsimp only at hl
    rw [hav] at hl
    refine (another_any W e.st.kind e.st.eng e.st.shut sa e.st.L.length sc fa fn fc ga e.n gc e.last hl hn).mono ?_
    rintro r W' ⟨v', h1, h2, h3⟩
    obtain ⟨vb, vc, rfl, -⟩ := row_at (ownsRow_mono h2 (Nat.zero_le _)) (by omega)
    exact ⟨vb, vc, h1, h2, h3⟩
  have HK0 : w.cell? ⟨L.qs p, 1, none⟩ = some (ptr L.l) ∧ w.cell? ⟨L.l, 2, none⟩ = some (.int .i64 0) := ⟨((h.pr p hp).cell 1 rfl).1, (h.list.cell 2 rfl).1⟩
  have HK1 : Hid (∀ W, Only (MachF L) w W → W.frozen? ⟨L.qs p, 9, none⟩ = false ∧ ∃ z, W.cell? ⟨L.qs p, 9, none⟩ = some z) := hide fun W ho => by
    have h1 := (h.cells hp ho).1
    exact ⟨(h1.cell 9 rfl).2, _, (h1.cell 9 rfl).1⟩
  have HK2 : Hid (∀ W, EgL W eb { L with cp := putN L.cp p False } x { e with ps := putN e.ps p q2 } (readM M (p : Int)) (N + 2) → W.cell? ⟨L.qs p, 1, none⟩ = some (ptr L.l) ∧ W.cell? ⟨L.l, 4, none⟩ = some (.int .i64 e.st.kind) ∧ W.cell? ⟨L.l, 5, none⟩ = some (.slice sa e.st.L.length sc) ∧ W.cell? ⟨L.l, 6, none⟩ = some (.bool e.st.shut) ∧ W.cell? ⟨L.l, 7, none⟩ = some (.int .i64 e.st.eng) ∧ W.cell? ⟨L.l, 8, none⟩ = some (.slice (some ⟨ga, 0, none⟩) e.n gc) ∧ W.cell? ⟨L.l, 9, none⟩ = some (.slice fa fn fc)) := hide fun W hW => by
    have h1 := hW.pr p hp
    have h2 := hW.list
    rw [← hsv, ← hav, ← hfv]
    exact ⟨(h1.cell 1 rfl).1, (h2.cell 4 rfl).1, (h2.cell 5 rfl).1, (h2.cell 6 rfl).1, (h2.cell 7 rfl).1, (h2.cell 8 rfl).1, (h2.cell 9 rfl).1⟩
  have HK3 : Hid (∀ W, EgL W eb { L with cp := putN L.cp p False } x { e with ps := putN e.ps p q2 } (readM M (p : Int)) (N + 2) → ∀ j, 10 ≤ j → j ≤ 15 → W.frozen? ⟨L.qs p, j, none⟩ = false ∧ ∃ z, W.cell? ⟨L.qs p, j, none⟩ = some z) := hide fun W hW j h1 h2 => by
    have hb := hW.pr p hp
    have hz : ∃ z, (pcC L.l p (x p) (L.mv p) (L.ma p) (L.mf p) ((putN e.ps p q2) p))[j]? = some z := ⟨_, Array.getElem?_eq_getElem (by show j < 17; omega)⟩
    obtain ⟨z, hz⟩ := hz
    exact ⟨(hb.cell j hz).2, z, (hb.cell j hz).1⟩
  have HEND : Hid (∀ vb vc W4, Bk 71 W4 (L.qs p) (pcC L.l p (x p) L.sv (.slice (some ⟨vb, 0, none⟩) e.n vc) (.slice none 0 0) q4) → W4.cell? ⟨vb, p * 2 + 1, none⟩ = some (.int .i64 R) → Calls Try.prog 48 #[ptr (L.qs p)] W4 fun r w' => r = .returned .nilFunc ∧ ∃ k, w' = (W4.setCell ⟨L.qs p, 8, none⟩ (.int .i64 R)).drewN k) := hide fun vb vc W4 hq hc =>
    endP_any hq rfl rfl hp _ rfl R hc
  have HQ4 : Hid (∀ W4 vb vc, Bk 71 W4 (L.qs p) (pcC L.l p (x p) L.sv (.slice (some ⟨vb, 0, none⟩) e.n vc) (.slice none 0 0) q4) → W4.cell? ⟨L.qs p, 0, none⟩ = some (.int .i64 P) ∧ W4.cell? ⟨L.qs p, 4, none⟩ = some (.int .i64 T) ∧ W4.cell? ⟨L.qs p, 14, none⟩ = some (.slice (some ⟨vb, 0, none⟩) e.n vc) ∧ W4.frozen? ⟨L.qs p, 16, none⟩ = false ∧ ∃ z, W4.cell? ⟨L.qs p, 16, none⟩ = some z) := hide fun W4 vb vc hq => by
    rw [hq4] at hq
    rw [hP, hT]
    exact ⟨(hq.cell 0 rfl).1, (hq.cell 4 rfl).1, (hq.cell 14 rfl).1, (hq.cell 16 rfl).2, _, (hq.cell 16 rfl).1⟩
  have HB2 : Hid (∀ W2 W3, EgL W2 eb { L with cp := putN L.cp p False } x { e with ps := putN e.ps p q2 } (readM M (p : Int)) (N + 2) → Below W2.heap.size W2 W3 → EgL W3 eb { L with cp := putN L.cp p False } x { e with ps := putN e.ps p q2 } (readM M (p : Int)) (N + 2)) := hide fun W2 W3 h2 hb => h2.below hb
  have hpk : P < (e.n : Int) := by omega
  obtain ⟨c1, d2⟩ := HK0
  rw [hsv] at HF HQ4 HEND
  generalize L.qs p = q at *
  generalize L.l = l at *
  clear h I F hn hsq hlg hcn hav hac hsv hfv hd hC sup hgrow hZ hT hR hd8 hq1 hq2 hq4
  generalize e.st = st at *
  generalize e.n = n at *
  subst hP
  go_enter Try.func43, Try.ntmps43
  go_wp2_with fail
  refine (HC.out _ (Below.refl _ _)).mono ?_
  rintro r W1 ⟨rfl, hm1, ho1⟩
  have HM1 := hide hm1
  have HO1 := hide ho1
  clear hm1 ho1
  obtain ⟨f9, z9, y9⟩ := HK1.out _ HO1.out
  go_upto_region 2 with fail
  have H1o := hide (H1.out W1 HM1.out HO1.out)
  have HE2 := hide (H2.out W1 H1o.out)
  obtain ⟨W2, hW2⟩ : ∃ W2, W2 = W1.setCell ⟨q, 9, none⟩ (.int .i64 C) := ⟨_, rfl⟩
  rw [← hW2] at HE2 ⊢
  have HW2 := hide hW2
  obtain ⟨a1, a4, a5, a6, a7, a8, a9⟩ := HK2.out _ HE2.out
  clear c1 d2 f9 y9 hW2
  go_wp2_with fail
  refine (HA.out _ HE2.out).mono ?_
  rintro r W3 ⟨vb, vc, rfl, ho3, hb3⟩
  have HO3 := hide ho3
  have HB3 := hide hb3
  have HE3 := hide (HB2.out _ _ HE2.out hb3)
  clear ho3 hb3 a1 a4 a5 a6 a7 a8 a9
  obtain ⟨f10, z10, y10⟩ := HK3.out _ HE3.out 10 (by omega) (by omega)
  obtain ⟨f11, z11, y11⟩ := HK3.out _ HE3.out 11 (by omega) (by omega)
  obtain ⟨f12, z12, y12⟩ := HK3.out _ HE3.out 12 (by omega) (by omega)
  obtain ⟨f13, z13, y13⟩ := HK3.out _ HE3.out 13 (by omega) (by omega)
  obtain ⟨f14, z14, y14⟩ := HK3.out _ HE3.out 14 (by omega) (by omega)
  obtain ⟨f15, z15, y15⟩ := HK3.out _ HE3.out 15 (by omega) (by omega)
  go_upto_region 3 with fail
  obtain ⟨W4, hW4⟩ : ∃ W4, W4 = (((((W3.setCell ⟨q, 10, none⟩ (.int .i64 st.kind)).setCell ⟨q, 11, none⟩ (.slice sa st.L.length sc)).setCell ⟨q, 12, none⟩ (.bool st.shut)).setCell ⟨q, 13, none⟩ (.int .i64 st.eng)).setCell ⟨q, 14, none⟩ (.slice (some ⟨vb, 0, none⟩) n vc)).setCell ⟨q, 15, none⟩ (.slice none 0 0) := ⟨_, rfl⟩
  rw [← hW4]
  have HF4 := hide (HF.out W1 W2 W3 W4 vb vc HM1.out HO1.out HW2.out HO3.out HB3.out hW4)
  obtain ⟨b0, b4, b14, f16, z16, y16⟩ := HQ4.out _ _ _ HF4.out.1
  have bz := HF4.out.2.1
  clear f10 f11 f12 f13 f14 f15 y10 y11 y12 y13 y14 y15 hW4
  by_cases hz : Z = T
  · have HZ := hide hz
    have hdz : decide (Z = T) = true := decide_eq_true hz
    have hdz2 : (Z == T) = true := by simp [hz]
    go_quiet (fail)
    go_wp2_with fail
    refine Calls.mono (HEND.out vb vc (W4.drewN _) (HF4.out.1.keep rfl) HF4.out.2.2.1) ?_
    rintro r w' ⟨rfl, k, rfl⟩
    go_wp2
    go_ret
    exact HF4.out.2.2.2.1 HZ.out _ k
  · have HZ := hide hz
    have hdz : decide (Z = T) = false := decide_eq_false hz
    have hdz2 : (Z == T) = false := by simp [hz]
    go_quiet (fail)
    go_wp2
    go_ret
    exact HF4.out.2.2.2.2 HZ.out _

end Go.Proofs.Ytedfacbngefhnaa
