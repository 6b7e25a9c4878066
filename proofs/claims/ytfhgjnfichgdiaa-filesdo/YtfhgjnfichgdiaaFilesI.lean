/- Contracts of the landed files: what a loss of power makes of the bytes; Crash. -/
import Derived.Test.YtfhgjnfichgdiaaFilesH
namespace Go.Proofs.Ytfhgjnfichgdiaa
open Go.RowKit

theorem bytes_head {w : World} {v : Value} {l : List UInt8} (h : Own w 0 v l) : ∃ ao cap, v = .slice ao l.length cap ∧ l.length ≤ cap ∧ ((ao = none ∧ cap = 0) ∨ ∃ g, ao = some ⟨g, 0, none⟩) := rowHead h

/-- A file that is cut. -/
theorem DiskL.cutFile {F : Nat → Prop} {w : World} {p : Nat} {L : Lay} {d : Dk} {u : Int} {N f k : Nat} {ao : Option Addr} {cap : Nat} (h : DiskL F w p L d u N) (hf : f < d.files.length) (hv : L.vs f = .slice ao (fl d.files f).b.length cap) (hk : k ≤ (fl d.files f).b.length) :
    DiskL F ((w.setCell ⟨L.ps f, 1, none⟩ (.int .i64 (k : Int))).setCell ⟨L.ps f, 0, none⟩ (.slice ao k cap)) p { L with vs := fun i => if i = f then .slice ao k cap else L.vs i } { d with files := d.files.set f ⟨(fl d.files f).b.take k, k⟩ } u N := by
  have hx := h.rest.file f hf
  have hne : ∀ g, (L.vs f).ownBlock = some g → g ≠ L.ps f := fun g hg => by
    obtain ⟨cs', hb'⟩ := ownBk hx.own hg
    exact hb'.ne hx.box (by decide)
  have e1 : (Value.slice ao k cap).ownBlock = (L.vs f).ownBlock := by rw [hv]; cases ao <;> rfl
  have ho : Own w 0 (.slice ao k cap) ((fl d.files f).b.take k) := by
    have := hx.own
    rw [hv] at this
    exact this.front k hk
  refine h.setFile (F' := F) hf (fun j _ h1 _ => by rw [Below.heap_setCell _ _ _ _ h1, Below.heap_setCell _ _ _ _ h1]) ⟨(hx.box.set 1 _).set 0 _, ownsRow_keep ho fun g hg => ?_⟩ (.inl e1) (fun _ hj => hj) (fun g hg => h.rest.fv f hf g (by rw [← e1]; exact hg)) (fun j hj => by simpa using h.lt j hj)
  have := hne g (by rw [← e1]; exact hg)
  rw [Below.heap_setCell _ _ _ _ this, Below.heap_setCell _ _ _ _ this]

theorem wrap64n {n : Nat} (h : n ≤ 1000000000000000) : IntKind.i64.wrap (n : Int) = (n : Int) := by
  rw [IntKind.wrap_i64]
  omega

theorem take_succ_snoc {l : Dir} {i : Nat} (h : i < l.length) : l.take (i + 1) = l.take i ++ [l[i]] := List.take_succ_eq_append_getElem h

theorem apart_take {l : Dir} (h : Apart l) {i : Nat} (hi : i < l.length) : ∀ p ∈ l.take i, p.2 ≠ l[i].2 := by
  intro p hp
  have h1 : Apart (l.take (i + 1)) := List.Pairwise.sublist (List.take_sublist _ _) h
  rw [take_succ_snoc hi] at h1
  exact (List.pairwise_append.1 h1).2.2 p hp _ (List.mem_singleton.2 rfl)

theorem crashF_at (keep : List Int) {l : Dir} (h : Apart l) {i : Nat} (hi : i < l.length) (fs : List Fl) : crashF keep (l.take (i + 1)) 0 fs = (crashF keep (l.take i) 0 fs).set l[i].2 (cutF (fl fs l[i].2) (pickK keep i)) := by
  rw [take_succ_snoc hi, crashF_snoc, crashF_other keep _ 0 fs _ (apart_take h hi)]
  have : (l.take i).length = i := by rw [List.length_take]; omega
  rw [this, Nat.zero_add]

theorem sumB_crash (keep : List Int) {l : Dir} (h : Apart l) {i : Nat} (hi : i < l.length) {fs : List Fl} (hf : l[i].2 < fs.length) (hk : ∀ x ∈ fs, x.k ≤ x.b.length) :
    sumB (crashF keep (l.take (i + 1)) 0 fs) (l.take (i + 1)) = sumB (crashF keep (l.take i) 0 fs) (l.take i) + (cutF (fl fs l[i].2) (pickK keep i)).k := by
  rw [crashF_at keep h hi]
  have h1 : sumB ((crashF keep (l.take i) 0 fs).set l[i].2 (cutF (fl fs l[i].2) (pickK keep i))) (l.take i) = sumB (crashF keep (l.take i) 0 fs) (l.take i) := sumB_ext fun p hp => by rw [fl_set_other (fun e => apart_take h hi p hp e.symm)]
  have h2 : (fl ((crashF keep (l.take i) 0 fs).set l[i].2 (cutF (fl fs l[i].2) (pickK keep i))) l[i].2).b.length = (cutF (fl fs l[i].2) (pickK keep i)).k := by
    rw [fl_set_same (by rw [crashF_length]; exact hf), cutF_len (fl_keep hk _)]
  rw [take_succ_snoc hi, sumB_append, h1, sumB_cons, sumB_nil, h2]
  rfl

theorem bytes_crashF {T : Nat} (keep : List Int) : ∀ (l : Dir) (i : Nat) (fs : List Fl), (∀ x ∈ fs, x.b.length ≤ T) → (∀ p ∈ l, p.2 < fs.length) → ∀ x ∈ crashF keep l i fs, x.b.length ≤ T
  | [], _, _, h, _ => h
  | p :: l, i, fs, h, hl => by
    rw [crashF]
    refine bytes_crashF keep l (i + 1) _ (fun x hx => ?_) (fun q hq => by rw [List.length_set]; exact hl q (List.mem_cons_of_mem _ hq))
    rcases List.mem_or_eq_of_mem_set hx with hx | rfl
    · exact h x hx
    · have := h _ (mem_fl (hl p (List.mem_cons_self ..)))
      simp only [cutF, List.length_take]
      omega

set_option maxRecDepth 100000 in
set_option maxHeartbeats 4000000 in
theorem loseBytes_any {F : Nat → Prop} {p : Nat} {L : Lay} {d : Dk} {u : Int} {N T : Nat} (vk : Value) (keep : List Int) (w : World) (h : DiskL F w p L d u N) (hw : d.waits = []) (hok : OkD d) (hbn : Bnd d N T) (hN : N ≤ 1000000) (hT : T ≤ 1000000000) (hr : RdI w vk keep) (hkv : keep = [] ∨ ∀ k, vk.ownBlock = some k → ¬ F k) (hkl : keep.length ≤ 1000000000) :
    Calls Try.prog 39 #[ptr p, vk] w fun e w' => e = .returned (.tuple #[]) ∧ (∃ L', DiskL F w' p L' { d with files := crashF keep d.kept 0 d.files } (sumB (crashF keep d.kept 0 d.files) d.kept : Nat) N) ∧ Only F w w' := by
  have H := hide h
  have HOK := hide hok
  have HBN := hide hbn
  have HRK := hide hr
  have HKV := hide hkv
  obtain ⟨⟨-, c1, -, -, -, -⟩, f1, -⟩ := h.cells
  obtain ⟨ka, kc, rfl, -⟩ := hr
  obtain ⟨l, hl⟩ : ∃ l, l = d.kept := ⟨_, rfl⟩
  have HDD : Hid (dirD d = l) := hide (by unfold dirD; rw [hw, hl]; rfl)
  have HLL : Hid (l.length ≤ N) := hide (by have := hbn.names; rw [hl]; omega)
  have HOL : Hid (OkL d.files.length l) := hide (by rw [hl]; exact hok.kept)
  have HLK := hide hl
  have HD1 := hide (h.setHead 1 (.int .i64 0) (d' := d) (u' := 0) ⟨rfl, rfl, rfl⟩ rfl)
  have HON1 : Hid (Only F w (w.setCell ⟨p, 1, none⟩ (.int .i64 0))) := hide ((Only.refl _ _).setCell 1 (fun _ => h.fh) _)
  obtain ⟨W1, hW1⟩ : ∃ W1, W1 = w.setCell ⟨p, 1, none⟩ (.int .i64 0) := ⟨_, rfl⟩
  rw [← hW1] at HD1 HON1
  have HNM := hide (names_any W1 HD1.out hok hN)
  have HRK1 := hide (HRK.out.onlyE HON1.out hkv)
  have HW1 := hide hW1
  clear hW1 h hok hbn hkv hl hw
  go_enter Try.func39, Try.ntmps39
  go_upto_region 1 with fail
  rw [← HW1.out]
  clear HW1 c1 f1
  go_wp2_with fail
  refine HNM.out.mono ?_
  rintro e W2 ⟨vn, rfl, hon, hb2⟩
  rw [HDD.out] at hon
  have HNI : Hid (∀ x ∈ l.map Prod.fst, I64 x) := hide (fun x hx => by
    obtain ⟨q, hq, rfl⟩ := List.mem_map.1 hx
    exact mayF_i64 (HOL.out.may q hq).1)
  have HRN := hide (hon.rd HNI.out)
  have HNB : Hid (∀ k, vn.ownBlock = some k → ¬ F k) := hide (fun k hk hf => by
    have h1 := (World.ownsRow.lt hon k hk).1
    have h2 := HD1.out.lt k hf
    omega)
  have HD2 : Hid (DiskL F W2 p L d 0 N) := hide (HD1.out.keep (fun k hf => hb2.block k (HD1.out.lt k hf)) hb2.size)
  have HON2 : Hid (Only F w W2) := hide (HON1.out.trans (G := fun _ => False) (Only.ofBelow hb2) (fun _ _ hf => hf.elim))
  have HRK2 := hide (HRK1.out.below hb2 (Nat.le_refl _))
  obtain ⟨na, nc, rfl, -⟩ := HRN.out
  clear hon hb2 HNM HRK1 HRK HD1 HON1 H
  have hll : (l.map Prod.fst).length = l.length := List.length_map ..
  rw [hll]
  go_wp2
  go_loopw [14] (fun vi wr => ∃ i : Nat, vi = .int .i64 (i : Int) ∧ i ≤ l.length ∧ ∃ Li, Hid (DiskL F wr p Li { d with files := crashF keep (l.take i) 0 d.files } (sumB (crashF keep (l.take i) 0 d.files) (l.take i) : Nat) N) ∧ Hid (Only F W2 wr)) (fun vi _ => l.length - (intOf vi).toNat)
  case atStart => exact ⟨0, rfl, Nat.zero_le _, L, by simpa [crashF, sumB] using HD2, hide (Only.refl _ _)⟩
  case round =>
    obtain ⟨i, rfl, hil, Li, HDI, HOI⟩ := hrel
    by_cases hlt : i < l.length
    case neg =>
      have hi : i = l.length := by omega
      subst hi
      rw [List.take_length, HLK.out] at HDI
      go_wp2
      go_end0
      exact ⟨rfl, ⟨Li, HDI.out⟩, HON2.out.trans HOI.out (fun _ _ hf => hf)⟩
    obtain ⟨n, f, hnf⟩ : ∃ n f, l[i] = (n, f) := ⟨_, _, rfl⟩
    have hmem : (n, f) ∈ l := by rw [← hnf]; exact List.getElem_mem hlt
    have hfl : f < d.files.length := (HOL.out.may _ hmem).2
    have hin : I64 n := mayF_i64 (HOL.out.may _ hmem).1
    have hlen : (crashF keep (l.take i) 0 d.files).length = d.files.length := crashF_length _ _ _ _
    obtain ⟨x, hx⟩ : ∃ x, x = fl d.files f := ⟨_, rfl⟩
    have hfx : fl (crashF keep (l.take i) 0 d.files) f = x := by
      rw [hx]
      refine crashF_other keep _ 0 _ _ fun q hq => ?_
      have := apart_take HOL.out.apart hlt q hq
      rw [hnf] at this
      exact this
    have HXF : Hid (FileV wr (Li.ps f) (Li.vs f) x) := hide (by
      have := HDI.out.rest.file f (by show f < (crashF keep (l.take i) 0 d.files).length; omega)
      rw [← hfx]
      exact this)
    have hkx : x.k ≤ x.b.length := by rw [hx]; exact fl_keep HOK.out.keep f
    have hbx : x.b.length ≤ T := by rw [hx]; exact HBN.out.bytes _ (mem_fl hfl)
    obtain ⟨ao, cap, hvs, hcap, hao⟩ := bytes_head HXF.out.own
    have g0 : wr.cell? ⟨Li.ps f, 0, none⟩ = some (.slice ao x.b.length cap) := by rw [← hvs]; exact (HXF.out.box.cell 0 rfl).1
    have y0 : wr.frozen? ⟨Li.ps f, 0, none⟩ = false := (HXF.out.box.cell 0 rfl).2
    have g1 : wr.cell? ⟨Li.ps f, 1, none⟩ = some (.int .i64 (x.k : Int)) := (HXF.out.box.cell 1 rfl).1
    have y1 : wr.frozen? ⟨Li.ps f, 1, none⟩ = false := (HXF.out.box.cell 1 rfl).2
    obtain ⟨U, hU⟩ : ∃ U : Nat, U = sumB (crashF keep (l.take i) 0 d.files) (l.take i) := ⟨_, rfl⟩
    have hUb : U ≤ 1000000000000000 := by
      rw [hU]
      have h1 := sumB_le (T := T) (fs := crashF keep (l.take i) 0 d.files) (bytes_crashF keep _ 0 _ HBN.out.bytes (fun q hq => (HOL.out.may q (List.mem_of_mem_take hq)).2)) (l.take i) (fun q hq => by rw [hlen]; exact (HOL.out.may q (List.mem_of_mem_take hq)).2)
      have h2 : (l.take i).length ≤ N := by have := HLL.out; rw [List.length_take]; omega
      have h3 : (l.take i).length * T ≤ 1000000 * 1000000000 := Nat.mul_le_mul (by omega) hT
      omega
    rw [← hU] at HDI
    have k1 : wr.cell? ⟨p, 1, none⟩ = some (.int .i64 (U : Int)) := HDI.out.cells.1.2.1
    have j1 : wr.frozen? ⟨p, 1, none⟩ = false := HDI.out.cells.2.1
    have k2 : wr.cell? ⟨p, 2, none⟩ = some (.map (some Li.now)) := HDI.out.cells.1.2.2.1
    have hlook : (Instr.lookup 51 (.map (some Li.now)) (.int .i64 n) false).run Try.prog wr = .ok (.pointer (some ⟨Li.ps f, 0, none⟩)) wr := by
      have h1 := HDI.out.rest.now.look1 hin
      have h2 : look (dirD { d with files := crashF keep (l.take i) 0 d.files }) n = some f := by
        show look (dirD d) n = some f
        rw [HDD.out]
        exact (look_mem HOL.out.rise n f).2 hmem
      rw [h2] at h1
      exact h1
    obtain ⟨nb, noff, rfl, hnc⟩ : ∃ nb noff, na = some ⟨nb, noff, none⟩ ∧ wr.cell? ⟨nb, noff + i, none⟩ = some (.int .i64 n) := by
      have h1 := HRN.out.only HOI.out HNB.out
      obtain ⟨a', c', hv', _, _, _, _, h6⟩ := h1
      simp only [Value.slice.injEq] at hv'
      obtain ⟨rfl, _, rfl⟩ := hv'
      rcases h6 with h6 | ⟨nb, noff, rfl, h7⟩
      · have : l = [] := by simpa using h6
        rw [this] at hlt
        simp at hlt
      · refine ⟨nb, noff, rfl, ?_⟩
        have h8 := h7 i (by simpa using hlt)
        rw [h8]
        simp [List.getD, hlt, hnf]
    obtain ⟨A, hA⟩ : ∃ A, A = pickK keep i := ⟨_, rfl⟩
    obtain ⟨m, hm⟩ : ∃ m, m = x.b.length - x.k := ⟨_, rfl⟩
    have hsub : (x.b.length : Int) - (x.k : Int) = (m : Int) := by omega
    obtain ⟨sh, hsh⟩ : ∃ sh, sh = shareN A m := ⟨_, rfl⟩
    have hshm : sh ≤ m := by rw [hsh]; exact shareN_le _ _
    obtain ⟨kk, hkk⟩ : ∃ kk, kk = x.k + sh := ⟨_, rfl⟩
    have hadd : (x.k : Int) + (sh : Int) = (kk : Int) := by omega
    have hkkb : kk ≤ x.b.length := by omega
    have HSH : Hid (∀ W, Calls Try.prog 55 #[.int .i64 A, .int .i64 (m : Int)] W fun e w' => e = .returned (.int .i64 (sh : Int)) ∧ w' = W) := hide (fun W => by rw [hsh]; exact share_any A m (by omega) W)
    have HCU : Hid (cutF x A = ⟨x.b.take kk, kk⟩) := hide (by rw [hkk, hsh, hm]; rfl)
    have HNX : Hid (DiskL F (((wr.setCell ⟨Li.ps f, 1, none⟩ (.int .i64 (kk : Int))).setCell ⟨Li.ps f, 0, none⟩ (.slice ao kk cap)).setCell ⟨p, 1, none⟩ (.int .i64 ((U : Int) + (kk : Int)))) p { Li with vs := fun j => if j = f then .slice ao kk cap else Li.vs j } { d with files := crashF keep (l.take (i + 1)) 0 d.files } (sumB (crashF keep (l.take (i + 1)) 0 d.files) (l.take (i + 1)) : Nat) N) := hide (by
      have h1 := HDI.out.cutFile (f := f) (k := kk) (ao := ao) (cap := cap) (by show f < (crashF keep (l.take i) 0 d.files).length; omega) (by show Li.vs f = .slice ao (fl (crashF keep (l.take i) 0 d.files) f).b.length cap; rw [hfx]; exact hvs) (by show kk ≤ (fl (crashF keep (l.take i) 0 d.files) f).b.length; rw [hfx]; exact hkkb)
      have h2 := sumB_crash keep HOL.out.apart hlt (fs := d.files) (by rw [hnf]; exact hfl) HOK.out.keep
      have h3 := crashF_at keep HOL.out.apart hlt d.files
      rw [hnf, ← hx, ← hA, HCU.out] at h2 h3
      rw [h2, h3, ← hU]
      dsimp only at h1
      rw [hfx] at h1
      have e1 : ((U + kk : Nat) : Int) = (U : Int) + (kk : Int) := by omega
      show DiskL F _ p _ _ ((U + kk : Nat) : Int) N
      rw [e1]
      exact h1.setHead 1 _ ⟨rfl, rfl, rfl⟩ rfl)
    have HOX : Hid (Only F W2 (((wr.setCell ⟨Li.ps f, 1, none⟩ (.int .i64 (kk : Int))).setCell ⟨Li.ps f, 0, none⟩ (.slice ao kk cap)).setCell ⟨p, 1, none⟩ (.int .i64 ((U : Int) + (kk : Int))))) := hide (((HOI.out.setCell 1 (fun _ => HDI.out.rest.fp f (by show f < (crashF keep (l.take i) 0 d.files).length; omega)) _).setCell 0 (fun _ => HDI.out.rest.fp f (by show f < (crashF keep (l.take i) 0 d.files).length; omega)) _).setCell 1 (fun _ => HDI.out.fh) _)
    have HPN : Hid (p ≠ Li.ps f) := hide (HDI.out.head.ne HXF.out.box (by decide))
    obtain ⟨P, hP⟩ : ∃ P, P = Li.ps f := ⟨_, rfl⟩
    have HBX : Hid (Bk 70 wr (Li.ps f) #[.slice ao x.b.length cap, .int .i64 (x.k : Int)]) := hide (by rw [← hvs]; exact HXF.out.box)
    obtain ⟨DI, hDI⟩ : ∃ DI, DI = { d with files := crashF keep (l.take i) 0 d.files } := ⟨_, rfl⟩
    have HBP : Hid (Bk 55 wr p (headC Li DI (U : Int))) := hide (by rw [hDI]; exact HDI.out.head)
    clear hDI
    rw [← hP] at g0 y0 g1 y1 hlook HNX HOX HPN HBX
    obtain ⟨bl, hbl⟩ : ∃ bl, bl = x.b.length := ⟨_, rfl⟩
    obtain ⟨xk, hxk⟩ : ∃ xk, xk = x.k := ⟨_, rfl⟩
    rw [← hbl] at g0 hsub hkkb hbx hcap HBX
    rw [← hxk] at g1 hsub hadd HBX
    have hkcap : kk ≤ cap := by omega
    have HA := hide hA
    have HRKI := hide (HRK2.out.onlyE HOI.out HKV.out)
    clear hnf hmem hfl hin hlen hx hfx hkx hvs hU hA hm hsh hshm hkk hP hbl hxk HXF HDI HOI HCU
    have HLT := hide hlt
    have hib : i ≤ 1000000 := by have := HLL.out; omega
    have hwm : IntKind.i64.wrap (m : Int) = (m : Int) := wrap64n (by omega)
    have hwk : IntKind.i64.wrap (kk : Int) = (kk : Int) := wrap64n (by omega)
    have HS1 : Hid ((wr.setCell ⟨P, 1, none⟩ (.int .i64 (kk : Int))).cell? ⟨P, 0, none⟩ = some (.slice ao bl cap)) := hide (by
      rw [World.cell?_setCell_other _ _ _ _ (by intro h; injection h with _ h; cases h)]
      exact g0)
    by_cases hk0 : keep.length = 0
    · have e0 : A = 0 := by rw [HA.out]; exact if_pos hk0
      subst e0
      have hkz : decide ((keep.length : Int) > 0) = false := decide_eq_false (by omega)
      have hkz2 : decide (0 < keep.length) = false := decide_eq_false (by omega)
      clear hk0

      go_upto_region 7 with fail
      clear hnc hlook k2
      go_cut [] (fun wd => Hid (∃ q, wd = (wr.setCell ⟨P, 1, none⟩ (.int .i64 (kk : Int))).drewN q))
      case first =>
        refine wp_region_held_drew (S := fun w' => w'.cell? ⟨P, 0, none⟩ = some (.slice ao bl cap)) (by kernel_rfl) (by exact g0) (fun hHeld => ?_)
        refine wpAnyH_take (i := 0) (v := ?_) rfl (by kernel_rfl) (by kernel_rfl) (by kernel_rfl) (fun _ _ _ h => h) (Or.inl ⟨by rfl, ?_⟩) (by assumption) ?_
        rotate_left
        · intro wx hSw
          go_simp
          try with_reducible rfl
        simp only [Act.put, List.getElem_toArray, List.getElem_cons_zero, List.setIfInBounds_toArray, List.set_cons_zero, List.set_cons_succ]
        refine wpAnyH_take (i := 1) (v := ?_) rfl (by kernel_rfl) (by kernel_rfl) (by kernel_rfl) (fun _ _ _ h => h) (Or.inl ⟨by rfl, ?_⟩) (by assumption) ?_
        rotate_left
        · intro wx hSw
          go_simp
          try with_reducible rfl
        simp only [Act.put, List.getElem_toArray, List.getElem_cons_zero, List.getElem_cons_succ, List.setIfInBounds_toArray, List.set_cons_zero, List.set_cons_succ]
        refine wpAnyH_take (i := 2) (v := ?_) rfl (by kernel_rfl) (by kernel_rfl) (by kernel_rfl) (fun _ _ _ h => h) (Or.inl ⟨by rfl, ?_⟩) (by assumption) ?_
        rotate_left
        · intro wx hSw
          go_simp
          try with_reducible rfl
        simp only [Act.put, List.getElem_toArray, List.getElem_cons_zero, List.getElem_cons_succ, List.setIfInBounds_toArray, List.set_cons_zero, List.set_cons_succ]
        refine wpAnyH_take (i := 4) (v := ?_) rfl (by kernel_rfl) (by kernel_rfl) (by kernel_rfl) (fun _ _ _ h => h) (Or.inl ⟨by rfl, ?_⟩) (by assumption) ?_
        rotate_left
        · intro wx hSw
          go_simp
          try with_reducible rfl
        simp only [Act.put, List.getElem_toArray, List.getElem_cons_zero, List.getElem_cons_succ, List.setIfInBounds_toArray, List.set_cons_zero, List.set_cons_succ]
        refine wpAnyH_take (i := 5) (v := ?_) rfl (by kernel_rfl) (by kernel_rfl) (by kernel_rfl) (fun _ _ _ h => h) (Or.inl ⟨by rfl, ?_⟩) (by assumption) ?_
        rotate_left
        · intro wx hSw
          go_simp
          try with_reducible rfl
        simp only [Act.put, List.getElem_toArray, List.getElem_cons_zero, List.getElem_cons_succ, List.setIfInBounds_toArray, List.set_cons_zero, List.set_cons_succ]
        refine wpAnyH_take (i := 6) (v := ?_) rfl (by kernel_rfl) (by kernel_rfl) (by kernel_rfl) (fun _ _ _ h => h) (Or.inl ⟨by rfl, ?_⟩) (by assumption) ?_
        rotate_left
        · intro wx hSw
          go_simp
          try with_reducible rfl
        simp only [Act.put, List.getElem_toArray, List.getElem_cons_zero, List.getElem_cons_succ, List.setIfInBounds_toArray, List.set_cons_zero, List.set_cons_succ]
        refine wpAnyH_take (i := 7) (v := ?_) rfl (by kernel_rfl) (by kernel_rfl) (by kernel_rfl) (fun _ _ _ h => h) (Or.inl ⟨by rfl, ?_⟩) (by assumption) ?_
        rotate_left
        · intro wx hSw
          go_simp
          try with_reducible rfl
        simp only [Act.put, List.getElem_toArray, List.getElem_cons_zero, List.getElem_cons_succ, List.setIfInBounds_toArray, List.set_cons_zero, List.set_cons_succ]
        refine wpAnyH_take (i := 8) (v := ?_) rfl (by kernel_rfl) (by kernel_rfl) (by kernel_rfl) (fun _ _ _ h => h) (Or.inl ⟨by rfl, ?_⟩) (by assumption) ?_
        rotate_left
        · intro wx hSw
          go_simp
          try with_reducible rfl
        simp only [Act.put, List.getElem_toArray, List.getElem_cons_zero, List.getElem_cons_succ, List.setIfInBounds_toArray, List.set_cons_zero, List.set_cons_succ]
        refine wpAnyH_take (i := 9) (v := ?_) rfl (by kernel_rfl) (by kernel_rfl) (by kernel_rfl) (fun _ _ _ h => h) (Or.inl ⟨by rfl, ?_⟩) (by assumption) ?_
        rotate_left
        · intro wx hSw
          go_simp
          try with_reducible rfl
        simp only [Act.put, List.getElem_toArray, List.getElem_cons_zero, List.getElem_cons_succ, List.setIfInBounds_toArray, List.set_cons_zero, List.set_cons_succ]
        refine wpAnyH_take (i := 10) (v := ?_) rfl (by kernel_rfl) (by kernel_rfl) (by kernel_rfl) (fun _ _ _ h => h) (Or.inl ⟨by rfl, ?_⟩) (by assumption) ?_
        rotate_left
        · intro wx hSw
          go_simp
          try with_reducible rfl
        simp only [Act.put, List.getElem_toArray, List.getElem_cons_zero, List.getElem_cons_succ, List.setIfInBounds_toArray, List.set_cons_zero, List.set_cons_succ]
        refine wpAnyH_take (i := 11) (v := ?_) rfl (by kernel_rfl) (by kernel_rfl) (by kernel_rfl) (fun _ _ _ h => h) (Or.inl ⟨by rfl, ?_⟩) (by assumption) ?_
        rotate_left
        · intro wx hSw
          go_simp
          try with_reducible rfl
        simp only [Act.put, List.getElem_toArray, List.getElem_cons_zero, List.getElem_cons_succ, List.setIfInBounds_toArray, List.set_cons_zero, List.set_cons_succ]
        refine wpAnyH_take (i := 12) (v := ?_) rfl (by kernel_rfl) (by kernel_rfl) (by kernel_rfl) (fun _ _ _ h => h) (Or.inl ⟨by rfl, ?_⟩) (by assumption) ?_
        rotate_left
        · intro wx hSw
          go_simp
          try with_reducible rfl
        simp only [Act.put, List.getElem_toArray, List.getElem_cons_zero, List.getElem_cons_succ, List.setIfInBounds_toArray, List.set_cons_zero, List.set_cons_succ]
        refine wpAnyH_ready (rs := [3,13]) (by kernel_rfl) (by simp) ?_
        refine AllReadyH.cons rfl (fun K' hK => ?_) (AllReadyH.cons rfl (fun K' hK => ?_) AllReadyH.nil)
        · go_simp
          refine hK.out _ _ (by exact g0) (fun hHeld => ?_)
          clear hK K'
          refine wpAnyH_ready (rs := [13]) (by kernel_rfl) (by simp) ?_
          refine AllReadyH.cons rfl (fun K' hK => ?_) AllReadyH.nil
          go_simp
          refine hK.out _ _ (by exact g0) (fun hHeld => ?_)
          clear hK K'
          refine wpAnyH_take (i := 14) (v := ?_) rfl (by kernel_rfl) (by kernel_rfl) (by kernel_rfl) (fun _ _ _ h => h) (Or.inl ⟨by rfl, ?_⟩) (by assumption) ?_
          rotate_left
          · intro wx hSw
            go_simp
            try with_reducible rfl
          simp only [Act.put, List.getElem_toArray, List.getElem_cons_zero, List.getElem_cons_succ, List.setIfInBounds_toArray, List.set_cons_zero, List.set_cons_succ]
          refine wpAnyH_ready (rs := [15]) (by kernel_rfl) (by simp) ?_
          refine AllReadyH.cons rfl (fun K' hK => ?_) AllReadyH.nil
          go_simp
          go_wp2_with ((go_at_call 55; refine (HSH.out _).mono ?_; rintro e w5 ⟨rfl, rfl⟩))
          refine hK.out _ _ (by exact g0) (fun hHeld => ?_)
          clear hK K'
          refine wpAnyH_take (i := 16) (v := ?_) rfl (by kernel_rfl) (by kernel_rfl) (by kernel_rfl) (fun _ _ _ h => h) (Or.inl ⟨by rfl, ?_⟩) (by assumption) ?_
          rotate_left
          · intro wx hSw
            go_simp
            try with_reducible rfl
          simp only [Act.put, List.getElem_toArray, List.getElem_cons_zero, List.getElem_cons_succ, List.setIfInBounds_toArray, List.set_cons_zero, List.set_cons_succ]
          refine wpAnyH_take (i := 17) (v := ?_) rfl (by kernel_rfl) (by kernel_rfl) (by kernel_rfl) (fun _ _ _ h => h) (Or.inl ⟨by rfl, ?_⟩) (by assumption) ?_
          rotate_left
          · intro wx hSw
            go_simp
            try with_reducible rfl
          simp only [Act.put, List.getElem_toArray, List.getElem_cons_zero, List.getElem_cons_succ, List.setIfInBounds_toArray, List.set_cons_zero, List.set_cons_succ]
          refine wpAnyH_take (i := 18) (v := ?_) rfl (by kernel_rfl) (by kernel_rfl) (by kernel_rfl) (fun _ _ _ h => h) (Or.inl ⟨by rfl, ?_⟩) (by assumption) ?_
          rotate_left
          · intro wx hSw
            go_simp
            try with_reducible rfl
          simp only [Act.put, List.getElem_toArray, List.getElem_cons_zero, List.getElem_cons_succ, List.setIfInBounds_toArray, List.set_cons_zero, List.set_cons_succ]
          refine wpAnyH_ready (rs := [19]) (by kernel_rfl) (by simp) ?_
          refine AllReadyH.cons rfl (fun K' hK => ?_) AllReadyH.nil
          go_simp
          refine hK.out _ _ (by exact HS1.out) (fun hHeld => ?_)
          clear hK K'
          refine wpAnyH_done (by kernel_rfl) ?_ _
          go_wp2_with fail
          go_meet
          exact hide ⟨1, rfl⟩
        · go_simp
          refine hK.out _ _ (by exact g0) (fun hHeld => ?_)
          clear hK K'
          refine wpAnyH_take (i := 14) (v := ?_) rfl (by kernel_rfl) (by kernel_rfl) (by kernel_rfl) (fun _ _ _ h => h) (Or.inl ⟨by rfl, ?_⟩) (by assumption) ?_
          rotate_left
          · intro wx hSw
            go_simp
            try with_reducible rfl
          simp only [Act.put, List.getElem_toArray, List.getElem_cons_zero, List.getElem_cons_succ, List.setIfInBounds_toArray, List.set_cons_zero, List.set_cons_succ]
          refine wpAnyH_ready (rs := [3,15]) (by kernel_rfl) (by simp) ?_
          refine AllReadyH.cons rfl (fun K' hK => ?_) (AllReadyH.cons rfl (fun K' hK => ?_) AllReadyH.nil)
          · go_simp
            refine hK.out _ _ (by exact g0) (fun hHeld => ?_)
            clear hK K'
            refine wpAnyH_ready (rs := [15]) (by kernel_rfl) (by simp) ?_
            refine AllReadyH.cons rfl (fun K' hK => ?_) AllReadyH.nil
            go_simp
            go_wp2_with ((go_at_call 55; refine (HSH.out _).mono ?_; rintro e w5 ⟨rfl, rfl⟩))
            refine hK.out _ _ (by exact g0) (fun hHeld => ?_)
            clear hK K'
            refine wpAnyH_take (i := 16) (v := ?_) rfl (by kernel_rfl) (by kernel_rfl) (by kernel_rfl) (fun _ _ _ h => h) (Or.inl ⟨by rfl, ?_⟩) (by assumption) ?_
            rotate_left
            · intro wx hSw
              go_simp
              try with_reducible rfl
            simp only [Act.put, List.getElem_toArray, List.getElem_cons_zero, List.getElem_cons_succ, List.setIfInBounds_toArray, List.set_cons_zero, List.set_cons_succ]
            refine wpAnyH_take (i := 17) (v := ?_) rfl (by kernel_rfl) (by kernel_rfl) (by kernel_rfl) (fun _ _ _ h => h) (Or.inl ⟨by rfl, ?_⟩) (by assumption) ?_
            rotate_left
            · intro wx hSw
              go_simp
              try with_reducible rfl
            simp only [Act.put, List.getElem_toArray, List.getElem_cons_zero, List.getElem_cons_succ, List.setIfInBounds_toArray, List.set_cons_zero, List.set_cons_succ]
            refine wpAnyH_take (i := 18) (v := ?_) rfl (by kernel_rfl) (by kernel_rfl) (by kernel_rfl) (fun _ _ _ h => h) (Or.inl ⟨by rfl, ?_⟩) (by assumption) ?_
            rotate_left
            · intro wx hSw
              go_simp
              try with_reducible rfl
            simp only [Act.put, List.getElem_toArray, List.getElem_cons_zero, List.getElem_cons_succ, List.setIfInBounds_toArray, List.set_cons_zero, List.set_cons_succ]
            refine wpAnyH_ready (rs := [19]) (by kernel_rfl) (by simp) ?_
            refine AllReadyH.cons rfl (fun K' hK => ?_) AllReadyH.nil
            go_simp
            refine hK.out _ _ (by exact HS1.out) (fun hHeld => ?_)
            clear hK K'
            refine wpAnyH_done (by kernel_rfl) ?_ _
            go_wp2_with fail
            go_meet
            exact hide ⟨1, rfl⟩
          · go_simp
            go_wp2_with ((go_at_call 55; refine (HSH.out _).mono ?_; rintro e w5 ⟨rfl, rfl⟩))
            refine hK.out _ _ (by exact g0) (fun hHeld => ?_)
            clear hK K'
            refine wpAnyH_ready (rs := [3]) (by kernel_rfl) (by simp) ?_
            refine AllReadyH.cons rfl (fun K' hK => ?_) AllReadyH.nil
            go_simp
            refine hK.out _ _ (by exact g0) (fun hHeld => ?_)
            clear hK K'
            refine wpAnyH_take (i := 16) (v := ?_) rfl (by kernel_rfl) (by kernel_rfl) (by kernel_rfl) (fun _ _ _ h => h) (Or.inl ⟨by rfl, ?_⟩) (by assumption) ?_
            rotate_left
            · intro wx hSw
              go_simp
              try with_reducible rfl
            simp only [Act.put, List.getElem_toArray, List.getElem_cons_zero, List.getElem_cons_succ, List.setIfInBounds_toArray, List.set_cons_zero, List.set_cons_succ]
            refine wpAnyH_take (i := 17) (v := ?_) rfl (by kernel_rfl) (by kernel_rfl) (by kernel_rfl) (fun _ _ _ h => h) (Or.inl ⟨by rfl, ?_⟩) (by assumption) ?_
            rotate_left
            · intro wx hSw
              go_simp
              try with_reducible rfl
            simp only [Act.put, List.getElem_toArray, List.getElem_cons_zero, List.getElem_cons_succ, List.setIfInBounds_toArray, List.set_cons_zero, List.set_cons_succ]
            refine wpAnyH_take (i := 18) (v := ?_) rfl (by kernel_rfl) (by kernel_rfl) (by kernel_rfl) (fun _ _ _ h => h) (Or.inl ⟨by rfl, ?_⟩) (by assumption) ?_
            rotate_left
            · intro wx hSw
              go_simp
              try with_reducible rfl
            simp only [Act.put, List.getElem_toArray, List.getElem_cons_zero, List.getElem_cons_succ, List.setIfInBounds_toArray, List.set_cons_zero, List.set_cons_succ]
            refine wpAnyH_ready (rs := [19]) (by kernel_rfl) (by simp) ?_
            refine AllReadyH.cons rfl (fun K' hK => ?_) AllReadyH.nil
            go_simp
            refine hK.out _ _ (by exact HS1.out) (fun hHeld => ?_)
            clear hK K'
            refine wpAnyH_done (by kernel_rfl) ?_ _
            go_wp2_with fail
            go_meet
            exact hide ⟨1, rfl⟩
      case rest =>
        obtain ⟨q7, hq7⟩ := hcut.out
        have HB7 : Hid (Bk 70 wc P #[.slice ao bl cap, .int .i64 (kk : Int)]) := hide (by rw [hq7]; exact HBX.out.set 1 _)
        have HP7 : Hid (Bk 55 wc p (headC Li DI (U : Int))) := hide (by rw [hq7]; exact HBP.out.other P 1 _ HPN.out)
        have HQ7 := hide hq7
        have g0 : wc.cell? ⟨P, 0, none⟩ = some (.slice ao bl cap) := (HB7.out.cell 0 rfl).1
        have y0 : wc.frozen? ⟨P, 0, none⟩ = false := (HB7.out.cell 0 rfl).2
        have g1 : wc.cell? ⟨P, 1, none⟩ = some (.int .i64 (kk : Int)) := (HB7.out.cell 1 rfl).1
        clear hq7 hcut
        obtain ⟨W7, hW7⟩ : ∃ W7, W7 = wc := ⟨_, rfl⟩
        rw [← hW7] at HB7 HP7 HQ7 g0 y0 g1 ⊢
        clear hW7
        go_upto_region 8 with fail
        go_cut [] (fun wd => Hid (∃ q, wd = (W7.setCell ⟨P, 0, none⟩ (.slice ao kk cap)).drewN q))
        case first =>
          go_region
          all_goals
            go_wp2_with fail
            go_meet
            exact hide ⟨1, rfl⟩
        case rest =>
          obtain ⟨q8, hq8⟩ := hcut.out
          have HB8 : Hid (Bk 70 wc P #[.slice ao kk cap, .int .i64 (kk : Int)]) := hide (by rw [hq8]; exact HB7.out.set 0 _)
          have HP8 : Hid (Bk 55 wc p (headC Li DI (U : Int))) := hide (by rw [hq8]; exact HP7.out.other P 0 _ HPN.out)
          have HQ8 := hide hq8
          have h1 : wc.cell? ⟨P, 1, none⟩ = some (.int .i64 (kk : Int)) := (HB8.out.cell 1 rfl).1
          have h2 : wc.cell? ⟨p, 1, none⟩ = some (.int .i64 (U : Int)) := (HP8.out.cell 1 rfl).1
          have h3 : wc.frozen? ⟨p, 1, none⟩ = false := (HP8.out.cell 1 rfl).2
          clear hq8 hcut g0 y0 g1
          obtain ⟨W8, hW8⟩ : ∃ W8, W8 = wc := ⟨_, rfl⟩
          rw [← hW8] at HQ8 h1 h2 h3 ⊢
          clear hW8
          go_upto_region 9 with fail
          go_region
          all_goals
            go_wp2
            go_roundw
            case rel =>
              refine ⟨i + 1, by go_num, by have := HLT.out; omega, _, hide (HNX.out.keep (w' := (W8.setCell ⟨p, 1, none⟩ (.int .i64 ((U : Int) + (kk : Int)))).drew) (fun k _ => ?_) ?_), hide ?_⟩
              · rw [HQ8.out, HQ7.out]
                rfl
              · rw [HQ8.out, HQ7.out]
                exact Nat.le_refl _
              · rw [HQ8.out, HQ7.out]
                exact ⟨HOX.out.os, HOX.out.tape, HOX.out.output, HOX.out.size, HOX.out.block⟩
            case measure => have := HLT.out; simp [intOf]; omega
    · obtain ⟨J, hJ⟩ : ∃ J, J = i % keep.length := ⟨_, rfl⟩
      have hJl : J < keep.length := by rw [hJ]; exact Nat.mod_lt _ (by omega)
      have hJi : (i : Int) % (keep.length : Int) = (J : Int) := by rw [hJ]; omega
      have eA : keep.getD J 0 = A := by rw [HA.out, hJ]; exact (if_neg hk0).symm
      obtain ⟨kb, koff, rfl, hkc⟩ : ∃ kb koff, ka = some ⟨kb, koff, none⟩ ∧ wr.cell? ⟨kb, koff + J, none⟩ = some (.int .i64 A) := by
        obtain ⟨a', c', hv', _, _, _, _, h6⟩ := HRKI.out
        simp only [Value.slice.injEq] at hv'
        obtain ⟨rfl, _, rfl⟩ := hv'
        rcases h6 with h6 | ⟨kb, koff, rfl, h7⟩
        · rw [h6] at hk0
          simp at hk0
        · exact ⟨kb, koff, rfl, by rw [h7 J hJl, eA]⟩
      have hkp : 0 < keep.length := by omega
      have hkpi : (0 : Int) < (keep.length : Int) := by omega
      clear eA hJ hk0

      go_upto_region 7 with fail
      clear hnc hlook k2
      go_cut [] (fun wd => Hid (∃ q, wd = (wr.setCell ⟨P, 1, none⟩ (.int .i64 (kk : Int))).drewN q))
      case first =>
        refine wp_region_held_drew (S := fun w' => w'.cell? ⟨P, 0, none⟩ = some (.slice ao bl cap)) (by kernel_rfl) (by exact g0) (fun hHeld => ?_)
        refine wpAnyH_take (i := 0) (v := ?_) rfl (by kernel_rfl) (by kernel_rfl) (by kernel_rfl) (fun _ _ _ h => h) (Or.inl ⟨by rfl, ?_⟩) (by assumption) ?_
        rotate_left
        · intro wx hSw
          go_simp
          try with_reducible rfl
        simp only [Act.put, List.getElem_toArray, List.getElem_cons_zero, List.setIfInBounds_toArray, List.set_cons_zero, List.set_cons_succ]
        refine wpAnyH_take (i := 1) (v := ?_) rfl (by kernel_rfl) (by kernel_rfl) (by kernel_rfl) (fun _ _ _ h => h) (Or.inl ⟨by rfl, ?_⟩) (by assumption) ?_
        rotate_left
        · intro wx hSw
          go_simp
          try with_reducible rfl
        simp only [Act.put, List.getElem_toArray, List.getElem_cons_zero, List.getElem_cons_succ, List.setIfInBounds_toArray, List.set_cons_zero, List.set_cons_succ]
        refine wpAnyH_take (i := 2) (v := ?_) rfl (by kernel_rfl) (by kernel_rfl) (by kernel_rfl) (fun _ _ _ h => h) (Or.inl ⟨by rfl, ?_⟩) (by assumption) ?_
        rotate_left
        · intro wx hSw
          go_simp
          try with_reducible rfl
        simp only [Act.put, List.getElem_toArray, List.getElem_cons_zero, List.getElem_cons_succ, List.setIfInBounds_toArray, List.set_cons_zero, List.set_cons_succ]
        refine wpAnyH_take (i := 4) (v := ?_) rfl (by kernel_rfl) (by kernel_rfl) (by kernel_rfl) (fun _ _ _ h => h) (Or.inl ⟨by rfl, ?_⟩) (by assumption) ?_
        rotate_left
        · intro wx hSw
          go_simp
          try with_reducible rfl
        simp only [Act.put, List.getElem_toArray, List.getElem_cons_zero, List.getElem_cons_succ, List.setIfInBounds_toArray, List.set_cons_zero, List.set_cons_succ]
        refine wpAnyH_take (i := 5) (v := ?_) rfl (by kernel_rfl) (by kernel_rfl) (by kernel_rfl) (fun _ _ _ h => h) (Or.inl ⟨by rfl, ?_⟩) (by assumption) ?_
        rotate_left
        · intro wx hSw
          go_simp
          try with_reducible rfl
        simp only [Act.put, List.getElem_toArray, List.getElem_cons_zero, List.getElem_cons_succ, List.setIfInBounds_toArray, List.set_cons_zero, List.set_cons_succ]
        refine wpAnyH_take (i := 6) (v := ?_) rfl (by kernel_rfl) (by kernel_rfl) (by kernel_rfl) (fun _ _ _ h => h) (Or.inl ⟨by rfl, ?_⟩) (by assumption) ?_
        rotate_left
        · intro wx hSw
          go_simp
          try with_reducible rfl
        simp only [Act.put, List.getElem_toArray, List.getElem_cons_zero, List.getElem_cons_succ, List.setIfInBounds_toArray, List.set_cons_zero, List.set_cons_succ]
        refine wpAnyH_take (i := 7) (v := ?_) rfl (by kernel_rfl) (by kernel_rfl) (by kernel_rfl) (fun _ _ _ h => h) (Or.inl ⟨by rfl, ?_⟩) (by assumption) ?_
        rotate_left
        · intro wx hSw
          go_simp
          try with_reducible rfl
        simp only [Act.put, List.getElem_toArray, List.getElem_cons_zero, List.getElem_cons_succ, List.setIfInBounds_toArray, List.set_cons_zero, List.set_cons_succ]
        refine wpAnyH_take (i := 8) (v := ?_) rfl (by kernel_rfl) (by kernel_rfl) (by kernel_rfl) (fun _ _ _ h => h) (Or.inl ⟨by rfl, ?_⟩) (by assumption) ?_
        rotate_left
        · intro wx hSw
          go_simp
          try with_reducible rfl
        simp only [Act.put, List.getElem_toArray, List.getElem_cons_zero, List.getElem_cons_succ, List.setIfInBounds_toArray, List.set_cons_zero, List.set_cons_succ]
        refine wpAnyH_take (i := 9) (v := ?_) rfl (by kernel_rfl) (by kernel_rfl) (by kernel_rfl) (fun _ _ _ h => h) (Or.inl ⟨by rfl, ?_⟩) (by assumption) ?_
        rotate_left
        · intro wx hSw
          go_simp
          try with_reducible rfl
        simp only [Act.put, List.getElem_toArray, List.getElem_cons_zero, List.getElem_cons_succ, List.setIfInBounds_toArray, List.set_cons_zero, List.set_cons_succ]
        refine wpAnyH_take (i := 10) (v := ?_) rfl (by kernel_rfl) (by kernel_rfl) (by kernel_rfl) (fun _ _ _ h => h) (Or.inl ⟨by rfl, ?_⟩) (by assumption) ?_
        rotate_left
        · intro wx hSw
          go_simp
          try with_reducible rfl
        simp only [Act.put, List.getElem_toArray, List.getElem_cons_zero, List.getElem_cons_succ, List.setIfInBounds_toArray, List.set_cons_zero, List.set_cons_succ]
        refine wpAnyH_take (i := 11) (v := ?_) rfl (by kernel_rfl) (by kernel_rfl) (by kernel_rfl) (fun _ _ _ h => h) (Or.inl ⟨by rfl, ?_⟩) (by assumption) ?_
        rotate_left
        · intro wx hSw
          go_simp
          try with_reducible rfl
        simp only [Act.put, List.getElem_toArray, List.getElem_cons_zero, List.getElem_cons_succ, List.setIfInBounds_toArray, List.set_cons_zero, List.set_cons_succ]
        refine wpAnyH_take (i := 12) (v := ?_) rfl (by kernel_rfl) (by kernel_rfl) (by kernel_rfl) (fun _ _ _ h => h) (Or.inl ⟨by rfl, ?_⟩) (by assumption) ?_
        rotate_left
        · intro wx hSw
          go_simp
          try with_reducible rfl
        simp only [Act.put, List.getElem_toArray, List.getElem_cons_zero, List.getElem_cons_succ, List.setIfInBounds_toArray, List.set_cons_zero, List.set_cons_succ]
        refine wpAnyH_ready (rs := [3,13]) (by kernel_rfl) (by simp) ?_
        refine AllReadyH.cons rfl (fun K' hK => ?_) (AllReadyH.cons rfl (fun K' hK => ?_) AllReadyH.nil)
        · go_simp
          refine hK.out _ _ (by exact g0) (fun hHeld => ?_)
          clear hK K'
          refine wpAnyH_ready (rs := [13]) (by kernel_rfl) (by simp) ?_
          refine AllReadyH.cons rfl (fun K' hK => ?_) AllReadyH.nil
          go_simp
          refine hK.out _ _ (by exact g0) (fun hHeld => ?_)
          clear hK K'
          refine wpAnyH_take (i := 14) (v := ?_) rfl (by kernel_rfl) (by kernel_rfl) (by kernel_rfl) (fun _ _ _ h => h) (Or.inl ⟨by rfl, ?_⟩) (by assumption) ?_
          rotate_left
          · intro wx hSw
            go_simp
            try with_reducible rfl
          simp only [Act.put, List.getElem_toArray, List.getElem_cons_zero, List.getElem_cons_succ, List.setIfInBounds_toArray, List.set_cons_zero, List.set_cons_succ]
          refine wpAnyH_ready (rs := [15]) (by kernel_rfl) (by simp) ?_
          refine AllReadyH.cons rfl (fun K' hK => ?_) AllReadyH.nil
          go_simp
          go_wp2_with ((go_at_call 55; refine (HSH.out _).mono ?_; rintro e w5 ⟨rfl, rfl⟩))
          refine hK.out _ _ (by exact g0) (fun hHeld => ?_)
          clear hK K'
          refine wpAnyH_take (i := 16) (v := ?_) rfl (by kernel_rfl) (by kernel_rfl) (by kernel_rfl) (fun _ _ _ h => h) (Or.inl ⟨by rfl, ?_⟩) (by assumption) ?_
          rotate_left
          · intro wx hSw
            go_simp
            try with_reducible rfl
          simp only [Act.put, List.getElem_toArray, List.getElem_cons_zero, List.getElem_cons_succ, List.setIfInBounds_toArray, List.set_cons_zero, List.set_cons_succ]
          refine wpAnyH_take (i := 17) (v := ?_) rfl (by kernel_rfl) (by kernel_rfl) (by kernel_rfl) (fun _ _ _ h => h) (Or.inl ⟨by rfl, ?_⟩) (by assumption) ?_
          rotate_left
          · intro wx hSw
            go_simp
            try with_reducible rfl
          simp only [Act.put, List.getElem_toArray, List.getElem_cons_zero, List.getElem_cons_succ, List.setIfInBounds_toArray, List.set_cons_zero, List.set_cons_succ]
          refine wpAnyH_take (i := 18) (v := ?_) rfl (by kernel_rfl) (by kernel_rfl) (by kernel_rfl) (fun _ _ _ h => h) (Or.inl ⟨by rfl, ?_⟩) (by assumption) ?_
          rotate_left
          · intro wx hSw
            go_simp
            try with_reducible rfl
          simp only [Act.put, List.getElem_toArray, List.getElem_cons_zero, List.getElem_cons_succ, List.setIfInBounds_toArray, List.set_cons_zero, List.set_cons_succ]
          refine wpAnyH_ready (rs := [19]) (by kernel_rfl) (by simp) ?_
          refine AllReadyH.cons rfl (fun K' hK => ?_) AllReadyH.nil
          go_simp
          refine hK.out _ _ (by exact HS1.out) (fun hHeld => ?_)
          clear hK K'
          refine wpAnyH_done (by kernel_rfl) ?_ _
          go_wp2_with fail
          go_meet
          exact hide ⟨1, rfl⟩
        · go_simp
          refine hK.out _ _ (by exact g0) (fun hHeld => ?_)
          clear hK K'
          refine wpAnyH_take (i := 14) (v := ?_) rfl (by kernel_rfl) (by kernel_rfl) (by kernel_rfl) (fun _ _ _ h => h) (Or.inl ⟨by rfl, ?_⟩) (by assumption) ?_
          rotate_left
          · intro wx hSw
            go_simp
            try with_reducible rfl
          simp only [Act.put, List.getElem_toArray, List.getElem_cons_zero, List.getElem_cons_succ, List.setIfInBounds_toArray, List.set_cons_zero, List.set_cons_succ]
          refine wpAnyH_ready (rs := [3,15]) (by kernel_rfl) (by simp) ?_
          refine AllReadyH.cons rfl (fun K' hK => ?_) (AllReadyH.cons rfl (fun K' hK => ?_) AllReadyH.nil)
          · go_simp
            refine hK.out _ _ (by exact g0) (fun hHeld => ?_)
            clear hK K'
            refine wpAnyH_ready (rs := [15]) (by kernel_rfl) (by simp) ?_
            refine AllReadyH.cons rfl (fun K' hK => ?_) AllReadyH.nil
            go_simp
            go_wp2_with ((go_at_call 55; refine (HSH.out _).mono ?_; rintro e w5 ⟨rfl, rfl⟩))
            refine hK.out _ _ (by exact g0) (fun hHeld => ?_)
            clear hK K'
            refine wpAnyH_take (i := 16) (v := ?_) rfl (by kernel_rfl) (by kernel_rfl) (by kernel_rfl) (fun _ _ _ h => h) (Or.inl ⟨by rfl, ?_⟩) (by assumption) ?_
            rotate_left
            · intro wx hSw
              go_simp
              try with_reducible rfl
            simp only [Act.put, List.getElem_toArray, List.getElem_cons_zero, List.getElem_cons_succ, List.setIfInBounds_toArray, List.set_cons_zero, List.set_cons_succ]
            refine wpAnyH_take (i := 17) (v := ?_) rfl (by kernel_rfl) (by kernel_rfl) (by kernel_rfl) (fun _ _ _ h => h) (Or.inl ⟨by rfl, ?_⟩) (by assumption) ?_
            rotate_left
            · intro wx hSw
              go_simp
              try with_reducible rfl
            simp only [Act.put, List.getElem_toArray, List.getElem_cons_zero, List.getElem_cons_succ, List.setIfInBounds_toArray, List.set_cons_zero, List.set_cons_succ]
            refine wpAnyH_take (i := 18) (v := ?_) rfl (by kernel_rfl) (by kernel_rfl) (by kernel_rfl) (fun _ _ _ h => h) (Or.inl ⟨by rfl, ?_⟩) (by assumption) ?_
            rotate_left
            · intro wx hSw
              go_simp
              try with_reducible rfl
            simp only [Act.put, List.getElem_toArray, List.getElem_cons_zero, List.getElem_cons_succ, List.setIfInBounds_toArray, List.set_cons_zero, List.set_cons_succ]
            refine wpAnyH_ready (rs := [19]) (by kernel_rfl) (by simp) ?_
            refine AllReadyH.cons rfl (fun K' hK => ?_) AllReadyH.nil
            go_simp
            refine hK.out _ _ (by exact HS1.out) (fun hHeld => ?_)
            clear hK K'
            refine wpAnyH_done (by kernel_rfl) ?_ _
            go_wp2_with fail
            go_meet
            exact hide ⟨1, rfl⟩
          · go_simp
            go_wp2_with ((go_at_call 55; refine (HSH.out _).mono ?_; rintro e w5 ⟨rfl, rfl⟩))
            refine hK.out _ _ (by exact g0) (fun hHeld => ?_)
            clear hK K'
            refine wpAnyH_ready (rs := [3]) (by kernel_rfl) (by simp) ?_
            refine AllReadyH.cons rfl (fun K' hK => ?_) AllReadyH.nil
            go_simp
            refine hK.out _ _ (by exact g0) (fun hHeld => ?_)
            clear hK K'
            refine wpAnyH_take (i := 16) (v := ?_) rfl (by kernel_rfl) (by kernel_rfl) (by kernel_rfl) (fun _ _ _ h => h) (Or.inl ⟨by rfl, ?_⟩) (by assumption) ?_
            rotate_left
            · intro wx hSw
              go_simp
              try with_reducible rfl
            simp only [Act.put, List.getElem_toArray, List.getElem_cons_zero, List.getElem_cons_succ, List.setIfInBounds_toArray, List.set_cons_zero, List.set_cons_succ]
            refine wpAnyH_take (i := 17) (v := ?_) rfl (by kernel_rfl) (by kernel_rfl) (by kernel_rfl) (fun _ _ _ h => h) (Or.inl ⟨by rfl, ?_⟩) (by assumption) ?_
            rotate_left
            · intro wx hSw
              go_simp
              try with_reducible rfl
            simp only [Act.put, List.getElem_toArray, List.getElem_cons_zero, List.getElem_cons_succ, List.setIfInBounds_toArray, List.set_cons_zero, List.set_cons_succ]
            refine wpAnyH_take (i := 18) (v := ?_) rfl (by kernel_rfl) (by kernel_rfl) (by kernel_rfl) (fun _ _ _ h => h) (Or.inl ⟨by rfl, ?_⟩) (by assumption) ?_
            rotate_left
            · intro wx hSw
              go_simp
              try with_reducible rfl
            simp only [Act.put, List.getElem_toArray, List.getElem_cons_zero, List.getElem_cons_succ, List.setIfInBounds_toArray, List.set_cons_zero, List.set_cons_succ]
            refine wpAnyH_ready (rs := [19]) (by kernel_rfl) (by simp) ?_
            refine AllReadyH.cons rfl (fun K' hK => ?_) AllReadyH.nil
            go_simp
            refine hK.out _ _ (by exact HS1.out) (fun hHeld => ?_)
            clear hK K'
            refine wpAnyH_done (by kernel_rfl) ?_ _
            go_wp2_with fail
            go_meet
            exact hide ⟨1, rfl⟩
      case rest =>
        obtain ⟨q7, hq7⟩ := hcut.out
        have HB7 : Hid (Bk 70 wc P #[.slice ao bl cap, .int .i64 (kk : Int)]) := hide (by rw [hq7]; exact HBX.out.set 1 _)
        have HP7 : Hid (Bk 55 wc p (headC Li DI (U : Int))) := hide (by rw [hq7]; exact HBP.out.other P 1 _ HPN.out)
        have HQ7 := hide hq7
        have g0 : wc.cell? ⟨P, 0, none⟩ = some (.slice ao bl cap) := (HB7.out.cell 0 rfl).1
        have y0 : wc.frozen? ⟨P, 0, none⟩ = false := (HB7.out.cell 0 rfl).2
        have g1 : wc.cell? ⟨P, 1, none⟩ = some (.int .i64 (kk : Int)) := (HB7.out.cell 1 rfl).1
        clear hq7 hcut
        obtain ⟨W7, hW7⟩ : ∃ W7, W7 = wc := ⟨_, rfl⟩
        rw [← hW7] at HB7 HP7 HQ7 g0 y0 g1 ⊢
        clear hW7
        go_upto_region 8 with fail
        go_cut [] (fun wd => Hid (∃ q, wd = (W7.setCell ⟨P, 0, none⟩ (.slice ao kk cap)).drewN q))
        case first =>
          go_region
          all_goals
            go_wp2_with fail
            go_meet
            exact hide ⟨1, rfl⟩
        case rest =>
          obtain ⟨q8, hq8⟩ := hcut.out
          have HB8 : Hid (Bk 70 wc P #[.slice ao kk cap, .int .i64 (kk : Int)]) := hide (by rw [hq8]; exact HB7.out.set 0 _)
          have HP8 : Hid (Bk 55 wc p (headC Li DI (U : Int))) := hide (by rw [hq8]; exact HP7.out.other P 0 _ HPN.out)
          have HQ8 := hide hq8
          have h1 : wc.cell? ⟨P, 1, none⟩ = some (.int .i64 (kk : Int)) := (HB8.out.cell 1 rfl).1
          have h2 : wc.cell? ⟨p, 1, none⟩ = some (.int .i64 (U : Int)) := (HP8.out.cell 1 rfl).1
          have h3 : wc.frozen? ⟨p, 1, none⟩ = false := (HP8.out.cell 1 rfl).2
          clear hq8 hcut g0 y0 g1
          obtain ⟨W8, hW8⟩ : ∃ W8, W8 = wc := ⟨_, rfl⟩
          rw [← hW8] at HQ8 h1 h2 h3 ⊢
          clear hW8
          go_upto_region 9 with fail
          go_region
          all_goals
            go_wp2
            go_roundw
            case rel =>
              refine ⟨i + 1, by go_num, by have := HLT.out; omega, _, hide (HNX.out.keep (w' := (W8.setCell ⟨p, 1, none⟩ (.int .i64 ((U : Int) + (kk : Int)))).drew) (fun k _ => ?_) ?_), hide ?_⟩
              · rw [HQ8.out, HQ7.out]
                rfl
              · rw [HQ8.out, HQ7.out]
                exact Nat.le_refl _
              · rw [HQ8.out, HQ7.out]
                exact ⟨HOX.out.os, HOX.out.tape, HOX.out.output, HOX.out.size, HOX.out.block⟩
            case measure => have := HLT.out; simp [intOf]; omega

end Go.Proofs.Ytfhgjnfichgdiaa
