import Derived.Test.YtpopbandpnaicaaGreatDoorPack3
import Derived.Test.YtpopbandpnaicaaGreatDoorPack1
import Derived.Test.YtpopbandpnaicaaGreatDoorPack2
import Derived.Lib.SliceRun
import Derived.Shelf.Slices.Equal
import Derived.Shelf.Slices.Empties2
import Derived.Shelf.Slices.Clone
import Derived.Shelf.Slices.Cells
import Derived.Shelf.Spec.SlicesInsert
import Derived.Shelf.Spec.SlicesInsertGrow
namespace Go.Proofs.YtpopbandpnaicaaGreatDoor
open Go.RowKit

theorem bytes_head {w : World} {v : Value} {l : List UInt8} (h : Own w 0 v l) : ∃ ao cap, v = .slice ao l.length cap ∧ l.length <= cap ∧ ((ao = none ∧ cap = 0) ∨ ∃ g, ao = some ⟨g, 0, none⟩) := rowHead h

theorem DiskL.cutFile {F : Nat -> Prop} {w : World} {p : Nat} {L : Lay} {d : Dk} {u : Int} {N f k : Nat} {ao : Option Addr} {cap : Nat} (h : DiskL F w p L d u N) (hf : f < d.files.length) (hv : L.vs f = .slice ao (fl d.files f).b.length cap) (hk : k <= (fl d.files f).b.length) :
   DiskL F ((w.setCell ⟨L.ps f, 1, none⟩ (.int .i64 (k : Int))).setCell ⟨L.ps f, 0, none⟩ (.slice ao k cap)) p { L with vs := fun i => if i = f then .slice ao k cap else L.vs i } { d with files := d.files.set f ⟨(fl d.files f).b.take k, k⟩ } u N := by
 have hx := h.rest.file f hf
 have hne : ∀ g, (L.vs f).ownBlock = some g -> g ≠ L.ps f := fun g hg => by
   obtain ⟨cs', hb'⟩ := ownBk hx.own hg
   exact hb'.ne hx.box (by decide)
 have e1 : (Value.slice ao k cap).ownBlock = (L.vs f).ownBlock := by rw [hv]; cases ao <;> rfl
 have ho : Own w 0 (.slice ao k cap) ((fl d.files f).b.take k) := by
   have := hx.own
   rw [hv] at this
   exact this.front k hk
 refine h.setFile (F' := F) hf (fun j _ h1 _ => by rw [Below.heap_setCell _ _ _ _ h1, Below.heap_setCell _ _ _ _ h1]) ⟨(hx.box.set 1 _).set 0 _, ownsRow_keep ho fun g hg => ?_⟩ (.inl e1) (fun _ hj => hj) (fun g hg => h.rest.fv f hf g (by rw [<- e1]; exact hg)) (fun j hj => by simpa using h.lt j hj)
 have := hne g (by rw [<- e1]; exact hg)
 rw [Below.heap_setCell _ _ _ _ this, Below.heap_setCell _ _ _ _ this]

theorem wrap64n {n : Nat} (h : n <= 1000000000000000) : IntKind.i64.wrap (n : Int) = (n : Int) := by
 rw [IntKind.wrap_i64]
 omega

theorem take_succ_snoc {l : Dir} {i : Nat} (h : i < l.length) : l.take (i + 1) = l.take i ++ [l[i]] := List.take_succ_eq_append_getElem h

theorem apart_take {l : Dir} (h : Apart l) {i : Nat} (hi : i < l.length) : ∀ p ∈ l.take i, p.2 ≠ l[i].2 := by
 intro p hp
 have h1 : Apart (l.take (i + 1)) := List.Pairwise.sublist (List.take_sublist _ _) h
 rw [take_succ_snoc hi] at h1
 exact (List.pairwise_append.1 h1).2.2 p hp _ (List.mem_singleton.2 rfl)

theorem crashF_at (keep : List Int) {l : Dir} (h : Apart l) {i : Nat} (hi : i < l.length) (fs : List Fl) : crashF keep (l.take (i + 1)) 0 fs = (crashF keep (l.take i) 0 fs).set l[i].2 (cutF (fl fs l[i].2) (pickK keep i)) := by
 rw [take_succ_snoc hi, crashF_snoc, crashF_other keep _ 0 fs _ (apart_take h hi)]
 have : (l.take i).length = i := by rw [List.length_take]; omega
 rw [this, Nat.zero_add]

theorem sumB_crash (keep : List Int) {l : Dir} (h : Apart l) {i : Nat} (hi : i < l.length) {fs : List Fl} (hf : l[i].2 < fs.length) (hk : ∀ x ∈ fs, x.k <= x.b.length) :
   sumB (crashF keep (l.take (i + 1)) 0 fs) (l.take (i + 1)) = sumB (crashF keep (l.take i) 0 fs) (l.take i) + (cutF (fl fs l[i].2) (pickK keep i)).k := by
 rw [crashF_at keep h hi]
 have h1 : sumB ((crashF keep (l.take i) 0 fs).set l[i].2 (cutF (fl fs l[i].2) (pickK keep i))) (l.take i) = sumB (crashF keep (l.take i) 0 fs) (l.take i) := sumB_ext fun p hp => by rw [fl_set_other (fun e => apart_take h hi p hp e.symm)]
 have h2 : (fl ((crashF keep (l.take i) 0 fs).set l[i].2 (cutF (fl fs l[i].2) (pickK keep i))) l[i].2).b.length = (cutF (fl fs l[i].2) (pickK keep i)).k := by
   rw [fl_set_same (by rw [crashF_length]; exact hf), cutF_len (fl_keep hk _)]
 rw [take_succ_snoc hi, sumB_append, h1, sumB_cons, sumB_nil, h2]
 rfl

theorem bytes_crashF {T : Nat} (keep : List Int) : ∀ (l : Dir) (i : Nat) (fs : List Fl), (∀ x ∈ fs, x.b.length <= T) -> (∀ p ∈ l, p.2 < fs.length) -> ∀ x ∈ crashF keep l i fs, x.b.length <= T
 | [], _, _, h, _ => h
 | p :: l, i, fs, h, hl => by
   rw [crashF]
   refine bytes_crashF keep l (i + 1) _ (fun x hx => ?_) (fun q hq => by rw [List.length_set]; exact hl q (List.mem_cons_of_mem _ hq))
   rcases List.mem_or_eq_of_mem_set hx with hx | rfl
   · exact h x hx
   · have := h _ (mem_fl (hl p (List.mem_cons_self ..)))
     simp only [cutF, List.length_take]
     omega

set_option maxRecDepth 100000 in
set_option maxHeartbeats 4000000 in
theorem loseBytes_any {F : Nat -> Prop} {p : Nat} {L : Lay} {d : Dk} {u : Int} {N T : Nat} (vk : Value) (keep : List Int) (w : World) (h : DiskL F w p L d u N) (hw : d.waits = []) (hok : OkD d) (hbn : Bnd d N T) (hN : N <= 1000000) (hT : T <= 1000000000) (hr : RdI w vk keep) (hkv : keep = [] ∨ ∀ k, vk.ownBlock = some k -> ¬ F k) (hkl : keep.length <= 1000000000) :
   Calls Tryz.prog 36 #[ptr p, vk] w fun e w' => e = .returned (.tuple #[]) ∧ (∃ L', DiskL F w' p L' { d with files := crashF keep d.kept 0 d.files } (sumB (crashF keep d.kept 0 d.files) d.kept : Nat) N) ∧ Only F w w' := by
 have H := hide h
 have HOK := hide hok
 have HBN := hide hbn
 have HRK := hide hr
 have HKV := hide hkv
 obtain ⟨⟨-, c1, -, -, -, -⟩, f1, -⟩ := h.cells
 obtain ⟨ka, kc, rfl, -⟩ := hr
 obtain ⟨l, hl⟩ : ∃ l, l = d.kept := ⟨_, rfl⟩
 have HDD : Hid (dirD d = l) := hide (by unfold dirD; rw [hw, hl]; rfl)
 have HLL : Hid (l.length <= N) := hide (by have := hbn.names; rw [hl]; omega)
 have HOL : Hid (OkL d.files.length l) := hide (by rw [hl]; exact hok.kept)
 have HLK := hide hl
 have HD1 := hide (h.setHead 1 (.int .i64 0) (d' := d) (u' := 0) ⟨rfl, rfl, rfl⟩ rfl)
 have HON1 : Hid (Only F w (w.setCell ⟨p, 1, none⟩ (.int .i64 0))) := hide ((Only.refl _ _).setCell 1 (fun _ => h.fh) _)
 obtain ⟨W1, hW1⟩ : ∃ W1, W1 = w.setCell ⟨p, 1, none⟩ (.int .i64 0) := ⟨_, rfl⟩
 rw [<- hW1] at HD1 HON1
 have HNM := hide (names_any W1 HD1.out hok hN)
 have HRK1 := hide (HRK.out.onlyE HON1.out hkv)
 have HW1 := hide hW1
 clear hW1 h hok hbn hkv hl hw
 go_enter Tryz.func36, Tryz.ntmps36
 go_upto_region 1 with fail
 rw [<- HW1.out]
 clear HW1 c1 f1
 go_wp2_with fail
 refine HNM.out.mono ?_
 rintro e W2 ⟨vn, rfl, hon, hb2⟩
 rw [HDD.out] at hon
 have HNI : Hid (∀ x ∈ l.map Prod.fst, I64 x) := hide (fun x hx => by
   obtain ⟨q, hq, rfl⟩ := List.mem_map.1 hx
   exact mayF_i64 (HOL.out.may q hq).1)
 have HRN := hide (hon.rd HNI.out)
 have HNB : Hid (∀ k, vn.ownBlock = some k -> ¬ F k) := hide (fun k hk hf => by
   have h1 := (World.ownsRow.lt hon k hk).1
   have h2 := HD1.out.lt k hf
   omega)
 have HD2 : Hid (DiskL F W2 p L d 0 N) := hide (HD1.out.keep (fun k hf => hb2.block k (HD1.out.lt k hf)) hb2.size)
 have HON2 : Hid (Only F w W2) := hide (HON1.out.trans (G := fun _ => False) (Only.ofBelow hb2) (fun _ _ hf => hf.elim))
 have HRK2 := hide (HRK1.out.below hb2 (Nat.le_refl _))
 obtain ⟨na, nc, rfl, -⟩ := HRN.out
 clear hon hb2 HNM HRK1 HRK HD1 HON1 H
 have hll : (l.map Prod.fst).length = l.length := List.length_map ..
 rw [hll]
 go_wp2
 go_loopw [14] (fun vi wr => ∃ i : Nat, vi = .int .i64 (i : Int) ∧ i <= l.length ∧ ∃ Li, Hid (DiskL F wr p Li { d with files := crashF keep (l.take i) 0 d.files } (sumB (crashF keep (l.take i) 0 d.files) (l.take i) : Nat) N) ∧ Hid (Only F W2 wr)) (fun vi _ => l.length - (intOf vi).toNat)
 case atStart => exact ⟨0, rfl, Nat.zero_le _, L, by simpa [crashF, sumB] using HD2, hide (Only.refl _ _)⟩
 case round =>
   obtain ⟨i, rfl, hil, Li, HDI, HOI⟩ := hrel
   by_cases hlt : i < l.length
   case neg =>
     have hi : i = l.length := by omega
     subst hi
     rw [List.take_length, HLK.out] at HDI
     go_wp2
     go_end0
     exact ⟨rfl, ⟨Li, HDI.out⟩, HON2.out.trans HOI.out (fun _ _ hf => hf)⟩
   obtain ⟨n, f, hnf⟩ : ∃ n f, l[i] = (n, f) := ⟨_, _, rfl⟩
   have hmem : (n, f) ∈ l := by rw [<- hnf]; exact List.getElem_mem hlt
   have hfl : f < d.files.length := (HOL.out.may _ hmem).2
   have hin : I64 n := mayF_i64 (HOL.out.may _ hmem).1
   have hlen : (crashF keep (l.take i) 0 d.files).length = d.files.length := crashF_length _ _ _ _
   obtain ⟨x, hx⟩ : ∃ x, x = fl d.files f := ⟨_, rfl⟩
   have hfx : fl (crashF keep (l.take i) 0 d.files) f = x := by
     rw [hx]
     refine crashF_other keep _ 0 _ _ fun q hq => ?_
     have := apart_take HOL.out.apart hlt q hq
     rw [hnf] at this
     exact this
   have HXF : Hid (FileV wr (Li.ps f) (Li.vs f) x) := hide (by
     have := HDI.out.rest.file f (by show f < (crashF keep (l.take i) 0 d.files).length; omega)
     rw [<- hfx]
     exact this)
   have hkx : x.k <= x.b.length := by rw [hx]; exact fl_keep HOK.out.keep f
   have hbx : x.b.length <= T := by rw [hx]; exact HBN.out.bytes _ (mem_fl hfl)
   obtain ⟨ao, cap, hvs, hcap, hao⟩ := bytes_head HXF.out.own
   have g0 : wr.cell? ⟨Li.ps f, 0, none⟩ = some (.slice ao x.b.length cap) := by rw [<- hvs]; exact (HXF.out.box.cell 0 rfl).1
   have y0 : wr.frozen? ⟨Li.ps f, 0, none⟩ = false := (HXF.out.box.cell 0 rfl).2
   have g1 : wr.cell? ⟨Li.ps f, 1, none⟩ = some (.int .i64 (x.k : Int)) := (HXF.out.box.cell 1 rfl).1
   have y1 : wr.frozen? ⟨Li.ps f, 1, none⟩ = false := (HXF.out.box.cell 1 rfl).2
   obtain ⟨U, hU⟩ : ∃ U : Nat, U = sumB (crashF keep (l.take i) 0 d.files) (l.take i) := ⟨_, rfl⟩
   have hUb : U <= 1000000000000000 := by
     rw [hU]
     have h1 := sumB_le (T := T) (fs := crashF keep (l.take i) 0 d.files) (bytes_crashF keep _ 0 _ HBN.out.bytes (fun q hq => (HOL.out.may q (List.mem_of_mem_take hq)).2)) (l.take i) (fun q hq => by rw [hlen]; exact (HOL.out.may q (List.mem_of_mem_take hq)).2)
     have h2 : (l.take i).length <= N := by have := HLL.out; rw [List.length_take]; omega
     have h3 : (l.take i).length * T <= 1000000 * 1000000000 := Nat.mul_le_mul (by omega) hT
     omega
   rw [<- hU] at HDI
   have k1 : wr.cell? ⟨p, 1, none⟩ = some (.int .i64 (U : Int)) := HDI.out.cells.1.2.1
   have j1 : wr.frozen? ⟨p, 1, none⟩ = false := HDI.out.cells.2.1
   have k2 : wr.cell? ⟨p, 2, none⟩ = some (.map (some Li.now)) := HDI.out.cells.1.2.2.1
   have hlook : (Instr.lookup 69 (.map (some Li.now)) (.int .i64 n) false).run Tryz.prog wr = .ok (.pointer (some ⟨Li.ps f, 0, none⟩)) wr := by
     have h1 := HDI.out.rest.now.look1 hin
     have h2 : look (dirD { d with files := crashF keep (l.take i) 0 d.files }) n = some f := by
       show look (dirD d) n = some f
       rw [HDD.out]
       exact (look_mem HOL.out.rise n f).2 hmem
     rw [h2] at h1
     exact h1
   obtain ⟨nb, noff, rfl, hnc⟩ : ∃ nb noff, na = some ⟨nb, noff, none⟩ ∧ wr.cell? ⟨nb, noff + i, none⟩ = some (.int .i64 n) := by
     have h1 := HRN.out.only HOI.out HNB.out
     obtain ⟨a', c', hv', _, _, _, _, h6⟩ := h1
     simp only [Value.slice.injEq] at hv'
     obtain ⟨rfl, _, rfl⟩ := hv'
     rcases h6 with h6 | ⟨nb, noff, rfl, h7⟩
     · have : l = [] := by simpa using h6
       rw [this] at hlt
       simp at hlt
     · refine ⟨nb, noff, rfl, ?_⟩
       have h8 := h7 i (by simpa using hlt)
       rw [h8]
       simp [List.getD, hlt, hnf]
   obtain ⟨A, hA⟩ : ∃ A, A = pickK keep i := ⟨_, rfl⟩
   obtain ⟨m, hm⟩ : ∃ m, m = x.b.length - x.k := ⟨_, rfl⟩
   have hsub : (x.b.length : Int) - (x.k : Int) = (m : Int) := by omega
   obtain ⟨sh, hsh⟩ : ∃ sh, sh = shareN A m := ⟨_, rfl⟩
   have hshm : sh <= m := by rw [hsh]; exact shareN_le _ _
   obtain ⟨kk, hkk⟩ : ∃ kk, kk = x.k + sh := ⟨_, rfl⟩
   have hadd : (x.k : Int) + (sh : Int) = (kk : Int) := by omega
   have hkkb : kk <= x.b.length := by omega
   have HSH : Hid (∀ W, Calls Tryz.prog 79 #[.int .i64 A, .int .i64 (m : Int)] W fun e w' => e = .returned (.int .i64 (sh : Int)) ∧ w' = W) := hide (fun W => by rw [hsh]; exact share_any A m (by omega) W)
   have HCU : Hid (cutF x A = ⟨x.b.take kk, kk⟩) := hide (by rw [hkk, hsh, hm]; rfl)
   have HNX : Hid (DiskL F (((wr.setCell ⟨Li.ps f, 1, none⟩ (.int .i64 (kk : Int))).setCell ⟨Li.ps f, 0, none⟩ (.slice ao kk cap)).setCell ⟨p, 1, none⟩ (.int .i64 ((U : Int) + (kk : Int)))) p { Li with vs := fun j => if j = f then .slice ao kk cap else Li.vs j } { d with files := crashF keep (l.take (i + 1)) 0 d.files } (sumB (crashF keep (l.take (i + 1)) 0 d.files) (l.take (i + 1)) : Nat) N) := hide (by
     have h1 := HDI.out.cutFile (f := f) (k := kk) (ao := ao) (cap := cap) (by show f < (crashF keep (l.take i) 0 d.files).length; omega) (by show Li.vs f = .slice ao (fl (crashF keep (l.take i) 0 d.files) f).b.length cap; rw [hfx]; exact hvs) (by show kk <= (fl (crashF keep (l.take i) 0 d.files) f).b.length; rw [hfx]; exact hkkb)
     have h2 := sumB_crash keep HOL.out.apart hlt (fs := d.files) (by rw [hnf]; exact hfl) HOK.out.keep
     have h3 := crashF_at keep HOL.out.apart hlt d.files
     rw [hnf, <- hx, <- hA, HCU.out] at h2 h3
     rw [h2, h3, <- hU]
     dsimp only at h1
     rw [hfx] at h1
     have e1 : ((U + kk : Nat) : Int) = (U : Int) + (kk : Int) := by omega
     show DiskL F _ p _ _ ((U + kk : Nat) : Int) N
     rw [e1]
     exact h1.setHead 1 _ ⟨rfl, rfl, rfl⟩ rfl)
   have HOX : Hid (Only F W2 (((wr.setCell ⟨Li.ps f, 1, none⟩ (.int .i64 (kk : Int))).setCell ⟨Li.ps f, 0, none⟩ (.slice ao kk cap)).setCell ⟨p, 1, none⟩ (.int .i64 ((U : Int) + (kk : Int))))) := hide (((HOI.out.setCell 1 (fun _ => HDI.out.rest.fp f (by show f < (crashF keep (l.take i) 0 d.files).length; omega)) _).setCell 0 (fun _ => HDI.out.rest.fp f (by show f < (crashF keep (l.take i) 0 d.files).length; omega)) _).setCell 1 (fun _ => HDI.out.fh) _)
   have HPN : Hid (p ≠ Li.ps f) := hide (HDI.out.head.ne HXF.out.box (by decide))
   obtain ⟨P, hP⟩ : ∃ P, P = Li.ps f := ⟨_, rfl⟩
   have HBX : Hid (Bk 112 wr (Li.ps f) #[.slice ao x.b.length cap, .int .i64 (x.k : Int)]) := hide (by rw [<- hvs]; exact HXF.out.box)
   obtain ⟨DI, hDI⟩ : ∃ DI, DI = { d with files := crashF keep (l.take i) 0 d.files } := ⟨_, rfl⟩
   have HBP : Hid (Bk 73 wr p (headC Li DI (U : Int))) := hide (by rw [hDI]; exact HDI.out.head)
   clear hDI
   rw [<- hP] at g0 y0 g1 y1 hlook HNX HOX HPN HBX
   obtain ⟨bl, hbl⟩ : ∃ bl, bl = x.b.length := ⟨_, rfl⟩
   obtain ⟨xk, hxk⟩ : ∃ xk, xk = x.k := ⟨_, rfl⟩
   rw [<- hbl] at g0 hsub hkkb hbx hcap HBX
   rw [<- hxk] at g1 hsub hadd HBX
   have hkcap : kk <= cap := by omega
   have HA := hide hA
   have HRKI := hide (HRK2.out.onlyE HOI.out HKV.out)
   clear hnf hmem hfl hin hlen hx hfx hkx hvs hU hA hm hsh hshm hkk hP hbl hxk HXF HDI HOI HCU
   have HLT := hide hlt
   have hib : i <= 1000000 := by have := HLL.out; omega
   have hwm : IntKind.i64.wrap (m : Int) = (m : Int) := wrap64n (by omega)
   have hwk : IntKind.i64.wrap (kk : Int) = (kk : Int) := wrap64n (by omega)
   have HS1 : Hid ((wr.setCell ⟨P, 1, none⟩ (.int .i64 (kk : Int))).cell? ⟨P, 0, none⟩ = some (.slice ao bl cap)) := hide (by
     rw [World.cell?_setCell_other _ _ _ _ (by intro h; injection h with _ h; cases h)]
     exact g0)
   by_cases hk0 : keep.length = 0
   · have e0 : A = 0 := by rw [HA.out]; exact if_pos hk0
     subst e0
     have hkz : decide ((keep.length : Int) > 0) = false := decide_eq_false (by omega)
     have hkz2 : decide (0 < keep.length) = false := decide_eq_false (by omega)
     clear hk0

     go_upto_region 7 with fail
     clear hnc hlook k2
     go_cut [] (fun wd => Hid (∃ q, wd = (wr.setCell ⟨P, 1, none⟩ (.int .i64 (kk : Int))).drewN q))
     case first =>
       refine wp_region_held_drew (S := fun w' => w'.cell? ⟨P, 0, none⟩ = some (.slice ao bl cap)) (by kernel_rfl) (by exact g0) (fun hHeld => ?_)
       refine wpAnyH_take (i := 0) (v := ?_) rfl (by kernel_rfl) (by kernel_rfl) (by kernel_rfl) (fun _ _ _ h => h) (Or.inl ⟨by rfl, ?_⟩) (by assumption) ?_
       rotate_left
       · intro wx hSw
         go_simp
         try with_reducible rfl
       simp only [Act.put, List.getElem_toArray, List.getElem_cons_zero, List.setIfInBounds_toArray, List.set_cons_zero, List.set_cons_succ]
       refine wpAnyH_take (i := 1) (v := ?_) rfl (by kernel_rfl) (by kernel_rfl) (by kernel_rfl) (fun _ _ _ h => h) (Or.inl ⟨by rfl, ?_⟩) (by assumption) ?_
       rotate_left
       · intro wx hSw
         go_simp
         try with_reducible rfl
       simp only [Act.put, List.getElem_toArray, List.getElem_cons_zero, List.getElem_cons_succ, List.setIfInBounds_toArray, List.set_cons_zero, List.set_cons_succ]
       refine wpAnyH_take (i := 2) (v := ?_) rfl (by kernel_rfl) (by kernel_rfl) (by kernel_rfl) (fun _ _ _ h => h) (Or.inl ⟨by rfl, ?_⟩) (by assumption) ?_
       rotate_left
       · intro wx hSw
         go_simp
         try with_reducible rfl
       simp only [Act.put, List.getElem_toArray, List.getElem_cons_zero, List.getElem_cons_succ, List.setIfInBounds_toArray, List.set_cons_zero, List.set_cons_succ]
       refine wpAnyH_take (i := 4) (v := ?_) rfl (by kernel_rfl) (by kernel_rfl) (by kernel_rfl) (fun _ _ _ h => h) (Or.inl ⟨by rfl, ?_⟩) (by assumption) ?_
       rotate_left
       · intro wx hSw
         go_simp
         try with_reducible rfl
       simp only [Act.put, List.getElem_toArray, List.getElem_cons_zero, List.getElem_cons_succ, List.setIfInBounds_toArray, List.set_cons_zero, List.set_cons_succ]
       refine wpAnyH_take (i := 5) (v := ?_) rfl (by kernel_rfl) (by kernel_rfl) (by kernel_rfl) (fun _ _ _ h => h) (Or.inl ⟨by rfl, ?_⟩) (by assumption) ?_
       rotate_left
       · intro wx hSw
         go_simp
         try with_reducible rfl
       simp only [Act.put, List.getElem_toArray, List.getElem_cons_zero, List.getElem_cons_succ, List.setIfInBounds_toArray, List.set_cons_zero, List.set_cons_succ]
       refine wpAnyH_take (i := 6) (v := ?_) rfl (by kernel_rfl) (by kernel_rfl) (by kernel_rfl) (fun _ _ _ h => h) (Or.inl ⟨by rfl, ?_⟩) (by assumption) ?_
       rotate_left
       · intro wx hSw
         go_simp
         try with_reducible rfl
       simp only [Act.put, List.getElem_toArray, List.getElem_cons_zero, List.getElem_cons_succ, List.setIfInBounds_toArray, List.set_cons_zero, List.set_cons_succ]
       refine wpAnyH_take (i := 7) (v := ?_) rfl (by kernel_rfl) (by kernel_rfl) (by kernel_rfl) (fun _ _ _ h => h) (Or.inl ⟨by rfl, ?_⟩) (by assumption) ?_
       rotate_left
       · intro wx hSw
         go_simp
         try with_reducible rfl
       simp only [Act.put, List.getElem_toArray, List.getElem_cons_zero, List.getElem_cons_succ, List.setIfInBounds_toArray, List.set_cons_zero, List.set_cons_succ]
       refine wpAnyH_take (i := 8) (v := ?_) rfl (by kernel_rfl) (by kernel_rfl) (by kernel_rfl) (fun _ _ _ h => h) (Or.inl ⟨by rfl, ?_⟩) (by assumption) ?_
       rotate_left
       · intro wx hSw
         go_simp
         try with_reducible rfl
       simp only [Act.put, List.getElem_toArray, List.getElem_cons_zero, List.getElem_cons_succ, List.setIfInBounds_toArray, List.set_cons_zero, List.set_cons_succ]
       refine wpAnyH_take (i := 9) (v := ?_) rfl (by kernel_rfl) (by kernel_rfl) (by kernel_rfl) (fun _ _ _ h => h) (Or.inl ⟨by rfl, ?_⟩) (by assumption) ?_
       rotate_left
       · intro wx hSw
         go_simp
         try with_reducible rfl
       simp only [Act.put, List.getElem_toArray, List.getElem_cons_zero, List.getElem_cons_succ, List.setIfInBounds_toArray, List.set_cons_zero, List.set_cons_succ]
       refine wpAnyH_take (i := 10) (v := ?_) rfl (by kernel_rfl) (by kernel_rfl) (by kernel_rfl) (fun _ _ _ h => h) (Or.inl ⟨by rfl, ?_⟩) (by assumption) ?_
       rotate_left
       · intro wx hSw
         go_simp
         try with_reducible rfl
       simp only [Act.put, List.getElem_toArray, List.getElem_cons_zero, List.getElem_cons_succ, List.setIfInBounds_toArray, List.set_cons_zero, List.set_cons_succ]
       refine wpAnyH_take (i := 11) (v := ?_) rfl (by kernel_rfl) (by kernel_rfl) (by kernel_rfl) (fun _ _ _ h => h) (Or.inl ⟨by rfl, ?_⟩) (by assumption) ?_
       rotate_left
       · intro wx hSw
         go_simp
         try with_reducible rfl
       simp only [Act.put, List.getElem_toArray, List.getElem_cons_zero, List.getElem_cons_succ, List.setIfInBounds_toArray, List.set_cons_zero, List.set_cons_succ]
       refine wpAnyH_take (i := 12) (v := ?_) rfl (by kernel_rfl) (by kernel_rfl) (by kernel_rfl) (fun _ _ _ h => h) (Or.inl ⟨by rfl, ?_⟩) (by assumption) ?_
       rotate_left
       · intro wx hSw
         go_simp
         try with_reducible rfl
       simp only [Act.put, List.getElem_toArray, List.getElem_cons_zero, List.getElem_cons_succ, List.setIfInBounds_toArray, List.set_cons_zero, List.set_cons_succ]
       refine wpAnyH_ready (rs := [3,13]) (by kernel_rfl) (by simp) ?_
       refine AllReadyH.cons rfl (fun K' hK => ?_) (AllReadyH.cons rfl (fun K' hK => ?_) AllReadyH.nil)
       · go_simp
         refine hK.out _ _ (by exact g0) (fun hHeld => ?_)
         clear hK K'
         refine wpAnyH_ready (rs := [13]) (by kernel_rfl) (by simp) ?_
         refine AllReadyH.cons rfl (fun K' hK => ?_) AllReadyH.nil
         go_simp
         refine hK.out _ _ (by exact g0) (fun hHeld => ?_)
         clear hK K'
         refine wpAnyH_take (i := 14) (v := ?_) rfl (by kernel_rfl) (by kernel_rfl) (by kernel_rfl) (fun _ _ _ h => h) (Or.inl ⟨by rfl, ?_⟩) (by assumption) ?_
         rotate_left
         · intro wx hSw
           go_simp
           try with_reducible rfl
         simp only [Act.put, List.getElem_toArray, List.getElem_cons_zero, List.getElem_cons_succ, List.setIfInBounds_toArray, List.set_cons_zero, List.set_cons_succ]
         refine wpAnyH_ready (rs := [15]) (by kernel_rfl) (by simp) ?_
         refine AllReadyH.cons rfl (fun K' hK => ?_) AllReadyH.nil
         go_simp
         go_wp2_with ((go_at_call 79; refine (HSH.out _).mono ?_; rintro e w5 ⟨rfl, rfl⟩))
         refine hK.out _ _ (by exact g0) (fun hHeld => ?_)
         clear hK K'
         refine wpAnyH_take (i := 16) (v := ?_) rfl (by kernel_rfl) (by kernel_rfl) (by kernel_rfl) (fun _ _ _ h => h) (Or.inl ⟨by rfl, ?_⟩) (by assumption) ?_
         rotate_left
         · intro wx hSw
           go_simp
           try with_reducible rfl
         simp only [Act.put, List.getElem_toArray, List.getElem_cons_zero, List.getElem_cons_succ, List.setIfInBounds_toArray, List.set_cons_zero, List.set_cons_succ]
         refine wpAnyH_take (i := 17) (v := ?_) rfl (by kernel_rfl) (by kernel_rfl) (by kernel_rfl) (fun _ _ _ h => h) (Or.inl ⟨by rfl, ?_⟩) (by assumption) ?_
         rotate_left
         · intro wx hSw
           go_simp
           try with_reducible rfl
         simp only [Act.put, List.getElem_toArray, List.getElem_cons_zero, List.getElem_cons_succ, List.setIfInBounds_toArray, List.set_cons_zero, List.set_cons_succ]
         refine wpAnyH_take (i := 18) (v := ?_) rfl (by kernel_rfl) (by kernel_rfl) (by kernel_rfl) (fun _ _ _ h => h) (Or.inl ⟨by rfl, ?_⟩) (by assumption) ?_
         rotate_left
         · intro wx hSw
           go_simp
           try with_reducible rfl
         simp only [Act.put, List.getElem_toArray, List.getElem_cons_zero, List.getElem_cons_succ, List.setIfInBounds_toArray, List.set_cons_zero, List.set_cons_succ]
         refine wpAnyH_ready (rs := [19]) (by kernel_rfl) (by simp) ?_
         refine AllReadyH.cons rfl (fun K' hK => ?_) AllReadyH.nil
         go_simp
         refine hK.out _ _ (by exact HS1.out) (fun hHeld => ?_)
         clear hK K'
         refine wpAnyH_done (by kernel_rfl) ?_ _
         go_wp2_with fail
         go_meet
         exact hide ⟨1, rfl⟩
       · go_simp
         refine hK.out _ _ (by exact g0) (fun hHeld => ?_)
         clear hK K'
         refine wpAnyH_take (i := 14) (v := ?_) rfl (by kernel_rfl) (by kernel_rfl) (by kernel_rfl) (fun _ _ _ h => h) (Or.inl ⟨by rfl, ?_⟩) (by assumption) ?_
         rotate_left
         · intro wx hSw
           go_simp
           try with_reducible rfl
         simp only [Act.put, List.getElem_toArray, List.getElem_cons_zero, List.getElem_cons_succ, List.setIfInBounds_toArray, List.set_cons_zero, List.set_cons_succ]
         refine wpAnyH_ready (rs := [3,15]) (by kernel_rfl) (by simp) ?_
         refine AllReadyH.cons rfl (fun K' hK => ?_) (AllReadyH.cons rfl (fun K' hK => ?_) AllReadyH.nil)
         · go_simp
           refine hK.out _ _ (by exact g0) (fun hHeld => ?_)
           clear hK K'
           refine wpAnyH_ready (rs := [15]) (by kernel_rfl) (by simp) ?_
           refine AllReadyH.cons rfl (fun K' hK => ?_) AllReadyH.nil
           go_simp
           go_wp2_with ((go_at_call 79; refine (HSH.out _).mono ?_; rintro e w5 ⟨rfl, rfl⟩))
           refine hK.out _ _ (by exact g0) (fun hHeld => ?_)
           clear hK K'
           refine wpAnyH_take (i := 16) (v := ?_) rfl (by kernel_rfl) (by kernel_rfl) (by kernel_rfl) (fun _ _ _ h => h) (Or.inl ⟨by rfl, ?_⟩) (by assumption) ?_
           rotate_left
           · intro wx hSw
             go_simp
             try with_reducible rfl
           simp only [Act.put, List.getElem_toArray, List.getElem_cons_zero, List.getElem_cons_succ, List.setIfInBounds_toArray, List.set_cons_zero, List.set_cons_succ]
           refine wpAnyH_take (i := 17) (v := ?_) rfl (by kernel_rfl) (by kernel_rfl) (by kernel_rfl) (fun _ _ _ h => h) (Or.inl ⟨by rfl, ?_⟩) (by assumption) ?_
           rotate_left
           · intro wx hSw
             go_simp
             try with_reducible rfl
           simp only [Act.put, List.getElem_toArray, List.getElem_cons_zero, List.getElem_cons_succ, List.setIfInBounds_toArray, List.set_cons_zero, List.set_cons_succ]
           refine wpAnyH_take (i := 18) (v := ?_) rfl (by kernel_rfl) (by kernel_rfl) (by kernel_rfl) (fun _ _ _ h => h) (Or.inl ⟨by rfl, ?_⟩) (by assumption) ?_
           rotate_left
           · intro wx hSw
             go_simp
             try with_reducible rfl
           simp only [Act.put, List.getElem_toArray, List.getElem_cons_zero, List.getElem_cons_succ, List.setIfInBounds_toArray, List.set_cons_zero, List.set_cons_succ]
           refine wpAnyH_ready (rs := [19]) (by kernel_rfl) (by simp) ?_
           refine AllReadyH.cons rfl (fun K' hK => ?_) AllReadyH.nil
           go_simp
           refine hK.out _ _ (by exact HS1.out) (fun hHeld => ?_)
           clear hK K'
           refine wpAnyH_done (by kernel_rfl) ?_ _
           go_wp2_with fail
           go_meet
           exact hide ⟨1, rfl⟩
         · go_simp
           go_wp2_with ((go_at_call 79; refine (HSH.out _).mono ?_; rintro e w5 ⟨rfl, rfl⟩))
           refine hK.out _ _ (by exact g0) (fun hHeld => ?_)
           clear hK K'
           refine wpAnyH_ready (rs := [3]) (by kernel_rfl) (by simp) ?_
           refine AllReadyH.cons rfl (fun K' hK => ?_) AllReadyH.nil
           go_simp
           refine hK.out _ _ (by exact g0) (fun hHeld => ?_)
           clear hK K'
           refine wpAnyH_take (i := 16) (v := ?_) rfl (by kernel_rfl) (by kernel_rfl) (by kernel_rfl) (fun _ _ _ h => h) (Or.inl ⟨by rfl, ?_⟩) (by assumption) ?_
           rotate_left
           · intro wx hSw
             go_simp
             try with_reducible rfl
           simp only [Act.put, List.getElem_toArray, List.getElem_cons_zero, List.getElem_cons_succ, List.setIfInBounds_toArray, List.set_cons_zero, List.set_cons_succ]
           refine wpAnyH_take (i := 17) (v := ?_) rfl (by kernel_rfl) (by kernel_rfl) (by kernel_rfl) (fun _ _ _ h => h) (Or.inl ⟨by rfl, ?_⟩) (by assumption) ?_
           rotate_left
           · intro wx hSw
             go_simp
             try with_reducible rfl
           simp only [Act.put, List.getElem_toArray, List.getElem_cons_zero, List.getElem_cons_succ, List.setIfInBounds_toArray, List.set_cons_zero, List.set_cons_succ]
           refine wpAnyH_take (i := 18) (v := ?_) rfl (by kernel_rfl) (by kernel_rfl) (by kernel_rfl) (fun _ _ _ h => h) (Or.inl ⟨by rfl, ?_⟩) (by assumption) ?_
           rotate_left
           · intro wx hSw
             go_simp
             try with_reducible rfl
           simp only [Act.put, List.getElem_toArray, List.getElem_cons_zero, List.getElem_cons_succ, List.setIfInBounds_toArray, List.set_cons_zero, List.set_cons_succ]
           refine wpAnyH_ready (rs := [19]) (by kernel_rfl) (by simp) ?_
           refine AllReadyH.cons rfl (fun K' hK => ?_) AllReadyH.nil
           go_simp
           refine hK.out _ _ (by exact HS1.out) (fun hHeld => ?_)
           clear hK K'
           refine wpAnyH_done (by kernel_rfl) ?_ _
           go_wp2_with fail
           go_meet
           exact hide ⟨1, rfl⟩
     case rest =>
       obtain ⟨q7, hq7⟩ := hcut.out
       have HB7 : Hid (Bk 112 wc P #[.slice ao bl cap, .int .i64 (kk : Int)]) := hide (by rw [hq7]; exact HBX.out.set 1 _)
       have HP7 : Hid (Bk 73 wc p (headC Li DI (U : Int))) := hide (by rw [hq7]; exact HBP.out.other P 1 _ HPN.out)
       have HQ7 := hide hq7
       have g0 : wc.cell? ⟨P, 0, none⟩ = some (.slice ao bl cap) := (HB7.out.cell 0 rfl).1
       have y0 : wc.frozen? ⟨P, 0, none⟩ = false := (HB7.out.cell 0 rfl).2
       have g1 : wc.cell? ⟨P, 1, none⟩ = some (.int .i64 (kk : Int)) := (HB7.out.cell 1 rfl).1
       clear hq7 hcut
       obtain ⟨W7, hW7⟩ : ∃ W7, W7 = wc := ⟨_, rfl⟩
       rw [<- hW7] at HB7 HP7 HQ7 g0 y0 g1 ⊢
       clear hW7
       go_upto_region 8 with fail
       go_cut [] (fun wd => Hid (∃ q, wd = (W7.setCell ⟨P, 0, none⟩ (.slice ao kk cap)).drewN q))
       case first =>
         go_region
         all_goals
           go_wp2_with fail
           go_meet
           exact hide ⟨1, rfl⟩
       case rest =>
         obtain ⟨q8, hq8⟩ := hcut.out
         have HB8 : Hid (Bk 112 wc P #[.slice ao kk cap, .int .i64 (kk : Int)]) := hide (by rw [hq8]; exact HB7.out.set 0 _)
         have HP8 : Hid (Bk 73 wc p (headC Li DI (U : Int))) := hide (by rw [hq8]; exact HP7.out.other P 0 _ HPN.out)
         have HQ8 := hide hq8
         have h1 : wc.cell? ⟨P, 1, none⟩ = some (.int .i64 (kk : Int)) := (HB8.out.cell 1 rfl).1
         have h2 : wc.cell? ⟨p, 1, none⟩ = some (.int .i64 (U : Int)) := (HP8.out.cell 1 rfl).1
         have h3 : wc.frozen? ⟨p, 1, none⟩ = false := (HP8.out.cell 1 rfl).2
         clear hq8 hcut g0 y0 g1
         obtain ⟨W8, hW8⟩ : ∃ W8, W8 = wc := ⟨_, rfl⟩
         rw [<- hW8] at HQ8 h1 h2 h3 ⊢
         clear hW8
         go_upto_region 9 with fail
         go_region
         all_goals
           go_wp2
           go_roundw
           case rel =>
             refine ⟨i + 1, by go_num, by have := HLT.out; omega, _, hide (HNX.out.keep (w' := (W8.setCell ⟨p, 1, none⟩ (.int .i64 ((U : Int) + (kk : Int)))).drew) (fun k _ => ?_) ?_), hide ?_⟩
             · rw [HQ8.out, HQ7.out]
               rfl
             · rw [HQ8.out, HQ7.out]
               exact Nat.le_refl _
             · rw [HQ8.out, HQ7.out]
               exact ⟨HOX.out.os, HOX.out.tape, HOX.out.output, HOX.out.size, HOX.out.block⟩
           case measure => have := HLT.out; simp [intOf]; omega
   · obtain ⟨J, hJ⟩ : ∃ J, J = i % keep.length := ⟨_, rfl⟩
     have hJl : J < keep.length := by rw [hJ]; exact Nat.mod_lt _ (by omega)
     have hJi : (i : Int) % (keep.length : Int) = (J : Int) := by rw [hJ]; omega
     have eA : keep.getD J 0 = A := by rw [HA.out, hJ]; exact (if_neg hk0).symm
     obtain ⟨kb, koff, rfl, hkc⟩ : ∃ kb koff, ka = some ⟨kb, koff, none⟩ ∧ wr.cell? ⟨kb, koff + J, none⟩ = some (.int .i64 A) := by
       obtain ⟨a', c', hv', _, _, _, _, h6⟩ := HRKI.out
       simp only [Value.slice.injEq] at hv'
       obtain ⟨rfl, _, rfl⟩ := hv'
       rcases h6 with h6 | ⟨kb, koff, rfl, h7⟩
       · rw [h6] at hk0
         simp at hk0
       · exact ⟨kb, koff, rfl, by rw [h7 J hJl, eA]⟩
     have hkp : 0 < keep.length := by omega
     have hkpi : (0 : Int) < (keep.length : Int) := by omega
     clear eA hJ hk0

     go_upto_region 7 with fail
     clear hnc hlook k2
     go_cut [] (fun wd => Hid (∃ q, wd = (wr.setCell ⟨P, 1, none⟩ (.int .i64 (kk : Int))).drewN q))
     case first =>
       refine wp_region_held_drew (S := fun w' => w'.cell? ⟨P, 0, none⟩ = some (.slice ao bl cap)) (by kernel_rfl) (by exact g0) (fun hHeld => ?_)
       refine wpAnyH_take (i := 0) (v := ?_) rfl (by kernel_rfl) (by kernel_rfl) (by kernel_rfl) (fun _ _ _ h => h) (Or.inl ⟨by rfl, ?_⟩) (by assumption) ?_
       rotate_left
       · intro wx hSw
         go_simp
         try with_reducible rfl
       simp only [Act.put, List.getElem_toArray, List.getElem_cons_zero, List.setIfInBounds_toArray, List.set_cons_zero, List.set_cons_succ]
       refine wpAnyH_take (i := 1) (v := ?_) rfl (by kernel_rfl) (by kernel_rfl) (by kernel_rfl) (fun _ _ _ h => h) (Or.inl ⟨by rfl, ?_⟩) (by assumption) ?_
       rotate_left
       · intro wx hSw
         go_simp
         try with_reducible rfl
       simp only [Act.put, List.getElem_toArray, List.getElem_cons_zero, List.getElem_cons_succ, List.setIfInBounds_toArray, List.set_cons_zero, List.set_cons_succ]
       refine wpAnyH_take (i := 2) (v := ?_) rfl (by kernel_rfl) (by kernel_rfl) (by kernel_rfl) (fun _ _ _ h => h) (Or.inl ⟨by rfl, ?_⟩) (by assumption) ?_
       rotate_left
       · intro wx hSw
         go_simp
         try with_reducible rfl
       simp only [Act.put, List.getElem_toArray, List.getElem_cons_zero, List.getElem_cons_succ, List.setIfInBounds_toArray, List.set_cons_zero, List.set_cons_succ]
       refine wpAnyH_take (i := 4) (v := ?_) rfl (by kernel_rfl) (by kernel_rfl) (by kernel_rfl) (fun _ _ _ h => h) (Or.inl ⟨by rfl, ?_⟩) (by assumption) ?_
       rotate_left
       · intro wx hSw
         go_simp
         try with_reducible rfl
       simp only [Act.put, List.getElem_toArray, List.getElem_cons_zero, List.getElem_cons_succ, List.setIfInBounds_toArray, List.set_cons_zero, List.set_cons_succ]
       refine wpAnyH_take (i := 5) (v := ?_) rfl (by kernel_rfl) (by kernel_rfl) (by kernel_rfl) (fun _ _ _ h => h) (Or.inl ⟨by rfl, ?_⟩) (by assumption) ?_
       rotate_left
       · intro wx hSw
         go_simp
         try with_reducible rfl
       simp only [Act.put, List.getElem_toArray, List.getElem_cons_zero, List.getElem_cons_succ, List.setIfInBounds_toArray, List.set_cons_zero, List.set_cons_succ]
       refine wpAnyH_take (i := 6) (v := ?_) rfl (by kernel_rfl) (by kernel_rfl) (by kernel_rfl) (fun _ _ _ h => h) (Or.inl ⟨by rfl, ?_⟩) (by assumption) ?_
       rotate_left
       · intro wx hSw
         go_simp
         try with_reducible rfl
       simp only [Act.put, List.getElem_toArray, List.getElem_cons_zero, List.getElem_cons_succ, List.setIfInBounds_toArray, List.set_cons_zero, List.set_cons_succ]
       refine wpAnyH_take (i := 7) (v := ?_) rfl (by kernel_rfl) (by kernel_rfl) (by kernel_rfl) (fun _ _ _ h => h) (Or.inl ⟨by rfl, ?_⟩) (by assumption) ?_
       rotate_left
       · intro wx hSw
         go_simp
         try with_reducible rfl
       simp only [Act.put, List.getElem_toArray, List.getElem_cons_zero, List.getElem_cons_succ, List.setIfInBounds_toArray, List.set_cons_zero, List.set_cons_succ]
       refine wpAnyH_take (i := 8) (v := ?_) rfl (by kernel_rfl) (by kernel_rfl) (by kernel_rfl) (fun _ _ _ h => h) (Or.inl ⟨by rfl, ?_⟩) (by assumption) ?_
       rotate_left
       · intro wx hSw
         go_simp
         try with_reducible rfl
       simp only [Act.put, List.getElem_toArray, List.getElem_cons_zero, List.getElem_cons_succ, List.setIfInBounds_toArray, List.set_cons_zero, List.set_cons_succ]
       refine wpAnyH_take (i := 9) (v := ?_) rfl (by kernel_rfl) (by kernel_rfl) (by kernel_rfl) (fun _ _ _ h => h) (Or.inl ⟨by rfl, ?_⟩) (by assumption) ?_
       rotate_left
       · intro wx hSw
         go_simp
         try with_reducible rfl
       simp only [Act.put, List.getElem_toArray, List.getElem_cons_zero, List.getElem_cons_succ, List.setIfInBounds_toArray, List.set_cons_zero, List.set_cons_succ]
       refine wpAnyH_take (i := 10) (v := ?_) rfl (by kernel_rfl) (by kernel_rfl) (by kernel_rfl) (fun _ _ _ h => h) (Or.inl ⟨by rfl, ?_⟩) (by assumption) ?_
       rotate_left
       · intro wx hSw
         go_simp
         try with_reducible rfl
       simp only [Act.put, List.getElem_toArray, List.getElem_cons_zero, List.getElem_cons_succ, List.setIfInBounds_toArray, List.set_cons_zero, List.set_cons_succ]
       refine wpAnyH_take (i := 11) (v := ?_) rfl (by kernel_rfl) (by kernel_rfl) (by kernel_rfl) (fun _ _ _ h => h) (Or.inl ⟨by rfl, ?_⟩) (by assumption) ?_
       rotate_left
       · intro wx hSw
         go_simp
         try with_reducible rfl
       simp only [Act.put, List.getElem_toArray, List.getElem_cons_zero, List.getElem_cons_succ, List.setIfInBounds_toArray, List.set_cons_zero, List.set_cons_succ]
       refine wpAnyH_take (i := 12) (v := ?_) rfl (by kernel_rfl) (by kernel_rfl) (by kernel_rfl) (fun _ _ _ h => h) (Or.inl ⟨by rfl, ?_⟩) (by assumption) ?_
       rotate_left
       · intro wx hSw
         go_simp
         try with_reducible rfl
       simp only [Act.put, List.getElem_toArray, List.getElem_cons_zero, List.getElem_cons_succ, List.setIfInBounds_toArray, List.set_cons_zero, List.set_cons_succ]
       refine wpAnyH_ready (rs := [3,13]) (by kernel_rfl) (by simp) ?_
       refine AllReadyH.cons rfl (fun K' hK => ?_) (AllReadyH.cons rfl (fun K' hK => ?_) AllReadyH.nil)
       · go_simp
         refine hK.out _ _ (by exact g0) (fun hHeld => ?_)
         clear hK K'
         refine wpAnyH_ready (rs := [13]) (by kernel_rfl) (by simp) ?_
         refine AllReadyH.cons rfl (fun K' hK => ?_) AllReadyH.nil
         go_simp
         refine hK.out _ _ (by exact g0) (fun hHeld => ?_)
         clear hK K'
         refine wpAnyH_take (i := 14) (v := ?_) rfl (by kernel_rfl) (by kernel_rfl) (by kernel_rfl) (fun _ _ _ h => h) (Or.inl ⟨by rfl, ?_⟩) (by assumption) ?_
         rotate_left
         · intro wx hSw
           go_simp
           try with_reducible rfl
         simp only [Act.put, List.getElem_toArray, List.getElem_cons_zero, List.getElem_cons_succ, List.setIfInBounds_toArray, List.set_cons_zero, List.set_cons_succ]
         refine wpAnyH_ready (rs := [15]) (by kernel_rfl) (by simp) ?_
         refine AllReadyH.cons rfl (fun K' hK => ?_) AllReadyH.nil
         go_simp
         go_wp2_with ((go_at_call 79; refine (HSH.out _).mono ?_; rintro e w5 ⟨rfl, rfl⟩))
         refine hK.out _ _ (by exact g0) (fun hHeld => ?_)
         clear hK K'
         refine wpAnyH_take (i := 16) (v := ?_) rfl (by kernel_rfl) (by kernel_rfl) (by kernel_rfl) (fun _ _ _ h => h) (Or.inl ⟨by rfl, ?_⟩) (by assumption) ?_
         rotate_left
         · intro wx hSw
           go_simp
           try with_reducible rfl
         simp only [Act.put, List.getElem_toArray, List.getElem_cons_zero, List.getElem_cons_succ, List.setIfInBounds_toArray, List.set_cons_zero, List.set_cons_succ]
         refine wpAnyH_take (i := 17) (v := ?_) rfl (by kernel_rfl) (by kernel_rfl) (by kernel_rfl) (fun _ _ _ h => h) (Or.inl ⟨by rfl, ?_⟩) (by assumption) ?_
         rotate_left
         · intro wx hSw
           go_simp
           try with_reducible rfl
         simp only [Act.put, List.getElem_toArray, List.getElem_cons_zero, List.getElem_cons_succ, List.setIfInBounds_toArray, List.set_cons_zero, List.set_cons_succ]
         refine wpAnyH_take (i := 18) (v := ?_) rfl (by kernel_rfl) (by kernel_rfl) (by kernel_rfl) (fun _ _ _ h => h) (Or.inl ⟨by rfl, ?_⟩) (by assumption) ?_
         rotate_left
         · intro wx hSw
           go_simp
           try with_reducible rfl
         simp only [Act.put, List.getElem_toArray, List.getElem_cons_zero, List.getElem_cons_succ, List.setIfInBounds_toArray, List.set_cons_zero, List.set_cons_succ]
         refine wpAnyH_ready (rs := [19]) (by kernel_rfl) (by simp) ?_
         refine AllReadyH.cons rfl (fun K' hK => ?_) AllReadyH.nil
         go_simp
         refine hK.out _ _ (by exact HS1.out) (fun hHeld => ?_)
         clear hK K'
         refine wpAnyH_done (by kernel_rfl) ?_ _
         go_wp2_with fail
         go_meet
         exact hide ⟨1, rfl⟩
       · go_simp
         refine hK.out _ _ (by exact g0) (fun hHeld => ?_)
         clear hK K'
         refine wpAnyH_take (i := 14) (v := ?_) rfl (by kernel_rfl) (by kernel_rfl) (by kernel_rfl) (fun _ _ _ h => h) (Or.inl ⟨by rfl, ?_⟩) (by assumption) ?_
         rotate_left
         · intro wx hSw
           go_simp
           try with_reducible rfl
         simp only [Act.put, List.getElem_toArray, List.getElem_cons_zero, List.getElem_cons_succ, List.setIfInBounds_toArray, List.set_cons_zero, List.set_cons_succ]
         refine wpAnyH_ready (rs := [3,15]) (by kernel_rfl) (by simp) ?_
         refine AllReadyH.cons rfl (fun K' hK => ?_) (AllReadyH.cons rfl (fun K' hK => ?_) AllReadyH.nil)
         · go_simp
           refine hK.out _ _ (by exact g0) (fun hHeld => ?_)
           clear hK K'
           refine wpAnyH_ready (rs := [15]) (by kernel_rfl) (by simp) ?_
           refine AllReadyH.cons rfl (fun K' hK => ?_) AllReadyH.nil
           go_simp
           go_wp2_with ((go_at_call 79; refine (HSH.out _).mono ?_; rintro e w5 ⟨rfl, rfl⟩))
           refine hK.out _ _ (by exact g0) (fun hHeld => ?_)
           clear hK K'
           refine wpAnyH_take (i := 16) (v := ?_) rfl (by kernel_rfl) (by kernel_rfl) (by kernel_rfl) (fun _ _ _ h => h) (Or.inl ⟨by rfl, ?_⟩) (by assumption) ?_
           rotate_left
           · intro wx hSw
             go_simp
             try with_reducible rfl
           simp only [Act.put, List.getElem_toArray, List.getElem_cons_zero, List.getElem_cons_succ, List.setIfInBounds_toArray, List.set_cons_zero, List.set_cons_succ]
           refine wpAnyH_take (i := 17) (v := ?_) rfl (by kernel_rfl) (by kernel_rfl) (by kernel_rfl) (fun _ _ _ h => h) (Or.inl ⟨by rfl, ?_⟩) (by assumption) ?_
           rotate_left
           · intro wx hSw
             go_simp
             try with_reducible rfl
           simp only [Act.put, List.getElem_toArray, List.getElem_cons_zero, List.getElem_cons_succ, List.setIfInBounds_toArray, List.set_cons_zero, List.set_cons_succ]
           refine wpAnyH_take (i := 18) (v := ?_) rfl (by kernel_rfl) (by kernel_rfl) (by kernel_rfl) (fun _ _ _ h => h) (Or.inl ⟨by rfl, ?_⟩) (by assumption) ?_
           rotate_left
           · intro wx hSw
             go_simp
             try with_reducible rfl
           simp only [Act.put, List.getElem_toArray, List.getElem_cons_zero, List.getElem_cons_succ, List.setIfInBounds_toArray, List.set_cons_zero, List.set_cons_succ]
           refine wpAnyH_ready (rs := [19]) (by kernel_rfl) (by simp) ?_
           refine AllReadyH.cons rfl (fun K' hK => ?_) AllReadyH.nil
           go_simp
           refine hK.out _ _ (by exact HS1.out) (fun hHeld => ?_)
           clear hK K'
           refine wpAnyH_done (by kernel_rfl) ?_ _
           go_wp2_with fail
           go_meet
           exact hide ⟨1, rfl⟩
         · go_simp
           go_wp2_with ((go_at_call 79; refine (HSH.out _).mono ?_; rintro e w5 ⟨rfl, rfl⟩))
           refine hK.out _ _ (by exact g0) (fun hHeld => ?_)
           clear hK K'
           refine wpAnyH_ready (rs := [3]) (by kernel_rfl) (by simp) ?_
           refine AllReadyH.cons rfl (fun K' hK => ?_) AllReadyH.nil
           go_simp
           refine hK.out _ _ (by exact g0) (fun hHeld => ?_)
           clear hK K'
           refine wpAnyH_take (i := 16) (v := ?_) rfl (by kernel_rfl) (by kernel_rfl) (by kernel_rfl) (fun _ _ _ h => h) (Or.inl ⟨by rfl, ?_⟩) (by assumption) ?_
           rotate_left
           · intro wx hSw
             go_simp
             try with_reducible rfl
           simp only [Act.put, List.getElem_toArray, List.getElem_cons_zero, List.getElem_cons_succ, List.setIfInBounds_toArray, List.set_cons_zero, List.set_cons_succ]
           refine wpAnyH_take (i := 17) (v := ?_) rfl (by kernel_rfl) (by kernel_rfl) (by kernel_rfl) (fun _ _ _ h => h) (Or.inl ⟨by rfl, ?_⟩) (by assumption) ?_
           rotate_left
           · intro wx hSw
             go_simp
             try with_reducible rfl
           simp only [Act.put, List.getElem_toArray, List.getElem_cons_zero, List.getElem_cons_succ, List.setIfInBounds_toArray, List.set_cons_zero, List.set_cons_succ]
           refine wpAnyH_take (i := 18) (v := ?_) rfl (by kernel_rfl) (by kernel_rfl) (by kernel_rfl) (fun _ _ _ h => h) (Or.inl ⟨by rfl, ?_⟩) (by assumption) ?_
           rotate_left
           · intro wx hSw
             go_simp
             try with_reducible rfl
           simp only [Act.put, List.getElem_toArray, List.getElem_cons_zero, List.getElem_cons_succ, List.setIfInBounds_toArray, List.set_cons_zero, List.set_cons_succ]
           refine wpAnyH_ready (rs := [19]) (by kernel_rfl) (by simp) ?_
           refine AllReadyH.cons rfl (fun K' hK => ?_) AllReadyH.nil
           go_simp
           refine hK.out _ _ (by exact HS1.out) (fun hHeld => ?_)
           clear hK K'
           refine wpAnyH_done (by kernel_rfl) ?_ _
           go_wp2_with fail
           go_meet
           exact hide ⟨1, rfl⟩
     case rest =>
       obtain ⟨q7, hq7⟩ := hcut.out
       have HB7 : Hid (Bk 112 wc P #[.slice ao bl cap, .int .i64 (kk : Int)]) := hide (by rw [hq7]; exact HBX.out.set 1 _)
       have HP7 : Hid (Bk 73 wc p (headC Li DI (U : Int))) := hide (by rw [hq7]; exact HBP.out.other P 1 _ HPN.out)
       have HQ7 := hide hq7
       have g0 : wc.cell? ⟨P, 0, none⟩ = some (.slice ao bl cap) := (HB7.out.cell 0 rfl).1
       have y0 : wc.frozen? ⟨P, 0, none⟩ = false := (HB7.out.cell 0 rfl).2
       have g1 : wc.cell? ⟨P, 1, none⟩ = some (.int .i64 (kk : Int)) := (HB7.out.cell 1 rfl).1
       clear hq7 hcut
       obtain ⟨W7, hW7⟩ : ∃ W7, W7 = wc := ⟨_, rfl⟩
       rw [<- hW7] at HB7 HP7 HQ7 g0 y0 g1 ⊢
       clear hW7
       go_upto_region 8 with fail
       go_cut [] (fun wd => Hid (∃ q, wd = (W7.setCell ⟨P, 0, none⟩ (.slice ao kk cap)).drewN q))
       case first =>
         go_region
         all_goals
           go_wp2_with fail
           go_meet
           exact hide ⟨1, rfl⟩
       case rest =>
         obtain ⟨q8, hq8⟩ := hcut.out
         have HB8 : Hid (Bk 112 wc P #[.slice ao kk cap, .int .i64 (kk : Int)]) := hide (by rw [hq8]; exact HB7.out.set 0 _)
         have HP8 : Hid (Bk 73 wc p (headC Li DI (U : Int))) := hide (by rw [hq8]; exact HP7.out.other P 0 _ HPN.out)
         have HQ8 := hide hq8
         have h1 : wc.cell? ⟨P, 1, none⟩ = some (.int .i64 (kk : Int)) := (HB8.out.cell 1 rfl).1
         have h2 : wc.cell? ⟨p, 1, none⟩ = some (.int .i64 (U : Int)) := (HP8.out.cell 1 rfl).1
         have h3 : wc.frozen? ⟨p, 1, none⟩ = false := (HP8.out.cell 1 rfl).2
         clear hq8 hcut g0 y0 g1
         obtain ⟨W8, hW8⟩ : ∃ W8, W8 = wc := ⟨_, rfl⟩
         rw [<- hW8] at HQ8 h1 h2 h3 ⊢
         clear hW8
         go_upto_region 9 with fail
         go_region
         all_goals
           go_wp2
           go_roundw
           case rel =>
             refine ⟨i + 1, by go_num, by have := HLT.out; omega, _, hide (HNX.out.keep (w' := (W8.setCell ⟨p, 1, none⟩ (.int .i64 ((U : Int) + (kk : Int)))).drew) (fun k _ => ?_) ?_), hide ?_⟩
             · rw [HQ8.out, HQ7.out]
               rfl
             · rw [HQ8.out, HQ7.out]
               exact Nat.le_refl _
             · rw [HQ8.out, HQ7.out]
               exact ⟨HOX.out.os, HOX.out.tape, HOX.out.output, HOX.out.size, HOX.out.block⟩
           case measure => have := HLT.out; simp [intOf]; omega

set_option maxRecDepth 100000 in
set_option maxHeartbeats 1000000 in
theorem crash_any {F : Nat -> Prop} {p : Nat} {d : Dk} {N T : Nat} (names : Int) (vk : Value) (keep : List Int) (w : World) (h : Dsk F w p d N T) (hN : N <= 1000000) (hT : T <= 1000000000) (hr : RdI w vk keep) (hkv : keep = [] ∨ ∀ k, vk.ownBlock = some k -> ¬ F k) (hkl : keep.length <= 1000000000) :
   Calls Tryz.prog 14 #[ptr p, .int .i64 names, vk] w fun e w' => e = .returned (.tuple #[]) ∧ Dsk F w' p (crashD d names keep) N T ∧ Only F w w' := by
 obtain ⟨L, h, hok, hbn, hrm, hpw⟩ := h
 have HOK := hide hok
 have HBN := hide hbn
 have HI := hide (And.intro hrm hpw)
 have HRK := hide hr
 have HKV := hide hkv
 have HL := hide (loseChanges_any names w h hok hbn hN)
 obtain ⟨K, hK⟩ : ∃ K, K = shareN names d.waits.length := ⟨_, rfl⟩
 have HKK := hide hK
 rw [<- hK] at HL
 have HOK1 : Hid (OkD { d with kept := dirK d K, waits := [] }) := hide (okD_kept (fs := d.files) (hok.dirs K) hok.keep)
 have HBN1 : Hid (Bnd { d with kept := dirK d K, waits := [] } N T) := hide ⟨hbn.files, by have h1 := dirK_len d K; have h2 := hbn.names; show (dirK d K).length + 0 <= N; omega, hbn.bytes⟩
 have HDL : Hid (∀ q ∈ dirK d K, q.2 < d.files.length) := hide (fun q hq => ((hok.dirs K).may q hq).2)
 obtain ⟨ka, kc, rfl, -⟩ := hr
 clear h hok hbn hrm hpw hkv hK
 go_enter Tryz.func14, Tryz.ntmps14
 go_wp2_with fail
 refine HL.out.mono ?_
 rintro e W1 ⟨rfl, hd1, hon1⟩
 have HLB := hide (loseBytes_any _ keep W1 hd1 rfl HOK1.out HBN1.out hN hT (HRK.out.onlyE hon1 HKV.out) HKV.out hkl)
 have HON1 := hide hon1
 clear hd1 hon1
 go_wp2_with fail
 refine HLB.out.mono ?_
 rintro e W2 ⟨rfl, ⟨L2, hd2⟩, hon2⟩
 have HD2 := hide hd2
 have HON2 := hide (HON1.out.trans hon2 (fun _ _ hf => hf))
 obtain ⟨⟨-, -, -, -, -, c5⟩, -, -, -, f5⟩ := hd2.cells
 clear hd2 hon2
 go_wp2
 go_end0
 refine ⟨rfl, ⟨L2, ?_, HOK.out.crash names keep, ⟨?_, ?_, ?_⟩, HI.out.1, ⟨by show (-9223372036854775808 : Int) <= -1; omega, by show (-1 : Int) <= 9223372036854775807; omega⟩⟩, HON2.out.setCell 5 (fun _ => HD2.out.fh) _⟩
 · have h1 := HD2.out.setHead 5 (.int .i64 (-1)) (d' := crashD d names keep) (u' := (sumB (crashF keep (dirK d K) 0 d.files) (dirK d K) : Nat)) (by rw [HKK.out]; exact ⟨rfl, rfl, rfl⟩) rfl
   have e1 : usedD (crashD d names keep) = sumB (crashF keep (dirK d K) 0 d.files) (dirK d K) := by rw [HKK.out]; rfl
   rw [e1]
   exact h1
 · have := HBN.out.files
   show (crashF keep _ 0 d.files).length <= N
   rw [crashF_length]
   exact this
 · have h1 := dirK_len d (shareN names d.waits.length)
   have h2 := HBN.out.names
   show (dirK d (shareN names d.waits.length)).length + 0 <= N
   omega
 · intro x hx
   refine bytes_crashF keep (dirK d K) 0 d.files HBN.out.bytes HDL.out x ?_
   rw [HKK.out]
   exact hx

set_option maxRecDepth 100000

set_option maxHeartbeats 400000 in
theorem own_any (v : Value) (l : List UInt8) (w : World) (hr : Rd w v l) (hlim : l.length <= 70368744177664) :
   Calls Tryz.prog 186 #[v] w fun e w' => ∃ v', e = .returned v' ∧ Own w' w.heap.size v' l ∧ Below w.heap.size w w' := by
 obtain ⟨i0, hi, hz0, hz1, hz2⟩ := info_parts info8
 have HR := hide hr
 obtain ⟨ao, cap, rfl, hlc, hcm, hn0, hao⟩ := hr
 have HA := hide hao
 have HN := hide hn0
 clear hao hn0
 go_enter Tryz.func186, Tryz.ntmps186
 go_wp2_with (at_make; refine wpList_make_own _ rfl _ _ 53 rfl w.heap.size 5 i0 (.int .u8 0) 1 Tryz.underlying53 hi hz0 hz1 _ _ _ (l.length + 10) rfl rfl (by omega) (by rw [hz2]; omega) (by unfold maxLen; omega) (Nat.le_refl _) ?_)
 intro w1 hown hgrow
 have hb1 : Below w.heap.size w w1 := (Below.refl _ _).grown hgrow (Nat.le_refl _) (fun k hk => by cases hk)
 obtain ⟨ao', cap', hv', _, _, _, hao'⟩ := HR.out.below hb1 (Nat.le_refl _)
 simp only [Value.slice.injEq] at hv'
 obtain ⟨rfl, _, rfl⟩ := hv'
 have HA1 := hide hao'
 have HB := hide hb1
 have HG := hide hgrow
 clear hao' hb1 hgrow HA
 go_wp2_with (at_builtin; refine wpList_append_fits_any _ rfl _ _ 53 rfl w.heap.size 5 i0 1 Tryz.underlying53 hi hz1 w.heap.size 0 (l.length + 10) [] rfl hown ao l.length cap (Lib.byteCells l) rfl (by rw [byteCells_length, Nat.mul_one]) (fun e => ⟨by have := HN.out e; omega, HN.out e⟩) (Rd.cells HA1.out) (byteCells_one l) (by omega) ?_)
 intro w2 hown2 hgrow2
 have hb2 : Below w.heap.size w w2 := HB.out.grown hgrow2 (by have := HB.out.size; omega) (fun k hk => by simp at hk; omega)
 have HB2 := hide hb2
 have HO := hide hown2
 clear hb2 hgrow2 hown2 hown
 go_wp2
 go_ret
 exact ⟨_, rfl, Own.mk' HO.out (by simp) (by simp), HB2.out⟩

theorem or128 (y : Nat) : bits .or .u8 ((y : Int) % 256) 128 = (y : Int) % 128 + 128 := by
 rw [Lib.u8_or128_any _ (by omega) (by omega)]
 omega

theorem Own.snoc {w : World} {B : Nat} {v : Value} (l pre : List UInt8) (a : Nat) (ha : a < 256) {n : Nat} {x : Int} (h : w.ownsRow B 5 1 v n (Lib.byteCells (l ++ pre) ++ [Value.int .u8 x])) (hn : n = l.length + pre.length + 1) (hx : x = (a : Int)) : Own w B v (l ++ (pre ++ [a.toUInt8])) := by
 subst hx
 refine Own.mk' h (by rw [hn]; simp; omega) ?_
 rw [<- List.append_assoc, Lib.byteCells_snoc _ ha]

set_option maxHeartbeats 1000000 in
theorem putGroups_any (v : Value) (l : List UInt8) (u : Nat) (w : World) (hr : Rd w v l) (hlim : l.length <= 70368744177664) (hu : u < 18446744073709551616) :
   Calls Tryz.prog 187 #[v, .int .u64 (u : Int)] w fun e w' => ∃ v', e = .returned v' ∧ Own w' w.heap.size v' (l ++ Lib.uvarint u) ∧ Below w.heap.size w w' := by
 obtain ⟨i0, hi, hz0, hz1, hz2⟩ := info_parts info8
 have hlen := Lib.uvarint_length64 hu
 have HC := hide (own_any v l w hr hlim)
 have HU := hide hu
 clear hr hu
 go_enter Tryz.func187, Tryz.ntmps187
 go_wp2_with fail
 refine HC.out.mono ?_
 rintro e w0 ⟨v0, rfl, hown0, hb0⟩
 have HO0 := hide hown0
 have HB0 := hide hb0
 clear hown0 hb0 HC
 go_wp2
 go_loopw [1, 5] (fun vu vb wr => ∃ (y : Nat) (pre : List UInt8), vu = .int .u64 (y : Int) ∧ Hid (y <= u ∧ Lib.uvarint u = pre ++ Lib.uvarint y) ∧ Hid (Own wr w.heap.size vb (l ++ pre)) ∧ Hid (Below w.heap.size w wr))
   (fun vu _ _ => (intOf vu).toNat)
 case atStart => exact ⟨u, [], rfl, ⟨Nat.le_refl _, rfl⟩, by rw [List.append_nil]; exact HO0.out, HB0.out⟩
 case round =>
   obtain ⟨y, pre, rfl, hys, hown1, hnx⟩ := hrel
   have hpl : pre.length + (Lib.uvarint y).length <= 10 := by
     have h2 := congrArg List.length hys.out.2
     rw [List.length_append] at h2
     omega
   have hyp := Lib.uvarint_pos y
   have hsz := hnx.out.size
   by_cases h128 : 128 <= y
   · have hor := or128 y
     go_wp2_with (at_builtin; refine wpList_append_own _ rfl _ _ 53 rfl w.heap.size 5 i0 (.int .u8 0) 1 1 Tryz.underlying53 hi hz0 hz1 hz2 rfl (by decide) _ _ _ rfl (World.ownsRow.alloc hown1.out _) ⟨wr.heap.size, 0, none⟩ 1 1 [Value.int .u8 ((y % 128 + 128 : Nat) : Int)] rfl rfl ?c1 ?c2 ?c3 ?c4 ?c5 ?_)
     case c1 =>
       intro j u hj
       match j, hj with
       | 0, hj => simp at hj; subst hj; simp [Addr.add]
     case c2 => intro u hu; simp at hu; subst hu; rfl
     case c3 => unfold maxLen; simp; omega
     case c4 => simp; omega
     case c5 => simp; omega
     intro v' w1 hown' hgrow _
     have hnx1 : Below w.heap.size w w1 := (hnx.out.alloc (by omega) _).grown hgrow (by simp; omega) (fun k hk => (World.ownsRow.lt hown1.out k hk).1)
     have HO := hide (Own.snoc l pre (y % 128 + 128) (by omega) hown' (by simp) (by omega))
     have HB := hide hnx1
     clear hown' hnx1 hgrow
     go_wp2
     go_roundw
     case rel => exact ⟨y / 128, pre ++ [(y % 128 + 128).toUInt8], by go_num, ⟨by have := hys.out.1; omega, by rw [hys.out.2, Lib.uvarint_big h128]; simp⟩, HO, HB⟩
     case measure => simp [intOf]; omega
   · have hsm : Lib.uvarint y = [y.toUInt8] := Lib.uvarint_small (by omega)
     have HS := hide hsm
     clear hsm
     go_wp2_with (at_builtin; refine wpList_append_own _ rfl _ _ 53 rfl w.heap.size 5 i0 (.int .u8 0) 1 1 Tryz.underlying53 hi hz0 hz1 hz2 rfl (by decide) _ _ _ rfl (World.ownsRow.alloc hown1.out _) ⟨wr.heap.size, 0, none⟩ 1 1 [Value.int .u8 (y : Int)] rfl rfl ?c1 ?c2 ?c3 ?c4 ?c5 ?_)
     case c1 =>
       intro j u hj
       match j, hj with
       | 0, hj => simp at hj; subst hj; simp [Addr.add]
     case c2 => intro u hu; simp at hu; subst hu; rfl
     case c3 => unfold maxLen; simp; omega
     case c4 => simp; omega
     case c5 => simp; omega
     intro v' w1 hown' hgrow _
     have hnx1 : Below w.heap.size w w1 := (hnx.out.alloc (by omega) _).grown hgrow (by simp; omega) (fun k hk => (World.ownsRow.lt hown1.out k hk).1)
     have HO := hide (Own.snoc l pre y (by omega) hown' (by simp) rfl)
     have HB := hide hnx1
     clear hown' hnx1 hgrow
     go_wp2
     go_ret
     refine ⟨v', rfl, ?_, HB.out⟩
     rw [hys.out.2, HS.out]
     exact HO.out

def putOf (l : List UInt8) (n : Int) : List UInt8 := if 0 <= n ∧ n < 4611686018427387904 then l ++ Lib.uvarint n.toNat else l

set_option maxHeartbeats 400000 in
theorem put_any (v : Value) (l : List UInt8) (n : Int) (w : World) (hr : Rd w v l) (hlim : l.length <= 70368744177664) :
   Calls Tryz.prog 136 #[v, .int .i64 n] w fun e w' => ∃ v', e = .returned v' ∧ Own w' w.heap.size v' (putOf l n) ∧ Below w.heap.size w w' := by
 by_cases h : 0 <= n ∧ n < 4611686018427387904
 · obtain ⟨h0, h1⟩ := h
   have HE : Hid (putOf l n = l ++ Lib.uvarint n.toNat) := if_pos ⟨h0, h1⟩
   have HC := hide (putGroups_any v l n.toNat w hr hlim (by omega))
   have en : ((n.toNat : Nat) : Int) = n := Int.toNat_of_nonneg h0
   rw [en] at HC
   clear en hr
   go_enter Tryz.func136, Tryz.ntmps136
   go_wp2_with fail
   refine HC.out.mono ?_
   rintro e w' ⟨v', rfl, ho, hb⟩
   have HO := hide ho
   have HB := hide hb
   clear ho hb HC
   go_wp2
   go_ret
   exact ⟨v', rfl, by rw [HE.out]; exact HO.out, HB.out⟩
 · have HE : Hid (putOf l n = l) := if_neg h
   have HC := hide (own_any v l w hr hlim)
   clear hr
   by_cases h0 : n < 0
   all_goals
     go_enter Tryz.func136, Tryz.ntmps136
     go_wp2_with fail
     refine HC.out.mono ?_
     rintro e w' ⟨v', rfl, ho, hb⟩
     have HO := hide ho
     have HB := hide hb
     clear ho hb HC
     go_wp2
     go_ret
     exact ⟨v', rfl, by rw [HE.out]; exact HO.out, HB.out⟩

set_option maxHeartbeats 400000 in
theorem putSigned_any (v : Value) (l : List UInt8) (n : Int) (w : World) (hr : Rd w v l) (hlim : l.length <= 70368744177664) (h0 : -9223372036854775808 <= n) (h1 : n <= 9223372036854775807) :
   Calls Tryz.prog 145 #[v, .int .i64 n] w fun e w' => ∃ v', e = .returned v' ∧ Own w' w.heap.size v' (l ++ Lib.uvarint (Lib.zigzag n)) ∧ Below w.heap.size w w' := by
 have HC := hide (putGroups_any v l (Lib.zigzag n) w hr hlim (Lib.zigzag_lt h0 h1))
 have HZ := hide (zig_any n w h0 h1)
 generalize Lib.zigzag n = z at *
 clear hr h0 h1
 go_enter Tryz.func145, Tryz.ntmps145
 go_wp2_with fail
 refine HZ.out.mono ?_
 rintro e w' ⟨rfl, rfl⟩
 go_wp2_with fail
 refine HC.out.mono ?_
 rintro e w' ⟨v', rfl, ho, hb⟩
 have HO := hide ho
 have HB := hide hb
 clear ho hb HC HZ
 go_wp2
 go_ret
 exact ⟨v', rfl, HO.out, HB.out⟩

def Cnt (l : List UInt8) (c : Nat) : Prop :=
 (c = 0 ∧ ∀ j, j < 10 -> j < l.length -> 128 <= (l.getD j 0).toNat) ∨
 (1 <= c ∧ c <= 10 ∧ c <= l.length ∧ (∀ j, j + 1 < c -> 128 <= (l.getD j 0).toNat) ∧ (l.getD (c - 1) 0).toNat < 128)

set_option maxHeartbeats 400000 in
theorem count_any (v : Value) (l : List UInt8) (w : World) (hr : Rd w v l) :
   Calls Tryz.prog 225 #[v] w fun e w' => ∃ c : Nat, e = .returned (.int .i64 (c : Int)) ∧ Cnt l c ∧ w' = w := by
 obtain ⟨ao, cap, rfl, hlc, hcm, hn0, hao⟩ := hr
 clear hn0
 have hml : (l.length : Int) <= 9223372036854775807 := by unfold maxLen at hcm; omega
 by_cases h10 : (l.length : Int) <= 10
 all_goals
   go_enter Tryz.func225, Tryz.ntmps225
   go_wp2
   go_loop [7] (fun i => ∃ k : Nat, i = .int .i64 k ∧ k <= 10 ∧ k <= l.length ∧ Hid (∀ j, j < k -> 128 <= (l.getD j 0).toNat)) (fun i => 10 - (intOf i).toNat)
   case atStart => exact ⟨0, rfl, by omega, by omega, fun j hj => by omega⟩
   case round =>
     obtain ⟨k, rfl, hk10, hkl, hall⟩ := hrel
     by_cases hlt : k < 10 ∧ k < l.length
     · obtain ⟨hlt, hlt'⟩ := hlt
       rcases hao with hao | ⟨b, off, rfl, hc⟩
       · subst hao; simp at hlt'
       · have hck := hc k hlt'
         clear hc
         obtain ⟨y, hy⟩ : ∃ y, y = (l.getD k 0).toNat := ⟨_, rfl⟩
         rw [<- hy] at hck
         have HY : Hid (y = (l.getD k 0).toNat) := hy
         clear hy
         by_cases hyb : (y : Int) < 128
         · go_wp2
           go_ret
           refine ⟨k + 1, ret_int (by omega), .inr ⟨by omega, by omega, by omega, fun j hj => hall.out j (by omega), ?_⟩, rfl⟩
           rw [Nat.add_sub_cancel, <- HY.out]
           omega
         · go_wp2
           go_round
           case rel =>
             refine ⟨k + 1, by go_num, by omega, by omega, fun j hj => ?_⟩
             by_cases e : j = k
             · rw [e, <- HY.out]; omega
             · exact hall.out j (by omega)
           case measure => simp [intOf]; omega
     · go_wp2
       go_ret
       exact ⟨0, rfl, .inl ⟨rfl, fun j h1 h2 => hall.out j (by omega)⟩, rfl⟩

theorem dec64_none {l : List UInt8} (h : Cnt l 0) : dec64 l = (0, 0) := by
 rcases h with ⟨_, h⟩ | h
 · unfold dec64
   rw [dec_miss 10 l h]
 · omega

theorem dec_cnt {l : List UInt8} {c : Nat} (h : Cnt l (c + 1)) : c < 10 ∧ c < l.length ∧ (l.getD c 0).toNat < 128 ∧
   dec 10 l = if 0 < c ∧ (l.getD c 0).toNat = 0 then none else some (val (l.take (c + 1)), c + 1) := by
 rcases h with h | ⟨h1, h2, h3, h4, h5⟩
 · omega
 · have h5' : (l.getD c 0).toNat < 128 := by simpa using h5
   exact ⟨by omega, by omega, h5', dec_hit c 10 l (by omega) (by omega) (fun j hj => h4 j (by omega)) h5'⟩

theorem val_take_lt (l : List UInt8) (k : Nat) (h : k <= l.length) : val (l.take k) < 128 ^ k := by
 have := val_lt (l.take k)
 rwa [List.length_take, Nat.min_eq_left h] at this

theorem dec64_ten {l : List UInt8} (h : Cnt l 10) (hy : (l.getD 9 0).toNat ≠ 1) : dec64 l = (0, 0) := by
 obtain ⟨h1, h2, h3, h4⟩ := dec_cnt h
 unfold dec64
 rw [h4]
 by_cases hz : (l.getD 9 0).toNat = 0
 · rw [if_pos ⟨by omega, hz⟩]
 · rw [if_neg (fun e => hz e.2)]
   have hv := val_take l 9 h2
   have hm : (l.getD 9 0).toNat % 128 = (l.getD 9 0).toNat := Nat.mod_eq_of_lt h3
   rw [hm] at hv
   have e9 : 128 ^ 9 = 9223372036854775808 := by decide
   rw [e9] at hv
   have : ¬ val (l.take (9 + 1)) < 18446744073709551616 := by omega
   simp only [this, if_false]

theorem dec64_last0 {l : List UInt8} {c : Nat} (h : Cnt l (c + 1)) (hc : 0 < c) (hy : (l.getD c 0).toNat = 0) : dec64 l = (0, 0) := by
 obtain ⟨h1, h2, h3, h4⟩ := dec_cnt h
 unfold dec64
 rw [h4, if_pos ⟨hc, hy⟩]

theorem dec64_good {l : List UInt8} {c : Nat} (h : Cnt l (c + 1)) (h10 : c = 9 -> (l.getD c 0).toNat = 1) (h0 : 0 < c -> (l.getD c 0).toNat ≠ 0) :
   dec64 l = (val (l.take (c + 1)), c + 1) ∧ val (l.take (c + 1)) < 18446744073709551616 := by
 obtain ⟨h1, h2, h3, h4⟩ := dec_cnt h
 have hlt : val (l.take (c + 1)) < 18446744073709551616 := by
   by_cases e : c = 9
   · subst e
     have hv := val_take l 9 h2
     have hv9 := val_take_lt l 9 (by omega)
     rw [h10 rfl] at hv
     have e9 : 128 ^ 9 = 9223372036854775808 := by decide
     rw [e9] at hv hv9
     omega
   · have hv := val_take_lt l (c + 1) (by omega)
     have hp : 128 ^ (c + 1) <= 128 ^ 9 := Nat.pow_le_pow_right (by decide) (by omega)
     have e9 : 128 ^ 9 = 9223372036854775808 := by decide
     omega
 refine ⟨?_, hlt⟩
 unfold dec64
 rw [h4, if_neg (fun e => h0 e.1 e.2)]
 simp only [hlt, if_true]

theorem or_low (k y x : Nat) (hk : k < 64) (hy : y < 2 ^ k) (hx : x * 2 ^ k < 18446744073709551616) :
   bits .or .u64 (y : Int) (IntKind.u64.wrap ((x : Int) * 2 ^ k)) = ((y + x * 2 ^ k : Nat) : Int) := by
 have e : ((x : Int) * 2 ^ k) = ((x * 2 ^ k : Nat) : Int) := by simp
 have hp : ((2 ^ k : Nat) : Int) = (2 : Int) ^ k := by simp
 have hk64 : (2 : Nat) ^ k <= 2 ^ 64 := Nat.pow_le_pow_right (by decide) (by omega)
 rw [e, wraps_u64 _ (by omega) (by omega), bits_join_low .u64 64 (by decide) wraps_u64 k (y : Int) ((x * 2 ^ k : Nat) : Int) (by omega) (by rw [<- hp]; omega) (by omega) (by omega) (by rw [<- hp]; simp) (by omega)]
 omega

theorem or_step (l : List UInt8) (k : Nat) (hk : k < l.length) (h10 : k < 10) (h9 : k = 9 -> (l.getD k 0).toNat % 128 <= 1) :
   bits .or .u64 ((val (l.take k) : Nat) : Int) (IntKind.u64.wrap (((l.getD k 0).toNat : Int) % 128 * 2 ^ (7 * k))) = ((val (l.take (k + 1)) : Nat) : Int) := by
 have hv := val_take_lt l k (by omega)
 rw [val_take l k hk, <- pow7]
 rw [<- pow7] at hv
 have e : (((l.getD k 0).toNat : Int) % 128) = (((l.getD k 0).toNat % 128 : Nat) : Int) := by omega
 rw [e]
 refine or_low (7 * k) _ _ (by omega) hv ?_
 by_cases hk9 : k = 9
 · have := h9 hk9
   subst hk9
   have e9 : 2 ^ (7 * 9) = 9223372036854775808 := by decide
   rw [e9]
   omega
 · have hp : 2 ^ (7 * k) <= 2 ^ 56 := Nat.pow_le_pow_right (by decide) (by omega)
   have hm : (l.getD k 0).toNat % 128 <= 127 := by omega
   have := Nat.mul_le_mul hm hp
   have e56 : 127 * 2 ^ 56 < 18446744073709551616 := by decide
   omega

set_option maxHeartbeats 400000 in
theorem groups_any (v : Value) (l : List UInt8) (w : World) (hr : Rd w v l) :
   Calls Tryz.prog 210 #[v] w fun e w' => e = .returned (.tuple #[.int .u64 ((dec64 l).1 : Nat), .int .i64 ((dec64 l).2 : Nat)]) ∧ w' = w := by
 have hcnt := count_any v l w hr
 obtain ⟨ao, cap, rfl, hlc, hcm, hn0, hao⟩ := hr
 clear hn0
 have HC := hide hcnt
 clear hcnt
 go_enter Tryz.func210, Tryz.ntmps210
 go_wp2_with fail
 refine HC.out.mono ?_
 rintro e w' ⟨c, rfl, hc, rfl⟩
 have hc : Hid (Cnt l c) := hc
 clear HC
 cases c with
 | zero =>
   have H : Hid (dec64 l = (0, 0)) := dec64_none hc.out
   go_wp2
   go_ret2
   exact ⟨by rw [H.out]; rfl, rfl⟩
 | succ c =>
   obtain ⟨hc10, hcl, hyl, hdec⟩ := dec_cnt hc.out
   clear hdec
   rcases hao with hao | ⟨b, off, rfl, hcell⟩
   · subst hao; simp at hcl
   have hck := hcell c hcl
   obtain ⟨y, hy⟩ : ∃ y, y = (l.getD c 0).toNat := ⟨_, rfl⟩
   rw [<- hy] at hck hyl
   have HY : Hid (y = (l.getD c 0).toNat) := hy
   have HCELL := hide hcell
   clear hy hcell
   by_cases hbad : (c = 9 ∧ y ≠ 1) ∨ (0 < c ∧ y = 0)
   · have H : Hid (dec64 l = (0, 0)) := by
       rcases hbad with ⟨h9, hy1⟩ | ⟨h0, hy0⟩
       · subst h9
         exact dec64_ten hc.out (by rw [<- HY.out]; exact hy1)
       · exact dec64_last0 hc.out h0 (by rw [<- HY.out]; exact hy0)
     by_cases h9 : c = 9
     · have e9 : (((c : Int) + 1) == 10) = true := beq_iff_eq.2 (by omega)
       have hne : ((y : Int) != 1) = true := by rw [bne_iff_ne]; omega
       clear hbad h9
       go_wp2
       go_ret2
       exact ⟨by rw [H.out]; rfl, rfl⟩
     · have e9 : (((c : Int) + 1) == 10) = false := beq_eq_false_iff_ne.2 (by omega)
       have e1 : (1 : Int) < (c : Int) + 1 := by omega
       have e0 : ((y : Int) == 0) = true := beq_iff_eq.2 (by omega)
       clear hbad h9
       go_wp2
       go_ret2
       exact ⟨by rw [H.out]; rfl, rfl⟩
   · have H : Hid (dec64 l = (val (l.take (c + 1)), c + 1) ∧ val (l.take (c + 1)) < 18446744073709551616) := dec64_good hc.out (fun h => by rw [<- HY.out]; omega) (fun h => by rw [<- HY.out]; omega)
     have hw3 : (c = 9 ∧ y = 1) ∨ c = 0 ∨ (0 < c ∧ c < 9 ∧ y ≠ 0) := by omega
     have H9 : Hid (c = 9 -> y = 1) := fun h => by omega
     clear hbad
     rcases hw3 with hw3 | hw3 | hw3
     all_goals
       first
         | (have e9 : (((c : Int) + 1) == 10) = true := beq_iff_eq.2 (by omega)
            have hne : ((y : Int) != 1) = false := by rw [bne_eq_false_iff_eq]; omega
            have e1 : (1 : Int) < (c : Int) + 1 := by omega
            have e0 : ((y : Int) == 0) = false := beq_eq_false_iff_ne.2 (by omega))
         | (have e9 : (((c : Int) + 1) == 10) = false := beq_eq_false_iff_ne.2 (by omega)
            have e1 : ¬ (1 : Int) < (c : Int) + 1 := by omega)
         | (have e9 : (((c : Int) + 1) == 10) = false := beq_eq_false_iff_ne.2 (by omega)
            have e1 : (1 : Int) < (c : Int) + 1 := by omega
            have e0 : ((y : Int) == 0) = false := beq_eq_false_iff_ne.2 (by omega))
       clear hw3
       have ez : (((c : Int) + 1) == 0) = false := beq_eq_false_iff_ne.2 (by omega)
       go_wp2
       go_loop [5, 35] (fun u i => ∃ k : Nat, k <= c + 1 ∧ i = .int .i64 k ∧ u = .int .u64 (val (l.take k) : Nat)) (fun _ i => c + 1 - (intOf i).toNat)
       case atStart => exact ⟨0, Nat.zero_le _, rfl, rfl⟩
       case round =>
         obtain ⟨k, hk, rfl, rfl⟩ := hrel
         by_cases hlt : k < c + 1
         · have hkc := HCELL.out k (by omega)
           obtain ⟨x, hx⟩ : ∃ x, x = (l.getD k 0).toNat := ⟨_, rfl⟩
           rw [<- hx] at hkc
           have hx256 : x < 256 := by rw [hx]; exact UInt8.toNat_lt _
           have HX := hide hx
           clear hx
           obtain ⟨z, hz⟩ : ∃ z, z = val (l.take k) := ⟨_, rfl⟩
           rw [<- hz]
           have HZ := hide hz
           clear hz hck
           go_wp2
           go_round
           case rel =>
             refine ⟨k + 1, by omega, by go_num, ?_⟩
             rw [HZ.out, HX.out, or_step l k (by omega) (by omega) (fun h => ?_)]
             have hc9 : c = k := by omega
             rw [<- hc9, <- HY.out, H9.out (by omega)]
             decide
           case measure => simp [intOf]; omega
         · go_wp2
           go_ret2
           have ek : k = c + 1 := by omega
           rw [H.out.1, ek]
           exact ⟨rfl, rfl⟩

set_option maxHeartbeats 400000 in
theorem get_any (v : Value) (l : List UInt8) (w : World) (hr : Rd w v l) :
   Calls Tryz.prog 171 #[v] w fun e w' => e = .returned (.tuple #[.int .i64 ((dec62 l).1 : Nat), .int .i64 ((dec62 l).2 : Nat)]) ∧ w' = w := by
 have HC := hide (groups_any v l w hr)
 have H : Hid (dec62 l = if (dec64 l).1 < 4611686018427387904 then dec64 l else (0, 0)) := rfl
 generalize dec64 l = d at *
 obtain ⟨u, k⟩ := d
 obtain ⟨U, hU⟩ : ∃ U : Int, U = (u : Int) := ⟨_, rfl⟩
 simp only at HC H
 rw [<- hU] at HC
 have hU0 : 0 <= U := by omega
 have HU := hide hU
 clear hU
 by_cases hu : U < 4611686018427387904
 · go_enter Tryz.func171, Tryz.ntmps171
   go_wp2_with fail
   refine HC.out.mono ?_
   rintro e w' ⟨rfl, rfl⟩
   go_wp2
   go_ret2
   have e := H.out
   have eu := HU.out
   rw [if_pos (by omega)] at e
   rw [e]
   exact ⟨by rw [eu]; rfl, rfl⟩
 · go_enter Tryz.func171, Tryz.ntmps171
   go_wp2_with fail
   refine HC.out.mono ?_
   rintro e w' ⟨rfl, rfl⟩
   go_wp2
   go_ret2
   have e := H.out
   have eu := HU.out
   rw [if_neg (by omega)] at e
   rw [e]
   exact ⟨rfl, rfl⟩

set_option maxHeartbeats 400000 in
theorem getSigned_any (v : Value) (l : List UInt8) (w : World) (hr : Rd w v l) :
   Calls Tryz.prog 204 #[v] w fun e w' => e = .returned (.tuple #[.int .i64 (zag (dec64 l).1), .int .i64 ((dec64 l).2 : Nat)]) ∧ w' = w := by
 have HC := hide (groups_any v l w hr)
 have hlt := dec64_lt l
 have hle := dec64_le l
 generalize dec64 l = d at *
 obtain ⟨u, k⟩ := d
 simp only at HC hlt hle
 go_enter Tryz.func204, Tryz.ntmps204
 go_wp2_with fail
 refine HC.out.mono ?_
 rintro e w' ⟨rfl, rfl⟩
 go_wp2_with fail
 refine (zag_any u _ hlt).mono ?_
 rintro e w1 ⟨rfl, rfl⟩
 go_wp2
 go_ret2
 exact ⟨rfl, rfl⟩

theorem leBytes_snoc : ∀ (k v : Nat), Lib.leBytes (k + 1) v = Lib.leBytes k v ++ [(v / 256 ^ k % 256).toUInt8]
 | 0, v => by simp [Lib.leBytes]
 | k + 1, v => by
   have ih := leBytes_snoc k (v / 256)
   have e : v / 256 / 256 ^ k = v / 256 ^ (k + 1) := by rw [Nat.div_div_eq_div_mul, Nat.pow_succ, Nat.mul_comm]
   rw [Lib.leBytes, ih, e]
   simp [Lib.leBytes]

def leRow (c k v : Nat) : List UInt8 := Lib.leBytes k v ++ List.replicate (c - k) 0

theorem leRow_length (c k v : Nat) (h : k <= c) : (leRow c k v).length = c := by
 simp [leRow, Lib.leBytes_length]
 omega

theorem leRow_set (c k v : Nat) (h : k < c) : (Lib.byteCells (leRow c k v)).set k (.int .u8 ((v / 256 ^ k % 256 : Nat) : Int)) = Lib.byteCells (leRow c (k + 1) v) := by
 have e : c - k = (c - (k + 1)) + 1 := by omega
 unfold leRow
 rw [leBytes_snoc, e, List.replicate_succ]
 have hl : (Lib.byteCells (Lib.leBytes k v)).length = k := by rw [byteCells_length, Lib.leBytes_length]
 have h8 : ((v / 256 ^ k % 256).toUInt8).toNat = v / 256 ^ k % 256 := Lib.toUInt8_toNat (Nat.mod_lt _ (by decide))
 simp only [Lib.byteCells, List.map_append, List.map_cons, List.map_nil, h8] at hl ⊢
 rw [List.set_append_right _ _ (by omega), hl]
 simp

theorem pow8 (k : Nat) : 2 ^ (8 * k) = 256 ^ k := by rw [Nat.pow_mul]

theorem low_plain (v k : Nat) : ((v : Int) / 2 ^ (8 * k)) % 256 = ((v / 256 ^ k % 256 : Nat) : Int) := by
 rw [<- pow8]
 simp

set_option maxHeartbeats 400000 in
theorem lowest_any (v c : Nat) (w : World) (hc : c <= 8) :
   Calls Tryz.prog 189 #[.int .u64 (v : Int), .int .i64 (c : Int)] w fun e w' => ∃ v', e = .returned v' ∧ Own w' w.heap.size v' (Lib.leBytes c v) ∧ Below w.heap.size w w' := by
 obtain ⟨i0, hi, hz0, hz1, hz2⟩ := info_parts info8
 go_enter Tryz.func189, Tryz.ntmps189
 go_wp2_with (at_make; refine wpList_make_full _ rfl _ _ 53 rfl w.heap.size 5 i0 (.int .u8 0) 1 Tryz.underlying53 hi hz0 hz1 _ _ _ _ c rfl rfl rfl rfl (by rw [hz2]; omega) (by unfold maxLen; omega) (Nat.le_refl _) ?_)
 intro w1 hown hgrow
 have hb1 : Below w.heap.size w w1 := (Below.refl _ _).grown hgrow (Nat.le_refl _) (fun k hk => by cases hk)
 have hown1 : w1.ownsRow w.heap.size 5 1 (.slice (some ⟨w.heap.size, 0, none⟩) c c) c (Lib.byteCells (leRow c 0 v)) := by
   have e : (madeCells #[Value.int .u8 0] c).toList = Lib.byteCells (leRow c 0 v) := by
     rw [toList_madeCells_one]
     simp [leRow, Lib.leBytes, Lib.byteCells]
   rw [<- e]
   exact hown
 have HO := hide hown1
 have HB := hide hb1
 clear hown hown1 hb1 hgrow
 go_wp2
 go_loopw [11] (fun i wr => ∃ k : Nat, k <= c ∧ i = .int .i64 (k : Int) ∧ Hid (wr.ownsRow w.heap.size 5 1 (.slice (some ⟨w.heap.size, 0, none⟩) c c) c (Lib.byteCells (leRow c k v))) ∧ Hid (Below w.heap.size w wr)) (fun i _ => c - (intOf i).toNat)
 case atStart => exact ⟨0, Nat.zero_le _, rfl, HO, HB⟩
 case round =>
   obtain ⟨k, hk, rfl, ho, hb⟩ := hrel
   by_cases hlt : k < c
   · have hcell : wr.cell? ⟨w.heap.size, k, none⟩ = some (.int .u8 ((leRow c k v).getD k 0).toNat) := by
       rw [World.ownsRow.cellAt ho.out k (by omega), byteCells_get _ _ (by rw [leRow_length c k v hk]; exact hlt)]
     have hfr : wr.frozen? ⟨w.heap.size, k, none⟩ = false := World.ownsRow.frozenAt ho.out k
     go_wp2
     go_roundw
     case rel =>
       have hs := World.ownsRow.stored ho.out k (Value.int .u8 ((v / 256 ^ k % 256 : Nat) : Int))
       rw [leRow_set c k v hlt] at hs
       rw [low_plain]
       exact ⟨k + 1, by omega, by go_num, hs.1, hb.out.setCell (Nat.le_refl _) _⟩
     case measure => simp [intOf]; omega
   · go_wp2
     go_ret
     have e : k = c := by omega
     refine ⟨_, rfl, Own.mk' (l := Lib.leBytes c v) ho.out (by rw [Lib.leBytes_length]) ?_, hb.out⟩
     rw [e]
     simp [leRow]

theorem fixed32_any (v : Nat) (w : World) (h : v < 4294967296) :
   Calls Tryz.prog 139 #[.int .u32 (v : Int)] w fun e w' => ∃ v', e = .returned v' ∧ Own w' w.heap.size v' (Lib.leBytes 4 v) ∧ Below w.heap.size w w' := by
 have HC : Hid (Calls Tryz.prog 189 #[.int .u64 (v : Int), .int .i64 4] w fun e w' => ∃ v', e = .returned v' ∧ Own w' w.heap.size v' (Lib.leBytes 4 v) ∧ Below w.heap.size w w') := lowest_any v 4 w (by omega)
 obtain ⟨U, hU⟩ : ∃ U : Int, U = (v : Int) := ⟨_, rfl⟩
 have h0 : 0 <= U := by omega
 have h1 : U < 4294967296 := by omega
 rw [<- hU] at HC ⊢
 clear hU h
 go_enter Tryz.func139, Tryz.ntmps139
 go_wp2_with fail
 refine HC.out.mono ?_
 rintro e w' ⟨v', rfl, ho, hb⟩
 have HO := hide ho
 have HB := hide hb
 clear ho hb HC
 go_wp2
 go_ret
 exact ⟨v', rfl, HO.out, HB.out⟩

theorem leNat_lt : ∀ l : List UInt8, Lib.leNat l < 256 ^ l.length
 | [] => by simp [Lib.leNat]
 | c :: r => by
   have h := leNat_lt r
   have hc := c.toNat_lt
   simp only [Lib.leNat, List.length_cons, Nat.pow_succ]
   omega

theorem leNat_snoc : ∀ (l : List UInt8) (c : UInt8), Lib.leNat (l ++ [c]) = Lib.leNat l + c.toNat * 256 ^ l.length
 | [], c => by simp [Lib.leNat]
 | d :: r, c => by
   have h := leNat_snoc r c
   simp only [List.cons_append, Lib.leNat, List.length_cons, Nat.pow_succ, h]
   rw [Nat.mul_add, <- Nat.mul_assoc, Nat.mul_comm 256 c.toNat, Nat.mul_assoc, Nat.mul_comm 256 (256 ^ r.length)]
   omega

theorem leNat_take (l : List UInt8) (k : Nat) (h : k < l.length) : Lib.leNat (l.take (k + 1)) = Lib.leNat (l.take k) + (l.getD k 0).toNat * 256 ^ k := by
 rw [take_snoc l k h, leNat_snoc, List.length_take, Nat.min_eq_left (by omega)]

theorem leNat_take_lt (l : List UInt8) (k : Nat) (h : k <= l.length) : Lib.leNat (l.take k) < 256 ^ k := by
 have := leNat_lt (l.take k)
 rwa [List.length_take, Nat.min_eq_left h] at this

theorem or_step8 (l : List UInt8) (k : Nat) (hk : k < l.length) (h8 : k < 8) :
   bits .or .u64 ((Lib.leNat (l.take k) : Nat) : Int) (IntKind.u64.wrap (((l.getD k 0).toNat : Int) * 2 ^ (8 * k))) = ((Lib.leNat (l.take (k + 1)) : Nat) : Int) := by
 have hv := leNat_take_lt l k (by omega)
 rw [leNat_take l k hk, <- pow8]
 rw [<- pow8] at hv
 refine or_low (8 * k) _ _ (by omega) hv ?_
 have hp : 2 ^ (8 * k) <= 2 ^ 56 := Nat.pow_le_pow_right (by decide) (by omega)
 have hb := (l.getD k 0).toNat_lt
 have hm : (l.getD k 0).toNat <= 255 := by omega
 have := Nat.mul_le_mul hm hp
 have e56 : 255 * 2 ^ 56 < 18446744073709551616 := by decide
 omega

set_option maxHeartbeats 400000 in
theorem fixed_any (v : Value) (l : List UInt8) (w : World) (hr : Rd w v l) :
   Calls Tryz.prog 164 #[v] w fun e w' => e = .returned (.int .u64 (Lib.leNat (l.take 8) : Nat)) ∧ w' = w := by
 obtain ⟨ao, cap, rfl, hlc, hcm, hn0, hao⟩ := hr
 clear hn0
 have hml : (l.length : Int) <= 9223372036854775807 := by unfold maxLen at hcm; omega
 by_cases h10 : (l.length : Int) <= 8
 all_goals
   go_enter Tryz.func164, Tryz.ntmps164
   go_wp2
   go_loop [3, 8] (fun n i => ∃ k : Nat, i = .int .i64 k ∧ k <= 8 ∧ k <= l.length ∧ n = .int .u64 (Lib.leNat (l.take k) : Nat)) (fun _ i => 8 - (intOf i).toNat)
   case atStart => exact ⟨0, rfl, by omega, by omega, rfl⟩
   case round =>
     obtain ⟨k, rfl, hk10, hkl, rfl⟩ := hrel
     by_cases hlt : k < 8 ∧ k < l.length
     · obtain ⟨hlt, hlt'⟩ := hlt
       rcases hao with hao | ⟨b, off, rfl, hc⟩
       · subst hao; simp at hlt'
       · have hck := hc k hlt'
         have HS := hide (or_step8 l k hlt' hlt)
         have hy : (l.getD k 0).toNat < 256 := UInt8.toNat_lt _
         clear hc
         generalize (l.getD k 0).toNat = y at *
         generalize Lib.leNat (l.take k) = z at *
         go_wp2
         go_round
         case rel => exact ⟨k + 1, by go_num, by omega, by omega, by rw [HS.out]⟩
         case measure => simp [intOf]; omega
     · go_wp2
       go_ret
       refine ⟨ret_int ?_, rfl⟩
       by_cases e : k = 8
       · rw [e]
       · rw [List.take_of_length_le (by omega : l.length <= k), List.take_of_length_le (by omega : l.length <= 8)]

def bs (l : List UInt8) : ByteArray := ⟨l.toArray⟩

theorem bs_list (l : List UInt8) : (bs l).toList = l := ByteArray.toList_mk l

theorem bs_eq (a b : List UInt8) : ((bs a).toList == (bs b).toList) = (a == b) := by rw [bs_list, bs_list]

theorem Rd.str {w : World} {v : Value} {l : List UInt8} (h : Rd w v l) : (convert 53 9 v).run Tryz.prog w = .ok (.string (bs l)) w := by
 obtain ⟨ao, cap, rfl, _, _, hn, h⟩ := h
 cases ao with
 | none =>
   have hl : l = [] := List.eq_nil_of_length_eq_zero (by have := hn rfl; omega)
   subst hl
   exact run_convert_bytes_nil w 53 5 Tryz.underlying53 Tryz.underlying5 0 cap 9 Tryz.underlying9
 | some a =>
   have hl : (loadCells a l.length).run Tryz.prog w = .ok ((l.map fun c => (c.toNat : Int)).map (Value.int .u8)).toArray w := by
     have := run_loadCells_list (P := Tryz.prog) w a (Lib.byteCells l) (Rd.cells h a rfl)
     rw [byteCells_length] at this
     rw [this]
     simp [Lib.byteCells, Function.comp_def]
   rw [run_convert_bytes_string w 53 9 5 _ l.length cap Tryz.underlying53 Tryz.underlying5 Tryz.underlying9, run_bytesToString w _ l.length cap _ hl, foldl_push_bytes]
   have e : (List.map (fun n : Int => UInt8.ofNat n.toNat) (List.map (fun c : UInt8 => (c.toNat : Int)) l)) = l := by
     rw [List.map_map]
     conv => rhs; rw [<- List.map_id l]
     apply List.map_congr_left
     intro c _
     simp
   rw [e]
   simp [bs, ByteArray.empty, ByteArray.emptyWithCapacity]
   rfl

theorem append_rd {F : Nat -> Prop} {p : Nat} {d : Dk} {N T : Nat} (n : Int) (hn : I64 n) (vb : Value) (b : List UInt8) (w : World) (h : Dsk F w p d N T) (hr : Rd w vb b) (hv : b = [] ∨ ∀ k, vb.ownBlock = some k -> ¬ F k) (hN : N <= 1000000) (hT : T <= 1000000000) (hbl : b.length <= 1000000000) :
   Calls Tryz.prog 29 #[ptr p, .int .i64 n, vb] w fun e w' => DidF F w p (appendD d n b).1 (appendD d n b).2 (N + 2) (T + b.length) e w' :=
 append_any n hn vb b w h hr hv hN hT hbl

def DskB (B : Nat) (w : World) (p : Nat) (d : Dk) (N T : Nat) : Prop := ∃ F, Dsk F w p d N T ∧ ∀ k, F k -> B <= k

theorem DskB.below {B : Nat} {w w' : World} {p : Nat} {d : Dk} {N T : Nat} (h : DskB B w p d N T) (hb : Below w.heap.size w w') : DskB B w' p d N T := by
 obtain ⟨F, h1, h2⟩ := h
 exact ⟨F, h1.below hb, h2⟩

theorem DskB.mono {B : Nat} {w : World} {p : Nat} {d : Dk} {N T N' T' : Nat} (h : DskB B w p d N T) (hN : N <= N') (hT : T <= T') : DskB B w p d N' T' := by
 obtain ⟨F, h1, h2⟩ := h
 exact ⟨F, h1.mono hN hT, h2⟩

def DidB (B : Nat) (w : World) (p : Nat) (d : Dk) (code : Int) (N T : Nat) (e : Ending) (w' : World) : Prop :=
 e = .returned (.int .i64 code) ∧ DskB B w' p d N T ∧ Below B w w'

theorem DidF.toB {F : Nat -> Prop} {B : Nat} {w : World} {p : Nat} {d : Dk} {code : Int} {N T : Nat} {e : Ending} {w' : World} (h : DidF F w p d code N T e w') (hB : B <= w.heap.size) (hF : ∀ k, F k -> B <= k) : DidB B w p d code N T e w' := by
 obtain ⟨he, F', h1, h2, h3⟩ := h
 exact ⟨he, ⟨F', h1, fun k hk => by rcases h3 k hk with h | h; exact hF k h; omega⟩, h2.below hB hF⟩

def Out (B : Nat) (v : Value) : Prop := ∀ k, v.ownBlock = some k -> k < B

theorem newB_any (B : Nat) (room : Int) (hr : I64 room) (w : World) (hB : B <= w.heap.size) :
   Calls Tryz.prog 11 #[.int .i64 room] w fun e w' => ∃ p, e = .returned (ptr p) ∧ DskB B w' p (newD room) 0 0 ∧ Below B w w' := by
 refine (new_any room hr w).mono ?_
 rintro e w' ⟨p, he, hd, hb⟩
 exact ⟨p, he, ⟨_, hd, fun k hk => by omega⟩, hb.mono hB⟩

theorem appendB_any {B p : Nat} {d : Dk} {N T : Nat} (n : Int) (hn : I64 n) (vb : Value) (b : List UInt8) (w : World) (h : DskB B w p d N T) (hB : B <= w.heap.size) (hr : Rd w vb b) (hv : ∀ F, Dsk F w p d N T -> (∀ k, F k -> B <= k) -> ∀ k, vb.ownBlock = some k -> ¬ F k) (hN : N <= 1000000) (hT : T <= 1000000000) (hbl : b.length <= 1000000000) :
   Calls Tryz.prog 29 #[ptr p, .int .i64 n, vb] w fun e w' => DidB B w p (appendD d n b).1 (appendD d n b).2 (N + 2) (T + b.length) e w' := by
 obtain ⟨F, h1, h2⟩ := h
 exact (append_any n hn vb b w h1 hr (.inr (hv F h1 h2)) hN hT hbl).mono fun e w' hd => hd.toB hB h2

theorem appendB_out {B p : Nat} {d : Dk} {N T : Nat} (n : Int) (hn : I64 n) (vb : Value) (b : List UInt8) (w : World) (h : DskB B w p d N T) (hB : B <= w.heap.size) (hr : Rd w vb b) (hv : Out B vb) (hN : N <= 1000000) (hT : T <= 1000000000) (hbl : b.length <= 1000000000) :
   Calls Tryz.prog 29 #[ptr p, .int .i64 n, vb] w fun e w' => DidB B w p (appendD d n b).1 (appendD d n b).2 (N + 2) (T + b.length) e w' :=
 appendB_any n hn vb b w h hB hr (fun F _ hF k hk hf => by have := hF k hf; have := hv k hk; omega) hN hT hbl

theorem Dsk.ltF {F : Nat -> Prop} {w : World} {p : Nat} {d : Dk} {N T : Nat} (h : Dsk F w p d N T) : ∀ k, F k -> k < w.heap.size := by
 obtain ⟨L, h1, _⟩ := h
 exact h1.lt

theorem crashB_new {B p : Nat} {d : Dk} {N T : Nat} (names : Int) (vk : Value) (keep : List Int) (w0 w : World) (h : DskB B w0 p d N T) (hb : Below w0.heap.size w0 w) (hB : B <= w0.heap.size) (hN : N <= 1000000) (hT : T <= 1000000000) (hr : RdI w vk keep) (hv : ∀ k, vk.ownBlock = some k -> w0.heap.size <= k) (hkl : keep.length <= 1000000000) :
   Calls Tryz.prog 14 #[ptr p, .int .i64 names, vk] w fun e w' => e = .returned (.tuple #[]) ∧ DskB B w' p (crashD d names keep) N T ∧ Below B w w' := by
 obtain ⟨F, h1, h2⟩ := h
 exact (crash_any names vk keep w (h1.below hb) hN hT hr (.inr fun k hk hf => by have := h1.ltF k hf; have := hv k hk; omega) hkl).mono fun e w' ⟨he, hd, ho⟩ => ⟨he, ⟨F, hd, h2⟩, ho.below (Nat.le_trans hB hb.size) h2⟩

theorem newOut (b : Nat) (n c : Nat) : ∀ k, (Value.slice (some ⟨b, 0, none⟩) n c).ownBlock = some k -> b <= k := by
 intro k hk
 have : b = k := by simpa [Value.ownBlock] using hk
 omega

theorem cutB_any {B p : Nat} {d : Dk} {N T : Nat} (n : Int) (hn : I64 n) (w : World) (h : DskB B w p d N T) (hB : B <= w.heap.size) :
   Calls Tryz.prog 31 #[ptr p, .int .i64 n] w fun e w' => e = .returned (.tuple #[]) ∧ DskB B w' p (cutD d n) N T ∧ Below B w w' := by
 obtain ⟨F, h1, h2⟩ := h
 exact (cutF_any n hn w h1).mono fun e w' ⟨he, hd, ho⟩ => ⟨he, ⟨F, hd, h2⟩, ho.below hB h2⟩

theorem namesB_any {B p : Nat} {d : Dk} {N T : Nat} (w : World) (h : DskB B w p d N T) (hN : N <= 1000000) :
   Calls Tryz.prog 33 #[ptr p] w fun e w' => ∃ v, e = .returned v ∧ OwnI w' w.heap.size v ((dirD d).map Prod.fst) ∧ Below w.heap.size w w' := by
 obtain ⟨F, ⟨L, h1, h3, _⟩, h2⟩ := h
 exact names_any w h1 h3 hN

theorem DskB.ok {B : Nat} {w : World} {p : Nat} {d : Dk} {N T : Nat} (h : DskB B w p d N T) : OkD d ∧ Bnd d N T := by
 obtain ⟨F, ⟨L, h1, h3, h4, _⟩, h2⟩ := h
 exact ⟨h3, h4⟩

theorem allocB (w : World) (o : Obj) : Below w.heap.size w (w.alloc o) := (Below.refl _ w).alloc (Nat.le_refl _) o

theorem appendB_rd {B p : Nat} {d : Dk} {N T : Nat} (n : Int) (hn : I64 n) (vb : Value) (b : List UInt8) (w : World) (h : DskB B w p d N T) (hB : B <= w.heap.size) (hr : Rd w vb b) (hv : b = [] ∨ ∀ k, vb.ownBlock = some k -> k < B) (hN : N <= 1000000) (hT : T <= 1000000000) (hbl : b.length <= 1000000000) :
   Calls Tryz.prog 29 #[ptr p, .int .i64 n, vb] w fun e w' => DidB B w p (appendD d n b).1 (appendD d n b).2 (N + 2) (T + b.length) e w' := by
 obtain ⟨F, h1, h2⟩ := h
 exact (append_rd n hn vb b w h1 hr (by
   rcases hv with hv | hv
   · exact .inl hv
   · exact .inr fun k hk hf => by have := h2 k hf; have := hv k hk; omega) hN hT hbl).mono fun e w' hd => hd.toB hB h2

theorem Rd.mid {w : World} {ao : Option Addr} {n cap : Nat} {l : List UInt8} (h : Rd w (.slice ao n cap) l) (i j m : Nat) (hij : i <= j) (hj : j <= l.length) (hm : j <= m) (hmc : m <= cap) : Rd w (sliced ao i j m 1) ((l.drop i).take (j - i)) := by
 obtain ⟨ao', cap', hv, h1, h2, h3, h4⟩ := h
 simp only [Value.slice.injEq] at hv
 obtain ⟨rfl, rfl, rfl⟩ := hv
 have hlen : ((l.drop i).take (j - i)).length = j - i := by simp; omega
 unfold sliced
 by_cases hmi : m = i
 · rw [if_pos hmi]
   have e : j - i = 0 := by omega
   refine ⟨ao, m - i, by rw [hlen], by omega, by omega, fun hn => by have := h3 hn; omega, .inl ?_⟩
   rw [e]
   simp
 · rw [if_neg hmi]
   refine ⟨ao.map (·.add (i * 1)), m - i, by rw [hlen], by omega, by omega, fun hn => ?_, ?_⟩
   · have hn' : ao = none := by simpa using hn
     have := h3 hn'
     omega
   · rcases h4 with h4 | ⟨b, off, h5, h6⟩
     · exact .inl (by rw [h4]; simp)
     · refine .inr ⟨b, off + i, ?_, fun k hk => ?_⟩
       · rw [h5, Nat.mul_one, Option.map_some, Addr.add_lit]
       · rw [hlen] at hk
         rw [Nat.add_assoc, h6 (i + k) (by omega)]
         simp [List.getD, hk]

theorem elem_bytes : Tryz.prog.elem 53 = 5 := by kernel_rfl

theorem size_u8 (w : World) : (sizeOf 5).run Tryz.prog w = .ok 1 w := by
 obtain ⟨i0, hi, _, hz1, _⟩ := info_parts info8
 simp [sizeOf, typeInfo, hi, hz1]

theorem under_bytes : Tryz.prog.underlying 53 = some (.slice (Tryz.prog.elem 53)) := by rw [elem_bytes]; exact Tryz.underlying53

theorem run_cut_l (w : World) (v : Value) (l : List UInt8) (hr : Rd w v l) (k : IntKind) (i : Int) (h0 : 0 <= i) (h2 : i <= l.length) :
   ∃ v', (Instr.sliceAt 53 v (some (.int k i)) none none).run Tryz.prog w = .ok v' w ∧ Rd w v' (l.drop i.toNat) := by
 have h := hr
 obtain ⟨ao, cap, rfl, hlc, _⟩ := hr
 refine ⟨sliced ao i.toNat l.length cap 1, ?_, ?_⟩
 · rw [run_sliceAt_slice w 53 _ _ _ _ under_bytes, run_slice_l w 53 ao l.length cap under_bytes k i h0 (by omega), elem_bytes, size_u8]
   rfl
 · have := h.mid i.toNat l.length cap (by omega) (Nat.le_refl _) hlc (Nat.le_refl _)
   rw [List.take_of_length_le (by simp)] at this
   exact this

theorem wpList_cut (w : World) {ops : Array Oper} {rest : List Oper} {o : Oper} {a : Act} {Q : Exit -> Act -> World -> Prop} (hgd : o.guard = none) (x : Operand) (lo hi mx : Option Operand)
   (ho : o.op = .slice 53 x lo hi mx) (l : List UInt8)
   (hrun : ∃ v', (Instr.sliceAt 53 (a.eval x) (lo.map a.eval) (hi.map a.eval) (mx.map a.eval)).run Tryz.prog w = .ok v' w ∧ Rd w v' l)
   (h : ∀ v', Rd w v' l -> wpList Tryz.prog ops Q rest (a.put o.dst v') w) : wpList Tryz.prog ops Q (o :: rest) a w :=
 wpList_plain hgd fun _ hK => by
   obtain ⟨v', hrun, hr⟩ := hrun
   unfold Oper.wp execOp
   simp only [ho, hrun, Sem.run_bind, Sem.run_pure, Result.andThen_ok]
   exact hK _ _ (h v' hr)

def entV (e : Ent) : Value := .agg #[.int .i64 e.proc, .int .i64 e.seq, .int .i64 e.resp]

def entC (e : Ent) : Array Value := #[.int .i64 e.proc, .int .i64 e.seq, .int .i64 e.resp]

def EntI (e : Ent) : Prop := I64 e.proc ∧ I64 e.seq ∧ I64 e.resp

def Be (w : World) (b : Nat) (cs : Array Value) : Prop := w.heap[b]? = some (.cells cs 88 (0, 0))

theorem Be.lt {w : World} {b : Nat} {cs : Array Value} (h : Be w b cs) : b < w.heap.size := (Array.getElem?_eq_some_iff.1 h).1

theorem Be.below {w w' : World} {b B : Nat} {cs : Array Value} (h : Be w b cs) (hb : Below B w w') (hB : w.heap.size <= B) : Be w' b cs := (hb.block b (by have := h.lt; omega)).trans h

theorem Be.cell {w : World} {b : Nat} {cs : Array Value} (h : Be w b cs) (j : Nat) : w.cell? ⟨b, j, none⟩ = cs[j]? ∧ w.frozen? ⟨b, j, none⟩ = false := ⟨cell_of_row w b j _ _ _ h, frozen_of_row w b j _ _ h⟩

def EntAt (w : World) (b o : Nat) (e : Ent) : Prop :=
 w.cell? ⟨b, o, none⟩ = some (.int .i64 e.proc) ∧ w.cell? ⟨b, o + 1, none⟩ = some (.int .i64 e.seq) ∧ w.cell? ⟨b, o + 2, none⟩ = some (.int .i64 e.resp)

theorem EntAt.lt {w : World} {b o : Nat} {e : Ent} (h : EntAt w b o e) : b < w.heap.size := World.block_lt_of_cell? w ⟨b, o, none⟩ h.1

theorem EntAt.keep {w w' : World} {b o : Nat} {e : Ent} (h : EntAt w b o e) (hk : w'.heap[b]? = w.heap[b]?) : EntAt w' b o e := by
 have hc : ∀ i, w'.cell? ⟨b, i, none⟩ = w.cell? ⟨b, i, none⟩ := fun i => World.cell?_of_block (a := ⟨b, i, none⟩) hk
 unfold EntAt at h ⊢
 simp only [hc]
 exact h

def RdE (w : World) (v : Value) (l : List Ent) : Prop :=
 ∃ ao cap, v = .slice ao l.length cap ∧ l.length <= cap ∧ cap <= maxLen ∧ (ao = none -> cap = 0) ∧ (∀ e ∈ l, EntI e) ∧
   (l = [] ∨ ∃ b off, ao = some ⟨b, off, none⟩ ∧ ∀ j, j < l.length -> EntAt w b (off + j * 3) (l.getD j zeroE))

theorem RdE.nil (w : World) : RdE w (.slice none 0 0) [] := ⟨none, 0, rfl, Nat.le_refl _, Nat.zero_le _, fun _ => rfl, (fun r h => by simp at h), .inl rfl⟩

theorem RdE.below {w w' : World} {v : Value} {l : List Ent} (h : RdE w v l) {B : Nat} (hb : Below B w w') (hB : w.heap.size <= B) : RdE w' v l := by
 obtain ⟨ao, cap, h1, h2, h3, hn, hw, h4⟩ := h
 refine ⟨ao, cap, h1, h2, h3, hn, hw, ?_⟩
 rcases h4 with h4 | ⟨b, off, h5, h6⟩
 · exact .inl h4
 · refine .inr ⟨b, off, h5, fun j hj => ?_⟩
   have h7 := h6 j hj
   exact h7.keep (hb.block b (by have := h7.lt; omega))

def entCells : List Ent -> List Value
 | [] => []
 | r :: t => (entC r).toList ++ entCells t

theorem entCells_length : ∀ l : List Ent, (entCells l).length = l.length * 3
 | [] => rfl
 | r :: t => by
   rw [entCells, List.length_append, entCells_length t, List.length_cons]
   simp [entC]
   omega

theorem entCells_app : ∀ a b : List Ent, entCells (a ++ b) = entCells a ++ entCells b
 | [], _ => rfl
 | r :: t, b => by rw [List.cons_append, entCells, entCells_app t b, entCells, List.append_assoc]

theorem entCells_get : ∀ (l : List Ent) (j k : Nat), j < l.length -> k < 3 -> (entCells l)[j * 3 + k]? = (entC (l.getD j zeroE))[k]?
 | r :: t, 0, k, _, hk => by
   rw [entCells, Nat.zero_mul, Nat.zero_add, List.getElem?_append_left (by simp [entC]; omega)]
   simp [List.getD]
 | r :: t, j + 1, k, hj, hk => by
   have e : (j + 1) * 3 + k = (entC r).toList.length + (j * 3 + k) := by simp [entC]; omega
   rw [entCells, e, List.getElem?_append_right (by omega), Nat.add_sub_cancel_left, entCells_get t j k (by simpa using hj) hk]
   simp [List.getD]

theorem entCells_one (l : List Ent) : ∀ u ∈ entCells l, u.oneCell' = true := by
 induction l with
 | nil => intro u hu; simp [entCells] at hu
 | cons r t ih =>
   intro u hu
   rw [entCells] at hu
   rcases List.mem_append.1 hu with h | h
   · simp [entC] at h
     rcases h with rfl | rfl | rfl <;> rfl
   · exact ih u h

def OwnE (w : World) (B : Nat) (v : Value) (l : List Ent) : Prop := w.ownsRow B 88 3 v l.length (entCells l)

theorem OwnE.nil (w : World) (B : Nat) : OwnE w B (.slice none 0 0) [] := World.ownsRow_nil w B 88 3

theorem OwnE.rd {w : World} {B : Nat} {v : Value} {l : List Ent} (h : OwnE w B v l) (hw : ∀ r ∈ l, EntI r) : RdE w v l := by
 rcases h.2 with ⟨hv, hn⟩ | ⟨g, cap, cur, hv, hb, hg, hnc, hcm, hcs, htake⟩
 · exact ⟨none, 0, by rw [hv, hn], by omega, Nat.zero_le _, fun _ => rfl, hw, .inl (List.eq_nil_of_length_eq_zero hn)⟩
 · refine ⟨some ⟨g, 0, none⟩, cap, hv, hnc, hcm, (fun e => by cases e), hw, .inr ⟨g, 0, rfl, fun j hj => ?_⟩⟩
   have hc : ∀ k u, k < 3 -> (entC (l.getD j zeroE))[k]? = some u -> w.cell? ⟨g, 0 + j * 3 + k, none⟩ = some u := fun k u hk hu => by
     have := World.ownsRow.cells h (g := g) (by rw [hv]; rfl) (j * 3 + k) u ((entCells_get l j k hj hk).trans hu)
     rw [Addr.add_lit] at this
     rw [Nat.add_assoc]
     exact this
   exact ⟨hc 0 _ (by decide) rfl, hc 1 _ (by decide) rfl, hc 2 _ (by decide) rfl⟩

theorem OwnE.below {w w' : World} {B B' : Nat} {v : Value} {l : List Ent} (h : OwnE w B v l) (hb : Below B' w w') (hB : w.heap.size <= B') : OwnE w' B v l := by
 obtain ⟨h1, h2⟩ := h
 refine ⟨h1, ?_⟩
 rcases h2 with h2 | ⟨g, cap, cur, hv, hbg, hg, r⟩
 · exact .inl h2
 · have hlt : g < w.heap.size := (Array.getElem?_eq_some_iff.1 hg).1
   exact .inr ⟨g, cap, cur, hv, hbg, by rw [hb.block g (by omega)]; exact hg, r⟩

theorem OwnE.mono {w : World} {B B' : Nat} {v : Value} {l : List Ent} (h : OwnE w B v l) (hB : B' <= B) : OwnE w B' v l := by
 obtain ⟨h1, h2⟩ := h
 refine ⟨h1, ?_⟩
 rcases h2 with h2 | ⟨g, cap, cur, hv, hb, r⟩
 · exact .inl h2
 · exact .inr ⟨g, cap, cur, hv, by omega, r⟩

theorem OwnE.shape {w : World} {B : Nat} {v : Value} {l : List Ent} (h : OwnE w B v l) : ∃ ao cap, v = .slice ao l.length cap := by
 rcases h.2 with ⟨hv, hn⟩ | ⟨g, cap, cur, hv, _⟩
 · exact ⟨none, 0, by rw [hv, hn]⟩
 · exact ⟨_, _, hv⟩

theorem RdE.shape {w : World} {v : Value} {l : List Ent} (h : RdE w v l) : ∃ ao cap, v = .slice ao l.length cap := by
 obtain ⟨ao, cap, hv, _⟩ := h
 exact ⟨ao, cap, hv⟩

theorem info_ent : (Tryz.prog.info? 88).map (fun i => (i.zero, i.size, i.bytes)) = some (some (.agg #[.int .i64 0, .int .i64 0, .int .i64 0]), 3, 24) := by kernel_rfl

theorem run_append_ent (w : World) (ty : TypeId) (B : Nat) (v : Value) (l : List Ent) (h : OwnE w B v l) (r : Ent) (hlim : l.length <= 1000000) (hbase : B <= w.heap.size) :
   ∃ v' w', (Builtin.append_ #[39, 39] ty #[v, .slice (some ⟨w.heap.size, 0, none⟩) 1 1]).run Tryz.prog (w.alloc (.cells (entC r) 88)) = .ok v' w' ∧ OwnE w' B v' (l ++ [r]) ∧ Below B w w' := by
 obtain ⟨i0, hi, hz0, hz1, hz2⟩ := info_parts info_ent
 obtain ⟨v', w', hrun, ho, hg, _⟩ := run_append_own (P := Tryz.prog) (w.alloc (.cells (entC r) 88)) B 39 ty 88 i0 _ 3 24 Tryz.underlying39 hi hz0 hz1 hz2 rfl (by decide) v l.length (entCells l) (h.alloc _)
   ⟨w.heap.size, 0, none⟩ 1 1 (entCells [r]) (entCells_length [r]) (fun j u hj => by
     rw [Addr.add_lit, Nat.zero_add, cell_of_row _ w.heap.size j _ 88 (0, 0) (heap_alloc_new w _)]
     simpa [entCells] using hj) (entCells_one [r]) (by unfold maxLen; omega) (by omega) (by simp; omega)
 refine ⟨v', w', hrun, ?_, ?_⟩
 · unfold OwnE
   rw [List.length_append, entCells_app]
   exact ho
 · exact ((Below.refl _ _).alloc hbase _).grown hg (by simp; omega) (fun k hk => (World.ownsRow.lt h k hk).1)

theorem wpList_append_ent (w : World) {ops : Array Oper} {rest : List Oper} {o : Oper} {a : Act} {Q : Exit -> Act -> World -> Prop} (hgd : o.guard = none) (s x : Operand)
   (ho : o.op = .call { callee := .builtin .append, args := #[s, x], argTypes := #[39, 39] })
   (B : Nat) (v : Value) (l : List Ent) (hs : a.eval s = v) (hown : OwnE w B v l) (r : Ent) (hx : a.eval x = .slice (some ⟨w.heap.size, 0, none⟩) 1 1)
   (hlim : l.length <= 1000000) (hbase : B <= w.heap.size)
   (h : ∀ v' w', OwnE w' B v' (l ++ [r]) -> Below B w w' -> wpList Tryz.prog ops Q rest (a.put o.dst v') w') : wpList Tryz.prog ops Q (o :: rest) a (w.alloc (.cells (entC r) 88)) :=
 wpList_plain hgd fun _ hK => by
   obtain ⟨v', w', hrun, h2, h3⟩ := run_append_ent w o.type B v l hown r hlim hbase
   unfold Oper.wp execOp
   simp only [ho, resolve, invoke, builtin, Sem.run_bind, Sem.run_pure, Result.andThen_ok, List.map_toArray, List.map_cons, List.map_nil, hs, hx, hrun]
   exact hK _ _ (h v' w' h2 h3)

def SnV (w : World) (v : Value) (s : Snap) : Prop :=
 ∃ vl vt, v = .agg #[.int .i64 s.idx, .int .i64 s.st.kind, vl, .bool s.st.shut, .int .i64 s.st.eng, vt] ∧ RdI w vl s.st.L ∧ I64 s.st.kind ∧ I64 s.st.eng ∧ RdE w vt s.tab ∧ I64 s.idx

def firstG (p : Int) : List Ent -> Nat
 | [] => 0
 | x :: t => if p < x.proc then 0 else firstG p t + 1

theorem firstG_le (p : Int) : ∀ t, firstG p t <= t.length
 | [] => Nat.le_refl _
 | x :: t => by
   rw [firstG]
   split
   · exact Nat.zero_le _
   · have := firstG_le p t
     rw [List.length_cons]
     omega

def butP (p : Int) (t : List Ent) : List Ent := t.filter (fun x => decide (x.proc ≠ p))

theorem butP_len (p : Int) (t : List Ent) : (butP p t).length <= t.length := List.length_filter_le _ _

theorem noteL_ins (e : Ent) : ∀ t : List Ent, noteL t e = (butP e.proc t).take (firstG e.proc (butP e.proc t)) ++ (e :: (butP e.proc t).drop (firstG e.proc (butP e.proc t)))
 | [] => rfl
 | x :: t => by
   have ih := noteL_ins e t
   unfold noteL at ih ⊢
   unfold butP at ih ⊢
   have hf : (x :: t).filter (fun y => decide (y.proc ≠ e.proc)) = if x.proc = e.proc then t.filter (fun y => decide (y.proc ≠ e.proc)) else x :: t.filter (fun y => decide (y.proc ≠ e.proc)) := by
     rw [List.filter_cons]
     by_cases h : x.proc = e.proc <;> simp [h]
   rw [noteG, hf]
   by_cases h1 : x.proc = e.proc
   · have h2 : ¬ e.proc < x.proc := by omega
     simp only [h1, if_true]
     rw [if_neg (by simp), decide_eq_false (by omega), Bool.false_or, ih]
     rfl
   · simp only [if_neg h1]
     by_cases h2 : e.proc < x.proc
     · rw [if_pos (by simp [h2]), decide_eq_true h2, Bool.or_true, noteG_done, firstG, if_pos h2]
       rfl
     · rw [if_neg (fun h => h2 h.2), decide_eq_false h2, Bool.or_false, firstG, if_neg h2, ih]
       rfl

theorem firstG_all {p : Int} : ∀ {t : List Ent}, (∀ j, j < t.length -> ¬ p < (t.getD j zeroE).proc) -> firstG p t = t.length
 | [], _ => rfl
 | x :: t, h => by
   have h0 := h 0 (by simp)
   rw [show (x :: t).getD 0 zeroE = x from rfl] at h0
   rw [firstG, if_neg h0, firstG_all (fun j hj => h (j + 1) (by simpa using hj))]
   rfl

theorem firstG_at {p : Int} : ∀ {t : List Ent} {i : Nat}, i < t.length -> (∀ j, j < i -> ¬ p < (t.getD j zeroE).proc) -> p < (t.getD i zeroE).proc -> firstG p t = i
 | [], i, hi, _, _ => absurd hi (Nat.not_lt_zero _)
 | x :: t, 0, _, _, h => by
   rw [show (x :: t).getD 0 zeroE = x from rfl] at h
   rw [firstG, if_pos h]
 | x :: t, i + 1, hi, hb, h => by
   have h0 := hb 0 (by omega)
   rw [show (x :: t).getD 0 zeroE = x from rfl] at h0
   rw [firstG, if_neg h0, firstG_at (i := i) (by simpa using hi) (fun j hj => hb (j + 1) (by omega)) h]

theorem readE_few {n : Nat} {b : List UInt8} {r : List Ent × List UInt8} (h : readE n b = some r) : n <= b.length := by
 obtain ⟨t, x⟩ := r
 obtain ⟨h1, h2⟩ := readE_sound n b t x h
 have := entsL_len t
 rw [h2, List.length_append]
 omega

theorem tableL_plain {b : List UInt8} (h0 : (dec62 b).2 ≠ 0) : tableL b = (readE (dec62 b).1 (b.drop (dec62 b).2)).bind (fun r => if r.2 = [] then some r.1 else none) := by
 unfold tableL
 by_cases h1 : b.length < (dec62 b).1
 · rw [if_pos (.inr h1)]
   cases h : readE (dec62 b).1 (b.drop (dec62 b).2) with
   | none => rfl
   | some r =>
     have := readE_few h
     rw [List.length_drop] at this
     omega
 rw [if_neg (by omega)]
 cases readE (dec62 b).1 (b.drop (dec62 b).2) with
 | none => rfl
 | some p =>
   obtain ⟨t, x⟩ := p
   cases x <;> rfl

theorem pieces_drop {l : List UInt8} {a : Nat} (h : a < l.length) : pieces (l.drop a) = (l.drop a).take 64 :: pieces (l.drop (a + 64)) := by
 rw [pieces_cons (fun e => by
   have := congrArg List.length e
   rw [List.length_drop, List.length_nil] at this
   omega), List.drop_drop]

theorem cutOk_iff (P : List (List UInt8)) : CutOk P ↔ P = pieces P.flatten :=
 ⟨fun h => (cutOk_pieces P h).symm, fun h => by rw [h]; exact pieces_cutOk _ _ (Nat.le_refl _)⟩

theorem entOk_rec (e : Ent) : FitsR ⟨0, e.proc, e.seq, ⟨0, 0, 0⟩, e.resp⟩ ↔ EntOk e := by
 unfold FitsR EntOk FitsO
 simp only
 omega

def leastP (t : List Ent) : Nat -> Int
 | 0 => 0
 | k + 1 => (t.getD k zeroE).proc + 1

theorem tabTo_least {t : List Ent} {k : Nat} : TabTo t (k + 1) ↔ TabTo t k ∧ EntOk (t.getD k zeroE) ∧ leastP t k <= (t.getD k zeroE).proc := by
 rw [TabTo.next]
 constructor
 · rintro ⟨h1, h2, h3⟩
   refine ⟨h1, h2, ?_⟩
   cases k with
   | zero => exact h2.1
   | succ k =>
     have := h3 (by omega)
     rw [Nat.add_sub_cancel] at this
     rw [leastP]
     omega
 · rintro ⟨h1, h2, h3⟩
   refine ⟨h1, h2, fun h => ?_⟩
   cases k with
   | zero => omega
   | succ k =>
     rw [leastP] at h3
     rw [Nat.add_sub_cancel]
     omega

theorem mayN_zero (i : Int) (t : List Ent) : ¬ MayN ⟨i, zeroS, t⟩ := by
 rintro ⟨-, h, -⟩
 revert h
 show ¬ MayS zeroS
 decide

def getsL : Nat -> List UInt8 -> Option (List Nat × List UInt8)
 | 0, b => some ([], b)
 | n + 1, b => if (dec62 b).2 = 0 then none else (getsL n (b.drop (dec62 b).2)).map (fun r => ((dec62 b).1 :: r.1, r.2))

theorem run_copy_many {P : Program} (w : World) (dT sT ty elem : TypeId) (k : Nat) (b o dLen dCap : Nat) (a : Addr) (sLen sCap : Nat) (cs : List Value)
   (hu : P.underlying dT = some (.slice elem)) (hs : (P.info? elem).map (·.size) = some k) (hn : cs.length = Nat.min sLen dLen * k)
   (hsrc : ∀ j v, cs[j]? = some v -> w.cell? (a.add j) = some v) (hc : ∀ j, j < cs.length -> (w.cell? ⟨b, o + j, none⟩).isSome = true) (hf : ∀ j, j < cs.length -> w.frozen? ⟨b, o + j, none⟩ = false) (h1 : ∀ v ∈ cs, v.oneCell' = true) :
   (Builtin.copy_ #[dT, sT] ty #[.slice (some ⟨b, o, none⟩) dLen dCap, .slice (some a) sLen sCap]).run P w = .ok (goInt (Nat.min sLen dLen)) (w.setCells b o cs) := by
 have hl := run_loadCells_list (P := P) w a cs hsrc
 have hst := run_storeCells_cells (P := P) b o cs 0 w (by simpa using hc) (by simpa using hf) h1
 cases hq : P.info? elem with
 | none => simp [hq] at hs
 | some i =>
   have hi : i.size = k := by simpa [hq] using hs
   rw [hn] at hl
   simp [Builtin.copy_, run_underlying hu, Builtin.lenOf, Builtin.firstCells, sizeOf, typeInfo, hq, hi, hl, hst]

def zeros3 : Nat -> List Value
 | 0 => []
 | n + 1 => .int .i64 0 :: .int .i64 0 :: .int .i64 0 :: zeros3 n

theorem zeros3_length : ∀ n, (zeros3 n).length = n * 3
 | 0 => rfl
 | n + 1 => by rw [zeros3, List.length_cons, List.length_cons, List.length_cons, zeros3_length n]; omega

theorem zeros3_mem : ∀ n, ∀ v ∈ zeros3 n, v = .int .i64 0
 | 0, v, h => by simp [zeros3] at h
 | n + 1, v, h => by
   rw [zeros3, List.mem_cons, List.mem_cons, List.mem_cons] at h
   rcases h with h | h | h | h
   · exact h
   · exact h
   · exact h
   · exact zeros3_mem n v h

theorem zeroCells3 (n : Nat) : (Builtin.zeroCells (Value.agg #[.int .i64 0, .int .i64 0, .int .i64 0]).cells n).toList = zeros3 n := by
 have hsz : (Value.agg #[.int .i64 0, .int .i64 0, .int .i64 0]).cells = #[.int .i64 0, .int .i64 0, .int .i64 0] := by rfl
 rw [hsz]
 apply List.ext_getElem?
 intro i
 by_cases h : i < n * 3
 · have h2 : i < (zeros3 n).length := by rw [zeros3_length]; exact h
   have h3 : (zeros3 n)[i]? = some (.int .i64 0) := by
     rw [List.getElem?_eq_getElem h2, zeros3_mem n _ (List.getElem_mem h2)]
   rw [h3]
   have hm : i % 3 = 0 ∨ i % 3 = 1 ∨ i % 3 = 2 := by omega
   simp only [Builtin.zeroCells, Array.getElem?_toList, Array.getElem?_map]
   have h4 : (Array.range (n * (#[Value.int .i64 0, .int .i64 0, .int .i64 0] : Array Value).size))[i]? = some i := by simp [h]
   rw [h4]
   have h5 : (#[Value.int .i64 0, .int .i64 0, .int .i64 0] : Array Value).size = 3 := rfl
   rw [h5]
   rcases hm with e | e | e <;> rw [Option.map_some, e] <;> rfl
 · rw [List.getElem?_eq_none (by simp [Builtin.zeroCells]; omega), List.getElem?_eq_none (by rw [zeros3_length]; omega)]

theorem run_clear_three {P : Program} (w : World) (t e ty : TypeId) (ht : P.underlying t = some (.slice e)) (hv : ∀ w, (zeroValue e).run P w = .ok (.agg #[.int .i64 0, .int .i64 0, .int .i64 0]) w) (b o n c : Nat) (hn : 0 < n)
   (hc : ∀ j, j < n * 3 -> (w.cell? ⟨b, o + j, none⟩).isSome = true) (hf : ∀ j, j < n * 3 -> w.frozen? ⟨b, o + j, none⟩ = false) :
   (Builtin.clear_ #[t] ty #[.slice (some ⟨b, o, none⟩) n c]).run P w = .ok (.tuple #[]) (w.setCells b o (zeros3 n)) := by
 have hst := run_storeCells_cells (P := P) b o (zeros3 n) 0 w (by rw [zeros3_length]; simpa using hc) (by rw [zeros3_length]; simpa using hf) (by intro v hv'; rw [zeros3_mem n v hv']; rfl)
 simp only [Nat.add_zero] at hst
 obtain ⟨m, rfl⟩ : ∃ m, n = m + 1 := ⟨n - 1, by omega⟩
 simp [Builtin.clear_, run_underlying ht, hv, zeroCells3, hst]

open Go.RowKit Go.Shelf

def layM15_ren : Go.Shelf.Ren := ⟨fun | 15 => 43 | n => n, fun | 22 => 23 | 3 => 3 | 4 => 4 | n => n, fun | n => n⟩

theorem layM15 : Go.Proofs.Lays2.n15 Tryz.prog layM15_ren := {
 mixed := by kernel_rfl
 f15 := Tryz.func43.trans (congrArg some (by kernel_rfl))
 t3 := Tryz.underlying3
 a3 := Tryz.isAgg3
 z3 := Tryz.sizeOf3
 v3 := Tryz.zeroValue3
 t4 := Tryz.underlying4
 a4 := Tryz.isAgg4
 z4 := Tryz.sizeOf4
 v4 := Tryz.zeroValue4
 t22 := Tryz.underlying23
 a22 := Tryz.isAgg23
 z22 := Tryz.sizeOf23
 v22 := Tryz.zeroValue23
 i3 := by kernel_rfl }

def layM23_ren : Go.Shelf.Ren := ⟨fun | 23 => 213 | n => n, fun | 22 => 23 | 3 => 3 | 4 => 4 | 0 => 0 | n => n, fun | n => n⟩

theorem layM23 : Go.Proofs.Lays2.n23 Tryz.prog layM23_ren := {
 mixed := by kernel_rfl
 f23 := Tryz.func213.trans (congrArg some (by kernel_rfl))
 t0 := Tryz.underlying0
 a0 := Tryz.isAgg0
 z0 := Tryz.sizeOf0
 v0 := Tryz.zeroValue0
 t3 := Tryz.underlying3
 a3 := Tryz.isAgg3
 z3 := Tryz.sizeOf3
 v3 := Tryz.zeroValue3
 t4 := Tryz.underlying4
 a4 := Tryz.isAgg4
 z4 := Tryz.sizeOf4
 v4 := Tryz.zeroValue4
 t22 := Tryz.underlying23
 a22 := Tryz.isAgg23
 z22 := Tryz.sizeOf23
 v22 := Tryz.zeroValue23
 i3 := by kernel_rfl }

def layM21_ren : Go.Shelf.Ren := ⟨fun | 21 => 215 | 27 => 226 | 28 => 227 | 35 => 232 | 39 => 235 | n => n, fun | 22 => 23 | 3 => 3 | 4 => 4 | 0 => 0 | n => n, fun | n => n⟩

theorem layM21 : Go.Proofs.Lays2.n21 Tryz.prog layM21_ren := {
 mixed := by kernel_rfl
 f21 := Tryz.func215.trans (congrArg some (by kernel_rfl))
 f27 := Tryz.func226.trans (congrArg some (by kernel_rfl))
 f28 := Tryz.func227.trans (congrArg some (by kernel_rfl))
 f35 := Tryz.func232.trans (congrArg some (by kernel_rfl))
 f39 := Tryz.func235.trans (congrArg some (by kernel_rfl))
 t0 := Tryz.underlying0
 a0 := Tryz.isAgg0
 z0 := Tryz.sizeOf0
 v0 := Tryz.zeroValue0
 t3 := Tryz.underlying3
 a3 := Tryz.isAgg3
 z3 := Tryz.sizeOf3
 v3 := Tryz.zeroValue3
 t4 := Tryz.underlying4
 a4 := Tryz.isAgg4
 z4 := Tryz.sizeOf4
 v4 := Tryz.zeroValue4
 t22 := Tryz.underlying23
 a22 := Tryz.isAgg23
 z22 := Tryz.sizeOf23
 v22 := Tryz.zeroValue23
 i3 := by kernel_rfl }

end Go.Proofs.YtpopbandpnaicaaGreatDoor

