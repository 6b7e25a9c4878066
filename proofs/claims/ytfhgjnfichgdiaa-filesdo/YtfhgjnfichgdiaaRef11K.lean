/- Contracts of ferrymanref11: Crash. -/
import Derived.Test.YtfhgjnfichgdiaaRef11J
namespace Go.Proofs.Ytfhgjnfichgdiaa
open Go.RowKit

set_option maxRecDepth 100000 in
set_option maxHeartbeats 4000000 in
theorem refCrash_any {F : Nat → Prop} {p : Nat} {d : Dk} {N T : Nat} (names : Int) (vk : Value) (keep : List Int) (w : World) (h : Rsk F w p d N T) (hN : N ≤ 900000) (hT : T ≤ 1000000000) (hr : RdI w vk keep) (hkv : keep = [] ∨ ∀ k, vk.ownBlock = some k → ¬ F k ∧ k < w.heap.size) (hkl : keep.length ≤ 1000000000) :
    Calls Try.prog 30 #[ptr p, .int .i64 names, vk] w fun e w' => e = .returned (.tuple #[]) ∧ ∃ F', Rsk F' w' p (crashD d names keep) N T ∧ Only F w w' ∧ ∀ k, F' k → F k ∨ w.heap.size ≤ k := by
  obtain ⟨L, h, hp, hle, hok, hbn, hrm, hpw⟩ := h
  obtain ⟨ka, kc, rfl, -⟩ := id hr
  obtain ⟨s, hs⟩ : ∃ s, s = shareN names d.waits.length := ⟨_, rfl⟩
  have hsl : s ≤ d.waits.length := by rw [hs]; exact shareN_le _ _
  obtain ⟨l, hl⟩ : ∃ l, l = dirK d s := ⟨_, rfl⟩
  have HPK : Hid (∀ W, Calls Try.prog 49 #[.int .i64 names, .int .i64 (d.waits.length : Int)] W fun e w' => e = .returned (.int .i64 (s : Int)) ∧ w' = W) := hide (fun W => by rw [hs]; exact refPick_any names d.waits.length (by have := hbn.names; omega) W)
  have HDR := hide (refDir_any w h hok hbn hN s hsl)
  rw [← hl] at HDR
  have HOL : Hid (OkL d.files.length l) := hide (by rw [hl]; exact hok.dirs s)
  have HLL : Hid (l.length ≤ N) := hide (by have := dirK_len d s; have := hbn.names; rw [hl]; omega)
  have HCD : Hid (crashD d names keep = { d with files := crashF keep l 0 d.files, kept := l, waits := [], power := -1 }) := hide (by rw [hl, hs]; rfl)
  have H := hide h
  have HOK := hide hok
  have HBN := hide hbn
  have HI := hide (And.intro hrm hpw)
  have HLE := hide hle
  have HRK := hide hr
  have HKV := hide hkv
  obtain ⟨⟨-, -, -, c3, -⟩, -⟩ := h.cells
  obtain ⟨va, vc, hvs⟩ : ∃ a c, L.wv = .slice a d.waits.length c := by
    rcases h.waits.2 with ⟨hv, hn⟩ | ⟨g, cap, cur, hv, _⟩
    · exact ⟨_, _, by rw [hv, hn]⟩
    · exact ⟨_, _, hv⟩
  rw [hvs] at c3
  clear h hok hbn hrm hpw hp hle hr hkv hs hl
  go_enter Try.func30, Try.ntmps30
  go_wp2_with fail
  refine (HPK.out _).mono ?_
  rintro e w' ⟨rfl, rfl⟩
  go_wp2_with fail
  refine HDR.out.mono ?_
  rintro e W1 ⟨v, rfl, hg⟩
  have HX := hide (H.out.more hg.2.2)
  obtain ⟨⟨-, -, k2, k3, k4, k5, -⟩, -, j2, j3, j4, j5, -⟩ := HX.out.cells
  have HD1 := hide (((H.out.synced hg).setHead (L' := { L with kv := v, wv := .slice none 0 0, out := false }) 4 (.bool false) ⟨rfl, rfl, rfl, rfl, rfl⟩ rfl).setHead (L' := { L with kv := v, wv := .slice none 0 0, out := false, armed := false }) 5 (.bool false) ⟨rfl, rfl, rfl, rfl, rfl⟩ rfl)
  have HON1 : Hid (Only F w' ((((W1.setCell ⟨p, 2, none⟩ v).setCell ⟨p, 3, none⟩ (.slice none 0 0)).setCell ⟨p, 4, none⟩ (.bool false)).setCell ⟨p, 5, none⟩ (.bool false))) := hide (((((Only.ofBelow hg.2.2).setCell 2 (fun _ => H.out.fh) _).setCell 3 (fun _ => H.out.fh) _).setCell 4 (fun _ => H.out.fh) _).setCell 5 (fun _ => H.out.fh) _)
  obtain ⟨W2, hW2⟩ : ∃ W2, W2 = (((W1.setCell ⟨p, 2, none⟩ v).setCell ⟨p, 3, none⟩ (.slice none 0 0)).setCell ⟨p, 4, none⟩ (.bool false)).setCell ⟨p, 5, none⟩ (.bool false) := ⟨_, rfl⟩
  rw [← hW2] at HD1 HON1
  have HW2 := hide hW2
  rw [hvs] at k3
  obtain ⟨ka2, kn2, kc2, hks⟩ : ∃ a b c, L.kv = .slice a b c := by
    obtain ⟨a, b, hh⟩ := H.out.kept.shape
    exact ⟨_, _, _, hh⟩
  rw [hks] at k2
  obtain ⟨a9, c9, hv9⟩ := hg.1.shape
  subst hv9
  obtain ⟨F1, hF1⟩ : ∃ F1, F1 = Gr F w' W1 := ⟨_, rfl⟩
  have HFF : Hid (∀ k, F1 k → F k ∨ w'.heap.size ≤ k) := hide (fun k hk => by
    rw [hF1] at hk
    rcases hk with hk | hk
    · exact .inl hk
    · exact .inr hk.1)
  rw [← hF1] at HD1
  have HK1 : Hid (keep = [] ∨ ∀ k, (Value.slice ka keep.length kc).ownBlock = some k → ¬ F1 k) := hide (by
    rcases HKV.out with h | h
    · exact .inl h
    · refine .inr fun k hk hf => ?_
      rcases HFF.out k hf with h1 | h1
      · exact (h k hk).1 h1
      · have := (h k hk).2; omega)
  have HRK2 : Hid (RdI W2 (.slice ka keep.length kc) keep) := hide (HRK.out.onlyE HON1.out (by
    rcases HKV.out with h | h
    · exact .inl h
    · exact .inr fun k hk => (h k hk).1))
  clear hg hvs hks hW2 c3 hF1
  go_upto_region 4 with fail
  rw [← HW2.out]
  clear HW2 k2 k3 k4 k5 j2 j3 j4 j5 HX HPK HDR HRK HKV
  go_wp2
  go_loopw [6] (fun vi wr => ∃ i : Nat, vi = .int .i64 (i : Int) ∧ i ≤ l.length ∧ ∃ Li : RLay, Hid (RefL F1 wr p Li { d with files := crashF keep (l.take i) 0 d.files, kept := l, waits := [] }) ∧ Li.kv = .slice a9 l.length c9 ∧ Hid (Li.out = false ∧ Li.armed = false ∧ Li.left = L.left) ∧ Hid (Only F1 W2 wr)) (fun vi _ => l.length - (intOf vi).toNat)
  case atStart => exact ⟨0, rfl, Nat.zero_le _, { L with kv := .slice a9 l.length c9, wv := .slice none 0 0, out := false, armed := false }, by simpa [crashF] using HD1, rfl, hide ⟨rfl, rfl, rfl⟩, hide (Only.refl _ _)⟩
  case round =>
    obtain ⟨i, rfl, hil, Li, HDI, hkvi, HPL, HOI⟩ := hrel
    have k2 : wr.cell? ⟨p, 2, none⟩ = some (.slice a9 l.length c9) := by rw [← hkvi]; exact HDI.out.cells.1.2.2.1
    have hll : l.length ≤ 900000 := by have := HLL.out; omega
    by_cases hlt : i < l.length
    case neg =>
      have hi : i = l.length := by omega
      subst hi
      rw [List.take_length] at HDI
      go_wp2
      go_end0
      refine ⟨rfl, F1, ⟨Li, ?_, ?_, ?_, ?_, ?_, ?_, ?_⟩, HON1.out.trans HOI.out (fun k hk hf => ?_), HFF.out⟩
      · rw [HCD.out]
        exact ⟨HDI.out.head, HDI.out.files, HDI.out.kept, HDI.out.waits, HDI.out.file, HDI.out.psn, HDI.out.vsn, HDI.out.fh, HDI.out.ff, HDI.out.fk, HDI.out.fw, HDI.out.fp, HDI.out.fb, HDI.out.lt⟩
      · rw [HCD.out]
        exact ⟨HPL.out.1, fun _ => ⟨HPL.out.2.1, fun h => by cases h⟩⟩
      · rw [HPL.out.2.2]; exact HLE.out
      · exact HOK.out.crash names keep
      · rw [HCD.out]
        refine ⟨?_, ?_, ?_⟩
        · show (crashF keep l 0 d.files).length ≤ N
          rw [crashF_length]
          exact HBN.out.files
        · show l.length + 0 ≤ N
          exact HLL.out
        · exact bytes_crashF keep l 0 _ HBN.out.bytes (fun q hq => (HOL.out.may q hq).2)
      · rw [HCD.out]; exact HI.out.1
      · rw [HCD.out]
        exact ⟨by show (-9223372036854775808 : Int) ≤ -1; omega, by show (-1 : Int) ≤ 9223372036854775807; omega⟩
      · rcases HFF.out k hf with h1 | h1
        · exact h1
        · omega
    obtain ⟨n, f, hnf⟩ : ∃ n f, l[i] = (n, f) := ⟨_, _, rfl⟩
    have hmem : (n, f) ∈ l := by rw [← hnf]; exact List.getElem_mem hlt
    have hfl : f < d.files.length := (HOL.out.may _ hmem).2
    have hlen : (crashF keep (l.take i) 0 d.files).length = d.files.length := crashF_length _ _ _ _
    obtain ⟨x, hx⟩ : ∃ x, x = fl d.files f := ⟨_, rfl⟩
    have hfx : fl (crashF keep (l.take i) 0 d.files) f = x := by
      rw [hx]
      refine crashF_other keep _ 0 _ _ fun q hq => ?_
      have := apart_take HOL.out.apart hlt q hq
      rw [hnf] at this
      exact this
    have HXF : Hid (RFileV wr (Li.ps f) (Li.vs f) x) := hide (by
      have := HDI.out.file f (by show f < (crashF keep (l.take i) 0 d.files).length; omega)
      rw [← hfx]
      exact this)
    have hkx : x.k ≤ x.b.length := by rw [hx]; exact fl_keep HOK.out.keep f
    have hbx : x.b.length ≤ T := by rw [hx]; exact HBN.out.bytes _ (mem_fl hfl)
    have hfn : f ≤ 900000 := by have := HBN.out.files; omega
    obtain ⟨ao, cap, hvs, hcap, hao⟩ := bytes_head HXF.out.own
    obtain ⟨b, off, cp, hav, hat⟩ := (OwnN.rd HDI.out.kept (HOL.out.nmi (by have := HBN.out.files; omega))).at_ hlt
    have hav2 : Value.slice a9 l.length c9 = .slice (some ⟨b, off, none⟩) l.length cp := by rw [← hkvi]; exact hav
    simp only [Value.slice.injEq, true_and] at hav2
    obtain ⟨rfl, rfl⟩ := hav2
    have hnc : wr.cell? ⟨b, off + i * 2 + 1, none⟩ = some (.int .i64 (f : Int)) := by
      have := hat.2
      dsimp only at this
      rw [hnf] at this
      exact this
    have k1 : wr.cell? ⟨p, 1, none⟩ = some Li.fv := HDI.out.cells.1.2.1
    obtain ⟨fg, fo, fc, hfv, hfc⟩ := HDI.out.fileCell (f := f) (by show f < (crashF keep (l.take i) 0 d.files).length; omega)
    have hfv2 : Li.fv = .slice (some ⟨fg, fo, none⟩) d.files.length fc := by rw [← hlen]; exact hfv
    rw [hfv2] at k1
    obtain ⟨A, hA⟩ : ∃ A, A = pickK keep i := ⟨_, rfl⟩
    obtain ⟨m, hm⟩ : ∃ m, m = x.b.length - x.k := ⟨_, rfl⟩
    have hsub : (x.b.length : Int) - (x.k : Int) = (m : Int) := by omega
    obtain ⟨sh, hsh⟩ : ∃ sh, sh = shareN A m := ⟨_, rfl⟩
    have hshm : sh ≤ m := by rw [hsh]; exact shareN_le _ _
    obtain ⟨kk, hkk⟩ : ∃ kk, kk = x.k + sh := ⟨_, rfl⟩
    have hadd : (x.k : Int) + (sh : Int) = (kk : Int) := by omega
    have hkkb : kk ≤ x.b.length := by omega
    have HSH : Hid (∀ W, Calls Try.prog 49 #[.int .i64 A, .int .i64 (m : Int)] W fun e w' => e = .returned (.int .i64 (sh : Int)) ∧ w' = W) := hide (fun W => by rw [hsh]; exact refPick_any A m (by omega) W)
    have HSZ0 : Hid (A = 0 → sh = 0) := hide (fun e => by rw [hsh, e]; simp [shareN])
    have HCU : Hid (cutF x A = ⟨x.b.take kk, kk⟩) := hide (by rw [hkk, hsh, hm]; rfl)
    have HNX : Hid (RefL F1 ((wr.setCell ⟨Li.ps f, 0, none⟩ (.slice ao kk cap)).setCell ⟨Li.ps f, 1, none⟩ (.int .i64 (kk : Int))) p { Li with vs := fun j => if j = f then .slice ao kk cap else Li.vs j } { d with files := crashF keep (l.take (i + 1)) 0 d.files, kept := l, waits := [] }) := hide (by
      have h1 := HDI.out.cutFile (f := f) (k := kk) (ao := ao) (cap := cap) (by show f < (crashF keep (l.take i) 0 d.files).length; omega) (by show Li.vs f = .slice ao (fl (crashF keep (l.take i) 0 d.files) f).b.length cap; rw [hfx]; exact hvs) (by show kk ≤ (fl (crashF keep (l.take i) 0 d.files) f).b.length; rw [hfx]; exact hkkb)
      have h3 := crashF_at keep HOL.out.apart hlt d.files
      rw [hnf, ← hx, ← hA, HCU.out] at h3
      rw [h3]
      dsimp only at h1
      rw [hfx] at h1
      exact h1)
    have HOX : Hid (Only F1 W2 ((wr.setCell ⟨Li.ps f, 0, none⟩ (.slice ao kk cap)).setCell ⟨Li.ps f, 1, none⟩ (.int .i64 (kk : Int)))) := hide ((HOI.out.setCell 0 (fun _ => HDI.out.fp f (by show f < (crashF keep (l.take i) 0 d.files).length; omega)) _).setCell 1 (fun _ => HDI.out.fp f (by show f < (crashF keep (l.take i) 0 d.files).length; omega)) _)
    have HBX : Hid (Bk 64 wr (Li.ps f) #[.slice ao x.b.length cap, .int .i64 (x.k : Int)]) := hide (by rw [← hvs]; exact HXF.out.box)
    obtain ⟨P, hP⟩ : ∃ P, P = Li.ps f := ⟨_, rfl⟩
    rw [← hP] at HNX HOX HBX hfc
    obtain ⟨bl, hbl⟩ : ∃ bl, bl = x.b.length := ⟨_, rfl⟩
    obtain ⟨xk, hxk⟩ : ∃ xk, xk = x.k := ⟨_, rfl⟩
    rw [← hbl] at hsub hkkb hbx hcap HBX
    rw [← hxk] at hsub hadd HBX
    have hkcap : kk ≤ cap := by omega
    have HA := hide hA
    have HRKI := hide (HRK2.out.onlyE HOI.out HK1.out)
    have hmb : m ≤ 1000000000 := by omega
    have HKVI := hide hkvi
    clear hnf hmem hlen hx hfx hkx hvs hA hm hsh hshm hkk hP hbl hxk HXF HDI HOI HCU hat hav hfv hfv2 hkvi
    have HLT := hide hlt
    have hib : i ≤ 900000 := by omega
    have hwm : IntKind.i64.wrap (m : Int) = (m : Int) := wrap64n (by omega)
    have hwk : IntKind.i64.wrap (kk : Int) = (kk : Int) := wrap64n (by omega)
    by_cases hk0 : keep.length = 0
    · have e0 : A = 0 := by rw [HA.out]; exact if_pos hk0
      have esh : sh = 0 := HSZ0.out e0
      subst esh
      obtain rfl : xk = kk := by omega
      have hkz : decide ((keep.length : Int) > 0) = false := decide_eq_false (by omega)
      have hkz2 : decide (0 < keep.length) = false := decide_eq_false (by omega)
      clear hk0
      go_upto_region 7 with fail
      go_cut [7] (fun v wc => v = ptr P ∧ Hid (∃ q, wc = wr.drewN q))
      case first =>
        go_quiet (fail)
        go_wp2_with fail
        go_meet
        exact ⟨rfl, hide ⟨_, rfl⟩⟩
      case rest =>
        obtain ⟨W7, rfl⟩ : ∃ W, W = wc := ⟨_, rfl⟩
        obtain ⟨rfl, hq7⟩ := hcut
        have HB7 : Hid (Bk 64 W7 P #[.slice ao bl cap, .int .i64 (xk : Int)]) := hide (by obtain ⟨q, hq⟩ := hq7.out; rw [hq]; exact HBX.out)
        have HQ7 : Hid (∃ q q2, W7 = (wr.drewN q).drewN q2) := hide (by obtain ⟨q, hq⟩ := hq7.out; exact ⟨q, 0, hq⟩)
        have g0 : W7.cell? ⟨P, 0, none⟩ = some (.slice ao bl cap) := (HB7.out.cell 0 rfl).1
        have y0 : W7.frozen? ⟨P, 0, none⟩ = false := (HB7.out.cell 0 rfl).2
        have g1 : W7.cell? ⟨P, 1, none⟩ = some (.int .i64 (xk : Int)) := (HB7.out.cell 1 rfl).1
        clear hnc k1 k2 hfc
        clear hq7
        go_upto_region 11 with fail
        go_cut [] (fun wd => Hid (∃ q, wd = (W7.setCell ⟨P, 0, none⟩ (.slice ao xk cap)).drewN q))
        case first =>
          go_region
          all_goals
            go_wp2_with fail
            go_meet
            exact hide ⟨1, rfl⟩
        case rest =>
          obtain ⟨q8, hq8⟩ := hcut.out
          have HB8 : Hid (Bk 64 wc P #[.slice ao xk cap, .int .i64 (xk : Int)]) := hide (by rw [hq8]; exact HB7.out.set 0 _)
          have HQ8 := hide hq8
          have h0 : wc.cell? ⟨P, 0, none⟩ = some (.slice ao xk cap) := (HB8.out.cell 0 rfl).1
          have h1 : wc.cell? ⟨P, 1, none⟩ = some (.int .i64 (xk : Int)) := (HB8.out.cell 1 rfl).1
          have h2 : wc.frozen? ⟨P, 1, none⟩ = false := (HB8.out.cell 1 rfl).2
          clear hq8 hcut g0 y0 g1
          obtain ⟨W8, hW8⟩ : ∃ W8, W8 = wc := ⟨_, rfl⟩
          rw [← hW8] at HQ8 h0 h1 h2 ⊢
          clear hW8
          go_wp2
          go_roundw
          case rel =>
            obtain ⟨q1, q2, hq⟩ := HQ7.out
            refine ⟨i + 1, by go_num, by have := HLT.out; omega, _, hide (HNX.out.keep (w' := W8.setCell ⟨P, 1, none⟩ (.int .i64 (xk : Int))) (fun k _ => ?_) ?_), HKVI.out, HPL, hide ?_⟩
            · rw [HQ8.out, hq]
              rfl
            · rw [HQ8.out, hq]
              exact Nat.le_refl _
            · rw [HQ8.out, hq]
              exact ⟨HOX.out.os, HOX.out.tape, HOX.out.output, HOX.out.size, HOX.out.block⟩
          case measure => have := HLT.out; simp [intOf]; omega
    · obtain ⟨J, hJ⟩ : ∃ J, J = i % keep.length := ⟨_, rfl⟩
      have hJl : J < keep.length := by rw [hJ]; exact Nat.mod_lt _ (by omega)
      have hJi : (i : Int) % (keep.length : Int) = (J : Int) := by rw [hJ]; omega
      have eA : keep.getD J 0 = A := by rw [HA.out, hJ]; exact (if_neg hk0).symm
      obtain ⟨kb, koff, rfl, hkc⟩ : ∃ kb koff, ka = some ⟨kb, koff, none⟩ ∧ wr.cell? ⟨kb, koff + J, none⟩ = some (.int .i64 A) := by
        obtain ⟨a', c', hv', _, _, _, _, h6⟩ := HRKI.out
        simp only [Value.slice.injEq] at hv'
        obtain ⟨rfl, _, rfl⟩ := hv'
        rcases h6 with h6 | ⟨kb, koff, rfl, h7⟩
        · rw [h6] at hk0
          simp at hk0
        · exact ⟨kb, koff, rfl, by rw [h7 J hJl, eA]⟩
      have hkp : 0 < keep.length := by omega
      have hkpi : (0 : Int) < (keep.length : Int) := by omega
      clear eA hJ hk0
      go_upto_region 7 with fail
      go_cut [7] (fun v wc => v = ptr P ∧ Hid (∃ q, wc = wr.drewN q))
      case first =>
        go_quiet (fail)
        go_wp2_with fail
        go_meet
        exact ⟨rfl, hide ⟨_, rfl⟩⟩
      case rest =>
        obtain ⟨W7, rfl⟩ : ∃ W, W = wc := ⟨_, rfl⟩
        obtain ⟨rfl, hq7⟩ := hcut
        have HB7 : Hid (Bk 64 W7 P #[.slice ao bl cap, .int .i64 (xk : Int)]) := hide (by obtain ⟨q, hq⟩ := hq7.out; rw [hq]; exact HBX.out)
        have HQ7 : Hid (∃ q q2, W7 = (wr.drewN q).drewN q2) := hide (by obtain ⟨q, hq⟩ := hq7.out; exact ⟨q, 0, hq⟩)
        have hkc7 : W7.cell? ⟨kb, koff + J, none⟩ = some (.int .i64 A) := by obtain ⟨q, hq⟩ := hq7.out; rw [hq]; exact hkc
        have g0 : W7.cell? ⟨P, 0, none⟩ = some (.slice ao bl cap) := (HB7.out.cell 0 rfl).1
        have y0 : W7.frozen? ⟨P, 0, none⟩ = false := (HB7.out.cell 0 rfl).2
        have g1 : W7.cell? ⟨P, 1, none⟩ = some (.int .i64 (xk : Int)) := (HB7.out.cell 1 rfl).1
        clear hnc k1 k2 hfc
        clear hkc
        go_upto_region 10 with fail
        go_cut [8] (fun v wc => v = .int .i64 (sh : Int) ∧ Hid (∃ q, wc = W7.drewN q))
        case first =>
          go_quiet ((go_at_call 49; exact Calls.quiet_of_same (HSH.out _)))
          go_wp2_with fail
          go_meet
          exact ⟨rfl, hide ⟨_, rfl⟩⟩
        case rest =>
        obtain ⟨WA, rfl⟩ : ∃ W, W = wc := ⟨_, rfl⟩
        obtain ⟨rfl, hqA⟩ := hcut
        have HBA : Hid (Bk 64 WA P #[.slice ao bl cap, .int .i64 (xk : Int)]) := hide (by obtain ⟨q, hq⟩ := hqA.out; rw [hq]; exact HB7.out)
        have HQA : Hid (∃ q q2, WA = (wr.drewN q).drewN q2) := hide (by obtain ⟨q, hq⟩ := hqA.out; obtain ⟨q', hq'⟩ := hq7.out; rw [hq, hq']; exact ⟨q', q, rfl⟩)
        clear g0 g1 y0 hq7 hqA HB7 HQ7
        obtain ⟨W7, rfl⟩ : ∃ W, W = WA := ⟨_, rfl⟩
        have HB7 := HBA
        have HQ7 := HQA
        have g0 : W7.cell? ⟨P, 0, none⟩ = some (.slice ao bl cap) := (HB7.out.cell 0 rfl).1
        have y0 : W7.frozen? ⟨P, 0, none⟩ = false := (HB7.out.cell 0 rfl).2
        have g1 : W7.cell? ⟨P, 1, none⟩ = some (.int .i64 (xk : Int)) := (HB7.out.cell 1 rfl).1
        clear HBA HQA hkc7
        go_upto_region 11 with fail
        go_cut [] (fun wd => Hid (∃ q, wd = (W7.setCell ⟨P, 0, none⟩ (.slice ao kk cap)).drewN q))
        case first =>
          go_region
          all_goals
            go_wp2_with fail
            go_meet
            exact hide ⟨1, rfl⟩
        case rest =>
          obtain ⟨q8, hq8⟩ := hcut.out
          have HB8 : Hid (Bk 64 wc P #[.slice ao kk cap, .int .i64 (xk : Int)]) := hide (by rw [hq8]; exact HB7.out.set 0 _)
          have HQ8 := hide hq8
          have h0 : wc.cell? ⟨P, 0, none⟩ = some (.slice ao kk cap) := (HB8.out.cell 0 rfl).1
          have h1 : wc.cell? ⟨P, 1, none⟩ = some (.int .i64 (xk : Int)) := (HB8.out.cell 1 rfl).1
          have h2 : wc.frozen? ⟨P, 1, none⟩ = false := (HB8.out.cell 1 rfl).2
          clear hq8 hcut g0 y0 g1
          obtain ⟨W8, hW8⟩ : ∃ W8, W8 = wc := ⟨_, rfl⟩
          rw [← hW8] at HQ8 h0 h1 h2 ⊢
          clear hW8
          go_wp2
          go_roundw
          case rel =>
            obtain ⟨q1, q2, hq⟩ := HQ7.out
            refine ⟨i + 1, by go_num, by have := HLT.out; omega, _, hide (HNX.out.keep (w' := W8.setCell ⟨P, 1, none⟩ (.int .i64 (kk : Int))) (fun k _ => ?_) ?_), HKVI.out, HPL, hide ?_⟩
            · rw [HQ8.out, hq]
              rfl
            · rw [HQ8.out, hq]
              exact Nat.le_refl _
            · rw [HQ8.out, hq]
              exact ⟨HOX.out.os, HOX.out.tape, HOX.out.output, HOX.out.size, HOX.out.block⟩
          case measure => have := HLT.out; simp [intOf]; omega

end Go.Proofs.Ytfhgjnfichgdiaa
