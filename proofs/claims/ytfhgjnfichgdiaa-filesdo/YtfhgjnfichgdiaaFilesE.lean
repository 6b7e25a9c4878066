/- Contract of the landed files: Append. -/
import Derived.Test.YtfhgjnfichgdiaaFilesD
import Derived.Deep.QuietTactic
import Derived.BigQuiet
import Derived.Deep.DeepCutAuto
namespace Go.Proofs.Ytfhgjnfichgdiaa
open Go.RowKit

theorem Bnd.mono {d : Dk} {N T N' T' : Nat} (h : Bnd d N T) (hN : N ≤ N') (hT : T ≤ T') : Bnd d N' T' :=
  ⟨Nat.le_trans h.files hN, Nat.le_trans h.names hN, fun x hx => Nat.le_trans (h.bytes x hx) hT⟩

theorem DiskL.mono {F : Nat → Prop} {w : World} {p : Nat} {L : Lay} {d : Dk} {u : Int} {N N' : Nat} (h : DiskL F w p L d u N) (hN : N ≤ N') : DiskL F w p L d u N' := ⟨h.head, h.rest.mono hN, h.fh, h.lt⟩

theorem Dsk.mono {F : Nat → Prop} {w : World} {p : Nat} {d : Dk} {N T N' T' : Nat} (h : Dsk F w p d N T) (hN : N ≤ N') (hT : T ≤ T') : Dsk F w p d N' T' := by
  obtain ⟨L, h1, h2, h3, h4⟩ := h
  exact ⟨L, h1.mono hN, h2, h3.mono hN hT, h4⟩

/-- What a call that changes a disk does: it answers a number, and the disk is as d. -/
def DidF (F : Nat → Prop) (w : World) (p : Nat) (d : Dk) (code : Int) (N T : Nat) (e : Ending) (w' : World) : Prop :=
  e = .returned (.int .i64 code) ∧ ∃ F', Dsk F' w' p d N T ∧ Only F w w' ∧ ∀ k, F' k → F k ∨ w.heap.size ≤ k

theorem DidF.same {F : Nat → Prop} {w : World} {p : Nat} {d : Dk} {code : Int} {N T N' T' : Nat} (h : Dsk F w p d N T) (hN : N ≤ N') (hT : T ≤ T') : DidF F w p d code N' T' (.returned (.int .i64 code)) w :=
  ⟨rfl, F, h.mono hN hT, Only.refl _ _, fun _ hk => .inl hk⟩

theorem DidF.drew {F : Nat → Prop} {w : World} {p : Nat} {d : Dk} {code : Int} {N T N' T' : Nat} (h : Dsk F w p d N T) (hN : N ≤ N') (hT : T ≤ T') (q : Nat) : DidF F w p d code N' T' (.returned (.int .i64 code)) (w.drewN q) :=
  ⟨rfl, F, (h.below (below_drewN (Below.refl _ _) q)).mono hN hT, (Only.refl _ _).drewN q, fun _ hk => .inl hk⟩

theorem tick_i64 {q : Int} (h : I64 q) : I64 (tickD q) := by
  obtain ⟨h1, h2⟩ := h
  unfold tickD I64
  split <;> omega

theorem used_bd {d : Dk} (h : OkD d) {N T : Nat} (hb : Bnd d N T) (hN : N ≤ 1000000) (hT : T ≤ 1000000000) : usedD d ≤ 1000000000000000 := by
  have h1 := usedD_le h hb.names hb.bytes
  have h2 : N * T ≤ 1000000 * 1000000000 := Nat.mul_le_mul hN hT
  omega

theorem DidF.appended {F F2 : Nat → Prop} {w W2 : World} {p : Nat} {d1 : Dk} {N1 N' T f : Nat} {n : Int} {b : List UInt8} {L2 : Lay} (hok : OkD d1) (hbn : Bnd d1 N1 T) (hi : I64 d1.room ∧ I64 d1.power) (hl : look (dirD d1) n = some f)
    (h : DiskL F2 W2 p L2 (appendTo d1 f b) ((usedD d1 : Int) + b.length) N1) (ho : Only F w W2) (hg : ∀ k, F2 k → F k ∨ w.heap.size ≤ k) (hN : N1 + 1 ≤ N') : DidF F w p (appendTo d1 f b) 0 N' (T + b.length) (.returned (.int .i64 0)) W2 := by
  refine ⟨rfl, F2, ⟨L2, ?_, hok.appendTo f b, (hbn.grow f b _).mono hN (Nat.le_refl _), hi.1, tick_i64 hi.2⟩, ho, hg⟩
  rw [usedD_grow hok hl b]
  exact h.mono (by omega)

theorem Rd.blockLt {w : World} {v : Value} {l : List UInt8} (h : Rd w v l) : l = [] ∨ ∀ k, v.ownBlock = some k → k < w.heap.size := by
  obtain ⟨ao, cap, rfl, h2, h3, hn, h4⟩ := h
  rcases h4 with h4 | ⟨b, off, rfl, h6⟩
  · exact .inl h4
  · by_cases e : l = []
    · exact .inl e
    · right
      intro k hk
      obtain rfl : b = k := by simpa [Value.ownBlock] using hk
      exact World.block_lt_of_cell? w ⟨b, off + 0, none⟩ (h6 0 (List.length_pos_iff.2 e))

theorem Rd.onlyN {w w' : World} {v : Value} {l : List UInt8} (h : Rd w v l) {F G : Nat → Prop} {B : Nat} (ho : Only G w w') (hG : ∀ k, G k → F k ∨ B ≤ k) (hv : l = [] ∨ ∀ k, v.ownBlock = some k → ¬ F k) (hlt : l = [] ∨ ∀ k, v.ownBlock = some k → k < B) : Rd w' v l := by
  rcases hv with rfl | hv
  · obtain ⟨ao, cap, rfl, h2, h3, hn, h4⟩ := h
    exact ⟨ao, cap, rfl, h2, h3, hn, .inl rfl⟩
  rcases hlt with rfl | hlt
  · obtain ⟨ao, cap, rfl, h2, h3, hn, h4⟩ := h
    exact ⟨ao, cap, rfl, h2, h3, hn, .inl rfl⟩
  · exact h.only ho fun k hk hg => by
      rcases hG k hg with hf | hf
      · exact hv k hk hf
      · have := hlt k hk; omega

set_option maxRecDepth 100000 in
set_option maxHeartbeats 2000000 in
theorem append_any {F : Nat → Prop} {p : Nat} {d : Dk} {N T : Nat} (n : Int) (hn : I64 n) (vb : Value) (b : List UInt8) (w : World) (h : Dsk F w p d N T) (hr : Rd w vb b) (hv : b = [] ∨ ∀ k, vb.ownBlock = some k → ¬ F k) (hN : N ≤ 1000000) (hT : T ≤ 1000000000) (hbl : b.length ≤ 1000000000) :
    Calls Try.prog 15 #[ptr p, .int .i64 n, vb] w fun e w' => DidF F w p (appendD d n b).1 (appendD d n b).2 (N + 2) (T + b.length) e w' := by
  have HD := hide h
  obtain ⟨L, h, hok, hbn, hrm, hpw⟩ := h
  have H := hide h
  have HOK := hide hok
  have HBN := hide hbn
  have HI := hide (And.intro hrm hpw)
  have HRD := hide hr
  have HBL := hide hr.blockLt
  have HV := hide hv
  have HO := hide (on_any w h)
  have HM := hide (mayBe_any n w)
  have hl := h.rest.now.look hn
  obtain ⟨⟨c0, c1, c2, -, -, -⟩, -⟩ := h.cells
  have hub := used_bd hok hbn hN hT
  obtain ⟨U, hU⟩ : ∃ U : Int, U = (usedD d : Int) := ⟨_, rfl⟩
  have hU0 : 0 ≤ U ∧ U ≤ 1000000000000000 := by omega
  rw [← hU] at c1
  obtain ⟨ao, cap, rfl, -⟩ := hr
  obtain ⟨R, hR⟩ : ∃ R, R = d.room := ⟨_, rfl⟩
  rw [← hR] at c0
  unfold appendD
  rw [← hU, ← hR]
  have HU := hide hU
  clear hU hub hR
  clear hok hbn hpw hv h
  by_cases h0 : d.power = 0
  · rw [if_pos h0]
    rw [h0] at HO
    clear hl h0
    go_enter Try.func15, Try.ntmps15
    go_wp2_with fail
    refine HO.out.mono ?_
    rintro e w' ⟨rfl, rfl⟩
    go_wp2
    go_ret
    exact DidF.same HD.out (by omega) (by omega)
  rw [if_neg h0]
  have e0 : (d.power != 0) = true := by simpa using h0
  rw [e0] at HO
  clear h0 e0
  cases hmn : mayN n with
  | false =>
    rw [if_pos rfl]
    rw [hmn] at HM
    clear hl hmn
    go_enter Try.func15, Try.ntmps15
    go_wp2_with fail
    refine HO.out.mono ?_
    rintro e w' ⟨rfl, rfl⟩
    go_wp2_with fail
    refine HM.out.mono ?_
    rintro e w' ⟨rfl, rfl⟩
    go_wp2
    go_ret
    exact DidF.same HD.out (by omega) (by omega)
  | true =>
  rw [if_neg (by simp)]
  have HMN := hide hmn
  rw [hmn] at HM
  clear hmn
  by_cases hroom : U + (b.length : Int) > R
  · rw [if_pos hroom]
    clear hl
    go_enter Try.func15, Try.ntmps15
    go_wp2_with fail
    refine HO.out.mono ?_
    rintro e w' ⟨rfl, rfl⟩
    go_wp2_with fail
    refine HM.out.mono ?_
    rintro e w' ⟨rfl, rfl⟩
    go_upto_region 5 with fail
    go_quiet (fail)
    go_wp2
    go_ret
    exact DidF.drew HD.out (by omega) (by omega) _
  rw [if_neg hroom]
  have hroom' : decide (U + (b.length : Int) > R) = false := decide_eq_false hroom
  have hroom2 : U + (b.length : Int) ≤ R := by omega
  cases ho : look (dirD d) n with
  | some f =>
    clear hl
    dsimp only
    have HLK := hide ho
    clear ho
    go_enter Try.func15, Try.ntmps15
    go_wp2_with fail
    refine HO.out.mono ?_
    rintro e w' ⟨rfl, rfl⟩
    go_wp2_with fail
    refine HM.out.mono ?_
    rintro e w' ⟨rfl, rfl⟩
    go_upto_region 5 with fail
    go_cut [17] (fun v wc => v = .bool false ∧ Hid (∃ q, wc = w'.drewN q))
    case first =>
      go_quiet (fail)
      go_wp2
      go_meet
      exact ⟨rfl, hide ⟨_, rfl⟩⟩
    case rest =>
      obtain ⟨W, rfl⟩ : ∃ W, W = wc := ⟨_, rfl⟩
      obtain ⟨rfl, hw⟩ := hcut
      obtain ⟨w, rfl⟩ : ∃ w0, w0 = w' := ⟨_, rfl⟩
      obtain ⟨q, hq⟩ := hw.out
      have H0 : Hid (DiskL F W p L d U N) := hide (by rw [hq, HU.out]; exact H.out.keep (fun _ _ => rfl) (Nat.le_refl _))
      have HON0 : Hid (Only F w W) := hide (by rw [hq]; exact (Only.refl _ _).drewN q)
      have HRD0 : Hid (Rd W (.slice ao b.length cap) b) := hide (by rw [hq]; exact HRD.out.below (below_drewN (Below.refl _ _) q) (Nat.le_refl _))
      clear hw hq c0 c1 c2 hroom hroom' H HRD HO HM HD
      obtain ⟨⟨-, -, c2, -, -, -⟩, -⟩ := H0.out.cells
      have hl := H0.out.rest.now.look hn
      rw [HLK.out] at hl
      have hl' : (Instr.lookup 51 (.map (some L.now)) (.int .i64 n) true).run Try.prog W = .ok (.tuple #[.pointer (some ⟨L.ps f, 0, none⟩), .bool true]) W := hl
      have hf : f < d.files.length := (HOK.out.dir.mayOf HLK.out).2
      have HLK1 := HLK
      have H1 := H0
      have HU1 := HU
      have HOK1 := HOK
      have HBN1 := HBN
      have HI1 := HI
      have HGR1 : Hid (∀ k, F k → F k ∨ w.heap.size ≤ k) := hide (fun k hk => .inl hk)
      have HON1 := HON0
      have HRD1 := HRD0
      clear hl H0 HON0 HRD0
      go_upto_region 11 with fail
      clear hl' c2

      obtain ⟨g0, y0⟩ := (H1.out.rest.file f hf).box.cell 0 rfl
      have HOW := hide (H1.out.rest.file f hf).own
      have hbx := hide (H1.out.rest.file f hf).box
      obtain ⟨va, vc, hvs⟩ := (H1.out.rest.file f hf).own.shape
      rw [hvs] at g0
      have HVS := hide hvs
      have HLIM : Hid ((fl d.files f).b.length + b.length ≤ 70368744177664) := hide (by have := HBN1.out.bytes _ (mem_fl hf); omega)
      clear hvs
      go_wp2_with (at_builtin; refine (fun (h : True → _) => h trivial) ?_)
      intro _
      rw [← HVS.out]
      refine wpList_append_rdl W rfl _ _ rfl (L.vs f) _ rfl HOW.out _ b rfl HRD1.out HLIM.out ?_
      intro v' w2 ho2 hg2 hl2
      obtain ⟨hd2, hon2⟩ := H1.out.grow hf ho2 hg2 hl2
      have HD2 := hide hd2
      have HON2 := hide hon2
      have hne : (L.vs f).ownBlock ≠ some (L.ps f) := fun e => by
        obtain ⟨cs', hb'⟩ := ownBk HOW.out e
        exact (hbx.out.ne hb' (by decide)) rfl
      obtain ⟨g2, y2⟩ := (hbx.out.keep (hg2.block _ hbx.out.lt (fun e => hne e.symm))).cell 0 rfl
      rw [HVS.out] at g2
      obtain ⟨va', vc', hvs'⟩ := ho2.shape
      rw [hvs'] at HD2 HON2 ⊢
      obtain ⟨W3, hW3⟩ : ∃ W3, W3 = w2.setCell ⟨L.ps f, 0, none⟩ (.slice va' ((fl d.files f).b ++ b).length vc') := ⟨_, rfl⟩
      have HW3 := hide hW3
      obtain ⟨M, hM⟩ : ∃ M, M = ((fl d.files f).b ++ b).length := ⟨_, rfl⟩
      rw [← hW3] at HD2 HON2
      rw [← hM]
      rw [← hM] at HW3
      clear ho2 hg2 hl2 hd2 hon2 hne hvs' hW3 hM g0 y0
      go_upto_region 12 with fail
      rw [← HW3.out]
      clear HW3 g2 y2
      obtain ⟨⟨-, k1, -, -, -, -⟩, j1, -⟩ := HD2.out.cells
      obtain ⟨W4, hW4⟩ : ∃ W4, W4 = W3.setCell ⟨p, 1, none⟩ (.int .i64 (U + (b.length : Int))) := ⟨_, rfl⟩
      have HD3 := hide (HD2.out.setHead 1 (.int .i64 (U + (b.length : Int))) (d' := { d with files := growF d.files f b }) (u' := U + (b.length : Int)) ⟨rfl, rfl, rfl⟩ rfl)
      have HON3 : Hid (Only F w W4) := hide (by
        rw [hW4]
        exact (HON1.out.trans HON2.out (fun k hk hf => (HGR1.out k hf).resolve_right (by omega))).setCell 1 (fun hlt => ((HGR1.out p H1.out.fh).resolve_right (by omega))) _)
      rw [← hW4] at HD3
      have HW4 := hide hW4
      clear hW4
      go_upto_region 13 with fail
      rw [← HW4.out]
      clear HW4 k1 j1
      go_wp2_with fail
      refine (done_any W4 HD3.out HI1.out.2).mono ?_
      rintro e W5 ⟨rfl, hd5, hon5⟩
      go_wp2
      go_ret
      refine DidF.appended HOK1.out HBN1.out HI1.out HLK1.out (by rw [← HU1.out]; exact hd5) ((HON3.out.trans hon5 (fun k hk hf => ?_))) (fun k hk => ?_) (by omega)
      · rcases hf with hf | hf
        · exact (HGR1.out k hf).resolve_right (by omega)
        · have := HON1.out.size; omega
      · rcases hk with hk | hk
        · exact HGR1.out k hk
        · have := HON1.out.size; exact .inr (by omega)
  | none =>
    clear hl
    dsimp only
    have HLK := hide ho
    clear ho
    go_enter Try.func15, Try.ntmps15
    go_wp2_with fail
    refine HO.out.mono ?_
    rintro e w' ⟨rfl, rfl⟩
    go_wp2_with fail
    refine HM.out.mono ?_
    rintro e w' ⟨rfl, rfl⟩
    go_upto_region 5 with fail
    go_cut [17] (fun v wc => v = .bool false ∧ Hid (∃ q, wc = w'.drewN q))
    case first =>
      go_quiet (fail)
      go_wp2
      go_meet
      exact ⟨rfl, hide ⟨_, rfl⟩⟩
    case rest =>
      obtain ⟨W, rfl⟩ : ∃ W, W = wc := ⟨_, rfl⟩
      obtain ⟨rfl, hw⟩ := hcut
      obtain ⟨w, rfl⟩ : ∃ w0, w0 = w' := ⟨_, rfl⟩
      obtain ⟨q, hq⟩ := hw.out
      have H0 : Hid (DiskL F W p L d U N) := hide (by rw [hq, HU.out]; exact H.out.keep (fun _ _ => rfl) (Nat.le_refl _))
      have HON0 : Hid (Only F w W) := hide (by rw [hq]; exact (Only.refl _ _).drewN q)
      have HRD0 : Hid (Rd W (.slice ao b.length cap) b) := hide (by rw [hq]; exact HRD.out.below (below_drewN (Below.refl _ _) q) (Nat.le_refl _))
      clear hw hq c0 c1 c2 hroom hroom' H HRD HO HM HD
      obtain ⟨⟨-, -, c2, -, -, -⟩, -⟩ := H0.out.cells
      have hl := H0.out.rest.now.look hn
      rw [HLK.out] at hl
      have hl' : (Instr.lookup 51 (.map (some L.now)) (.int .i64 n) true).run Try.prog W = .ok (.tuple #[.pointer none, .bool false]) W := hl
      have HFR := hide (H0.out.addFile HOK.out)
      have HONF := hide (HON0.out.alloc (.cells #[.slice none 0 0, .int .i64 0] 70))
      have HRDF : Hid (Rd (W.alloc (.cells #[.slice none 0 0, .int .i64 0] 70)) (.slice ao b.length cap) b) := hide (HRD0.out.below ((Below.refl _ _).alloc (Nat.le_refl _) _) (Nat.le_refl _))
      have HSZ : Hid (w.heap.size ≤ W.heap.size) := hide HON0.out.size
      have HWZ : Hid (W.heap.size < (W.alloc (.cells #[.slice none 0 0, .int .i64 0] 70)).heap.size) := hide (by simp)
      obtain ⟨WA, hWA⟩ : ∃ WA, WA = W.alloc (.cells #[.slice none 0 0, .int .i64 0] 70) := ⟨_, rfl⟩
      rw [← hWA] at HFR HONF HRDF HWZ
      have HWA := hide hWA
      have HO := HLK
      clear hWA hl
      go_upto_region 10 with fail
      rw [← HWA.out]
      clear HWA hl' c2
      go_wp2_with fail
      refine (give_any n W.heap.size WA).mono ?_
      rintro e WB ⟨rfl, hWB⟩
      have hbB : Below WA.heap.size WA WB := by rw [hWB]; exact ((Below.refl _ _).alloc (Nat.le_refl _) _).alloc (by simp) _
      have hsB : WB.heap.size = WA.heap.size + 1 + 1 := by rw [hWB]; simp
      have hc1 : Bk 3 WB WA.heap.size #[.int .i64 n] := by rw [hWB]; exact (Below.heap_alloc _ _ _ (by simp)).trans (heap_alloc_new WA _)
      have hc2 : Bk 67 WB (WA.heap.size + 1) #[ptr W.heap.size] := by
        have e1 : WA.heap.size + 1 = (WA.alloc (.cells #[.int .i64 n] 3)).heap.size := by simp
        rw [hWB, e1]
        exact heap_alloc_new _ _
      have HDB := hide (HFR.out.more hbB)
      obtain ⟨FB, hFB⟩ : ∃ FB, FB = Gr (Gr F W WA) WA WB := ⟨_, rfl⟩
      rw [← hFB] at HDB
      obtain ⟨LB, hLB⟩ : ∃ LB : Lay, LB = { L with ps := fun i => if i = d.files.length then W.heap.size else L.ps i, vs := fun i => if i = d.files.length then .slice none 0 0 else L.vs i } := ⟨_, rfl⟩
      have hps : LB.ps d.files.length = W.heap.size := by rw [hLB]; exact if_pos rfl
      rw [← hLB] at HDB
      have HCV : Hid (ChV FB WB LB.ps (.give n d.files.length) (.func (.func 53) #[] #[ptr (WA.heap.size + 1), ptr WA.heap.size])) := hide ⟨_, _, rfl, hc1, by rw [hps]; exact hc2, by rw [hFB]; exact .inr ⟨Nat.le_refl _, by omega⟩, by rw [hFB]; exact .inr ⟨by omega, by omega⟩⟩
      have HFRB : Hid (∀ k, FB k → F k ∨ w.heap.size ≤ k) := hide (fun k hk => by
        rw [hFB] at hk
        have h1 := HSZ.out
        have h2 := HWZ.out
        rcases hk with (hk | hk) | hk
        · exact .inl hk
        · exact .inr (by omega)
        · exact .inr (by omega))
      have HONB : Hid (Only F w WB) := hide (HONF.out.trans (G := fun _ => False) (Only.ofBelow hbB) (fun _ _ hf => hf.elim))
      have HRDB : Hid (Rd WB (.slice ao b.length cap) b) := hide (HRDF.out.below hbB (Nat.le_refl _))
      have HPS := hide hps
      have HOKF : Hid (OkD { d with files := d.files ++ [⟨[], 0⟩] }) := hide ⟨fun k => (HOK.out.dirs k).more (by simp), fun c hc => (HOK.out.chs c hc).more (by simp), fun x hx => by
        rcases List.mem_append.1 hx with hx | hx
        · exact HOK.out.keep x hx
        · rw [List.mem_singleton.1 hx]; exact Nat.le_refl _⟩
      have HAP := hide (apply_any WB HDB.out HCV.out HOKF.out ⟨HMN.out, by simp⟩ hN (by have := HBN.out.names; show d.waits.length ≤ 1000000; omega))
      clear hbB hsB hc1 hc2 hFB hLB hps hWB
      go_wp2_with fail
      refine HAP.out.mono ?_
      rintro e WC ⟨rfl, LC, hdc, hpsc, -, honc⟩
      have HLK1 : Hid (look (dirD (freshD d n)) n = some d.files.length) := hide (look_fresh HOK.out n)
      have H1 : Hid (DiskL (Gr FB WB WC) WC p LC (freshD d n) U (N + 1)) := hide hdc
      have HU1 : Hid (U = (usedD (freshD d n) : Int)) := hide (by rw [usedD_fresh HOK.out HO.out]; exact HU.out)
      have HOK1 : Hid (OkD (freshD d n)) := hide (HOK.out.fresh HMN.out)
      have HBN1 : Hid (Bnd (freshD d n) (N + 1) T) := hide (HBN.out.fresh n)
      have HI1 : Hid (I64 (freshD d n).room ∧ I64 (freshD d n).power) := hide HI.out
      have HGR1 : Hid (∀ k, Gr FB WB WC k → F k ∨ w.heap.size ≤ k) := hide (fun k hk => by
        rcases hk with hk | hk
        · exact HFRB.out k hk
        · have := HONB.out.size; exact .inr (by omega))
      have HON1 : Hid (Only F w WC) := hide (HONB.out.trans honc (fun k hk hf => (HFRB.out k hf).resolve_right (by omega)))
      have HRD1 : Hid (Rd WC (.slice ao b.length cap) b) := hide (HRDB.out.onlyN (B := w.heap.size) honc HFRB.out HV.out HBL.out)
      have hf : d.files.length < (freshD d n).files.length := by simp [freshD]
      have hpc : LC.ps d.files.length = W.heap.size := by rw [hpsc]; exact HPS.out
      rw [← hpc]
      clear hdc hpsc honc hpc HAP HCV HDB HFRB HONB HRDB HPS HOKF HFR HONF HRDF HSZ HWZ HO H0 HON0 HRD0 HOK HBN HI HU hn HMN
      go_upto_region 11 with fail

      obtain ⟨g0, y0⟩ := (H1.out.rest.file d.files.length hf).box.cell 0 rfl
      have HOW := hide (H1.out.rest.file d.files.length hf).own
      have hbx := hide (H1.out.rest.file d.files.length hf).box
      obtain ⟨va, vc, hvs⟩ := (H1.out.rest.file d.files.length hf).own.shape
      rw [hvs] at g0
      have HVS := hide hvs
      have HLIM : Hid ((fl (freshD d n).files d.files.length).b.length + b.length ≤ 70368744177664) := hide (by have := HBN1.out.bytes _ (mem_fl hf); omega)
      clear hvs
      go_wp2_with (at_builtin; refine (fun (h : True → _) => h trivial) ?_)
      intro _
      rw [← HVS.out]
      refine wpList_append_rdl WC rfl _ _ rfl (LC.vs d.files.length) _ rfl HOW.out _ b rfl HRD1.out HLIM.out ?_
      intro v' w2 ho2 hg2 hl2
      obtain ⟨hd2, hon2⟩ := H1.out.grow hf ho2 hg2 hl2
      have HD2 := hide hd2
      have HON2 := hide hon2
      have hne : (LC.vs d.files.length).ownBlock ≠ some (LC.ps d.files.length) := fun e => by
        obtain ⟨cs', hb'⟩ := ownBk HOW.out e
        exact (hbx.out.ne hb' (by decide)) rfl
      obtain ⟨g2, y2⟩ := (hbx.out.keep (hg2.block _ hbx.out.lt (fun e => hne e.symm))).cell 0 rfl
      rw [HVS.out] at g2
      obtain ⟨va', vc', hvs'⟩ := ho2.shape
      rw [hvs'] at HD2 HON2 ⊢
      obtain ⟨W3, hW3⟩ : ∃ W3, W3 = w2.setCell ⟨LC.ps d.files.length, 0, none⟩ (.slice va' ((fl (freshD d n).files d.files.length).b ++ b).length vc') := ⟨_, rfl⟩
      have HW3 := hide hW3
      obtain ⟨M, hM⟩ : ∃ M, M = ((fl (freshD d n).files d.files.length).b ++ b).length := ⟨_, rfl⟩
      rw [← hW3] at HD2 HON2
      rw [← hM]
      rw [← hM] at HW3
      clear ho2 hg2 hl2 hd2 hon2 hne hvs' hW3 hM g0 y0
      go_upto_region 12 with fail
      rw [← HW3.out]
      clear HW3 g2 y2
      obtain ⟨⟨-, k1, -, -, -, -⟩, j1, -⟩ := HD2.out.cells
      obtain ⟨W4, hW4⟩ : ∃ W4, W4 = W3.setCell ⟨p, 1, none⟩ (.int .i64 (U + (b.length : Int))) := ⟨_, rfl⟩
      have HD3 := hide (HD2.out.setHead 1 (.int .i64 (U + (b.length : Int))) (d' := { (freshD d n) with files := growF (freshD d n).files d.files.length b }) (u' := U + (b.length : Int)) ⟨rfl, rfl, rfl⟩ rfl)
      have HON3 : Hid (Only F w W4) := hide (by
        rw [hW4]
        exact (HON1.out.trans HON2.out (fun k hk hf => (HGR1.out k hf).resolve_right (by omega))).setCell 1 (fun hlt => ((HGR1.out p H1.out.fh).resolve_right (by omega))) _)
      rw [← hW4] at HD3
      have HW4 := hide hW4
      clear hW4
      go_upto_region 13 with fail
      rw [← HW4.out]
      clear HW4 k1 j1
      go_wp2_with fail
      refine (done_any W4 HD3.out HI1.out.2).mono ?_
      rintro e W5 ⟨rfl, hd5, hon5⟩
      go_wp2
      go_ret
      refine DidF.appended HOK1.out HBN1.out HI1.out HLK1.out (by rw [← HU1.out]; exact hd5) ((HON3.out.trans hon5 (fun k hk hf => ?_))) (fun k hk => ?_) (by omega)
      · rcases hf with hf | hf
        · exact (HGR1.out k hf).resolve_right (by omega)
        · have := HON1.out.size; omega
      · rcases hk with hk | hk
        · exact HGR1.out k hk
        · have := HON1.out.size; exact .inr (by omega)

end Go.Proofs.Ytfhgjnfichgdiaa
