/- Contract of the landed files: Crash. -/
import Derived.Test.YtfhgjnfichgdiaaFilesI
namespace Go.Proofs.Ytfhgjnfichgdiaa
open Go.RowKit

set_option maxRecDepth 100000 in
set_option maxHeartbeats 1000000 in
theorem crash_any {F : Nat → Prop} {p : Nat} {d : Dk} {N T : Nat} (names : Int) (vk : Value) (keep : List Int) (w : World) (h : Dsk F w p d N T) (hN : N ≤ 1000000) (hT : T ≤ 1000000000) (hr : RdI w vk keep) (hkv : keep = [] ∨ ∀ k, vk.ownBlock = some k → ¬ F k) (hkl : keep.length ≤ 1000000000) :
    Calls Try.prog 17 #[ptr p, .int .i64 names, vk] w fun e w' => e = .returned (.tuple #[]) ∧ Dsk F w' p (crashD d names keep) N T ∧ Only F w w' := by
  obtain ⟨L, h, hok, hbn, hrm, hpw⟩ := h
  have HOK := hide hok
  have HBN := hide hbn
  have HI := hide (And.intro hrm hpw)
  have HRK := hide hr
  have HKV := hide hkv
  have HL := hide (loseChanges_any names w h hok hbn hN)
  obtain ⟨K, hK⟩ : ∃ K, K = shareN names d.waits.length := ⟨_, rfl⟩
  have HKK := hide hK
  rw [← hK] at HL
  have HOK1 : Hid (OkD { d with kept := dirK d K, waits := [] }) := hide (okD_kept (fs := d.files) (hok.dirs K) hok.keep)
  have HBN1 : Hid (Bnd { d with kept := dirK d K, waits := [] } N T) := hide ⟨hbn.files, by have h1 := dirK_len d K; have h2 := hbn.names; show (dirK d K).length + 0 ≤ N; omega, hbn.bytes⟩
  have HDL : Hid (∀ q ∈ dirK d K, q.2 < d.files.length) := hide (fun q hq => ((hok.dirs K).may q hq).2)
  obtain ⟨ka, kc, rfl, -⟩ := hr
  clear h hok hbn hrm hpw hkv hK
  go_enter Try.func17, Try.ntmps17
  go_wp2_with fail
  refine HL.out.mono ?_
  rintro e W1 ⟨rfl, hd1, hon1⟩
  have HLB := hide (loseBytes_any _ keep W1 hd1 rfl HOK1.out HBN1.out hN hT (HRK.out.onlyE hon1 HKV.out) HKV.out hkl)
  have HON1 := hide hon1
  clear hd1 hon1
  go_wp2_with fail
  refine HLB.out.mono ?_
  rintro e W2 ⟨rfl, ⟨L2, hd2⟩, hon2⟩
  have HD2 := hide hd2
  have HON2 := hide (HON1.out.trans hon2 (fun _ _ hf => hf))
  obtain ⟨⟨-, -, -, -, -, c5⟩, -, -, -, f5⟩ := hd2.cells
  clear hd2 hon2
  go_wp2
  go_end0
  refine ⟨rfl, ⟨L2, ?_, HOK.out.crash names keep, ⟨?_, ?_, ?_⟩, HI.out.1, ⟨by show (-9223372036854775808 : Int) ≤ -1; omega, by show (-1 : Int) ≤ 9223372036854775807; omega⟩⟩, HON2.out.setCell 5 (fun _ => HD2.out.fh) _⟩
  · have h1 := HD2.out.setHead 5 (.int .i64 (-1)) (d' := crashD d names keep) (u' := (sumB (crashF keep (dirK d K) 0 d.files) (dirK d K) : Nat)) (by rw [HKK.out]; exact ⟨rfl, rfl, rfl⟩) rfl
    have e1 : usedD (crashD d names keep) = sumB (crashF keep (dirK d K) 0 d.files) (dirK d K) := by rw [HKK.out]; rfl
    rw [e1]
    exact h1
  · have := HBN.out.files
    show (crashF keep _ 0 d.files).length ≤ N
    rw [crashF_length]
    exact this
  · have h1 := dirK_len d (shareN names d.waits.length)
    have h2 := HBN.out.names
    show (dirK d (shareN names d.waits.length)).length + 0 ≤ N
    omega
  · intro x hx
    refine bytes_crashF keep (dirK d K) 0 d.files HBN.out.bytes HDL.out x ?_
    rw [HKK.out]
    exact hx

end Go.Proofs.Ytfhgjnfichgdiaa
