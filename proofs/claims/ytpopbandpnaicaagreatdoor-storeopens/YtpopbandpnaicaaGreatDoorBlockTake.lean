import Derived.Test.YtpopbandpnaicaaGreatDoorPack5
import Derived.Test.YtpopbandpnaicaaGreatDoorCodecGet
import Derived.Test.YtpopbandpnaicaaGreatDoorPack8
import Derived.Deep.QuietTactic
import Derived.BigQuiet
namespace Go.Proofs.YtpopbandpnaicaaGreatDoor
open Go.RowKit

def takeL (m : List UInt8) : Rec × Int × List UInt8 × Bool :=
 let m1 := behind (dec62 m).2 m
 let m2 := behind (dec64 m1).2 m1
 let m3 := behind (getOpL m2).2 m2
 (⟨0, (dec62 m).1, 0, (getOpL m2).1, zag (dec64 m3).1⟩, zag (dec64 m1).1, behind (dec64 m3).2 m3, decide ((dec64 m3).2 ≠ 0))

theorem takeL_eq (m : List UInt8) : ∃ m1 m2 m3, m1 = behind (dec62 m).2 m ∧ m2 = behind (dec64 m1).2 m1 ∧ m3 = behind (getOpL m2).2 m2 ∧ takeL m = (⟨0, (dec62 m).1, 0, (getOpL m2).1, zag (dec64 m3).1⟩, zag (dec64 m1).1, behind (dec64 m3).2 m3, decide ((dec64 m3).2 ≠ 0)) :=
 ⟨_, _, _, rfl, rfl, rfl, rfl⟩

theorem getOp_nil : (getOpL []).2 = 0 := by
 have := getOp_le []
 simpa using this

theorem behind_some {d : Nat} {l : List UInt8} (h : behind d l ≠ []) : d ≠ 0 := fun e => h (by rw [e]; rfl)

theorem dec64_some {l : List UInt8} (h : (dec64 l).2 ≠ 0) : l ≠ [] := fun e => h (by rw [e, dec64_nil])

theorem dec62_some {l : List UInt8} (h : (dec62 l).2 ≠ 0) : l ≠ [] := fun e => h (by rw [e, dec62_nil])

theorem getOp_some {l : List UInt8} (h : (getOpL l).2 ≠ 0) : l ≠ [] := fun e => h (by rw [e]; exact getOp_nil)

theorem dec62_app {l : List UInt8} (h : (dec62 l).2 ≠ 0) : l = Lib.uvarint (dec62 l).1 ++ behind (dec62 l).2 l := by
 rw [behind_pos h, dec62_take h, List.take_append_drop]

theorem dec64_app {l : List UInt8} (h : (dec64 l).2 ≠ 0) : l = Lib.uvarint (dec64 l).1 ++ behind (dec64 l).2 l := by
 rw [behind_pos h, dec64_take h, List.take_append_drop]

theorem getOp_app {l : List UInt8} (h : (getOpL l).2 ≠ 0) : l = putOpL (getOpL l).1 ++ behind (getOpL l).2 l := by
 rw [behind_pos h, (getOp_sound h).2, List.take_append_drop]

theorem take_none {m : List UInt8} (h : (takeL m).2.2.2 = false) : (takeL m).2.2.1 = [] := by
 unfold takeL at h ⊢
 simp only [decide_eq_false_iff_not, Decidable.not_not] at h ⊢
 rw [h]
 rfl

theorem take_nil : (takeL []).2.2.2 = false := by
 obtain ⟨m1, m2, m3, h1, h2, h3, he⟩ := takeL_eq []
 have e1 : m1 = [] := by rw [h1, dec62_nil]; rfl
 have e2 : m2 = [] := by rw [h2, e1, dec64_nil]; rfl
 have e3 : m3 = [] := by rw [h3, e2, getOp_nil]; rfl
 rw [he, e3]
 show decide ((dec64 []).2 ≠ 0) = false
 rw [dec64_nil]
 rfl

theorem take_there {m : List UInt8} (h : (takeL m).2.2.2 = true) :
   m = Lib.uvarint (takeL m).1.proc.toNat ++ (Lib.uvarint (Lib.zigzag (takeL m).2.1) ++ (putOpL (takeL m).1.op ++ (Lib.uvarint (Lib.zigzag (takeL m).1.resp) ++ (takeL m).2.2.1))) := by
 obtain ⟨m1, m2, m3, h1, h2, h3, he⟩ := takeL_eq m
 rw [he] at h ⊢
 simp only [decide_eq_true_eq] at h
 have n3 : (getOpL m2).2 ≠ 0 := behind_some (l := m2) (by rw [<- h3]; exact dec64_some h)
 have n2 : (dec64 m1).2 ≠ 0 := behind_some (l := m1) (by rw [<- h2]; exact getOp_some n3)
 have n1 : (dec62 m).2 ≠ 0 := behind_some (l := m) (by rw [<- h1]; exact dec64_some n2)
 have e4 := dec64_app h
 have e3 := getOp_app n3
 have e2 := dec64_app n2
 have e1 := dec62_app n1
 rw [<- h1] at e1
 rw [<- h2] at e2
 rw [<- h3] at e3
 show m = Lib.uvarint ((dec62 m).1 : Int).toNat ++ (Lib.uvarint (Lib.zigzag (zag (dec64 m1).1)) ++ (putOpL (getOpL m2).1 ++ (Lib.uvarint (Lib.zigzag (zag (dec64 m3).1)) ++ behind (dec64 m3).2 m3)))
 rw [Int.toNat_natCast, zigzag_zag, zigzag_zag]
 exact e1.trans (congrArg (Lib.uvarint (dec62 m).1 ++ ·) (e2.trans (congrArg (Lib.uvarint (dec64 m1).1 ++ ·) (e3.trans (congrArg (putOpL (getOpL m2).1 ++ ·) e4)))))

theorem take_ok (m : List UInt8) : I64 (takeL m).1.proc ∧ I64 (takeL m).2.1 ∧ OpOk (takeL m).1.op ∧ I64 (takeL m).1.resp ∧ (takeL m).1.idx = 0 ∧ (takeL m).1.seq = 0 ∧ 0 <= (takeL m).1.proc := by
 have hz : ∀ l : List UInt8, I64 (zag (dec64 l).1) := fun l => zag_i64 (dec64_lt l)
 have hd : (dec62 m).1 < 4611686018427387904 := by
   rcases dec62_cases m with e | e
   · rw [e]; decide
   · exact e.1
 have ho : ∀ l : List UInt8, OpOk (getOpL l).1 := fun l => by
   by_cases h : (getOpL l).2 = 0
   · rw [getOp_none h]
     exact ⟨⟨by decide, by decide⟩, ⟨by decide, by decide⟩, ⟨by decide, by decide⟩⟩
   · have hf := (getOp_sound h).1
     have hi := fits_i64 hf
     obtain ⟨hc0, hc1, _⟩ := hf
     refine ⟨?_, hi.1, hi.2⟩
     generalize (getOpL l).1.code = c at *
     exact ⟨by omega, by omega⟩
 obtain ⟨m1, m2, m3, h1, h2, h3, he⟩ := takeL_eq m
 have hp : I64 ((dec62 m).1 : Int) := ⟨by omega, by omega⟩
 have hp0 : (0 : Int) <= ((dec62 m).1 : Int) := by omega
 rw [he]
 exact ⟨hp, hz m1, ho m2, hz m3, rfl, rfl, hp0⟩

theorem take_le (m : List UInt8) : (takeL m).2.2.1.length <= m.length := by
 obtain ⟨m1, m2, m3, h1, h2, h3, he⟩ := takeL_eq m
 rw [he]
 have l1 := behind_le (dec62 m).2 m
 have l2 := behind_le (dec64 m1).2 m1
 have l3 := behind_le (getOpL m2).2 m2
 have l4 := behind_le (dec64 m3).2 m3
 rw [<- h1] at l1
 rw [<- h2] at l2
 rw [<- h3] at l3
 exact Nat.le_trans l4 (Nat.le_trans l3 (Nat.le_trans l2 l1))

theorem take_enc {pre : List Rec} (hl : ∀ r ∈ pre, FitsR r) {r : Rec} (hr : FitsR r) (t : List UInt8) :
   takeL (encOne pre r ++ t) = (⟨0, r.proc, 0, r.op, r.resp⟩, r.seq - lastSeq pre r.proc, t, true) := by
 have hd := diff_i64 hl hr
 have hresp := fitsR_resp hr
 obtain ⟨ho, _, _, hs0, hs1, hp0, hp1, _⟩ := id hr
 have E : encOne pre r ++ t = Lib.uvarint r.proc.toNat ++ (Lib.uvarint (Lib.zigzag (r.seq - lastSeq pre r.proc)) ++ (putOpL r.op ++ (Lib.uvarint (Lib.zigzag r.resp) ++ t))) := by
   unfold encOne
   simp only [List.append_assoc]
 rw [E]
 have n3 : (putOpL r.op).length ≠ 0 := by
   unfold putOpL
   have := uv_ne r.op.code.toNat
   rw [List.length_append]
   omega
 have d1 := dec62_uvarint r.proc.toNat (Lib.uvarint (Lib.zigzag (r.seq - lastSeq pre r.proc)) ++ (putOpL r.op ++ (Lib.uvarint (Lib.zigzag r.resp) ++ t))) (by omega)
 have d2 := dec64_uvarint (Lib.zigzag (r.seq - lastSeq pre r.proc)) (putOpL r.op ++ (Lib.uvarint (Lib.zigzag r.resp) ++ t)) (zig_lt hd)
 have d3 := getOp_put r.op ho (Lib.uvarint (Lib.zigzag r.resp) ++ t)
 have d4 := dec64_uvarint (Lib.zigzag r.resp) t (zig_lt hresp)
 unfold takeL
 simp only [d1, behind_pos (uv_ne _), List.drop_left, d2, d3, behind_pos n3, d4, zag_zigzag _ hd.1 hd.2, zag_zigzag _ hresp.1 hresp.2]
 have hpn : ((r.proc.toNat : Nat) : Int) = r.proc := by omega
 rw [hpn, decide_eq_true (uv_ne _)]

theorem run_cut_every {w : World} {ao : Option Addr} {cap : Nat} {l : List UInt8} (hr : Rd w (.slice ao l.length cap) l) (d : Nat) (hd : d <= l.length) :
   ∃ a1 c1, (∀ W, (Instr.sliceAt 53 (.slice ao l.length cap) (some (.int .i64 (d : Int))) none none).run Tryz.prog W = .ok (.slice a1 (l.drop d).length c1) W) ∧ Rd w (.slice a1 (l.drop d).length c1) (l.drop d) := by
 obtain ⟨ao', cap', hv, hlc, r⟩ := id hr
 simp only [Value.slice.injEq] at hv
 obtain ⟨rfl, _, rfl⟩ := hv
 have h2 := hr.mid d l.length cap hd (Nat.le_refl _) hlc (Nat.le_refl _)
 rw [List.take_of_length_le (by simp)] at h2
 obtain ⟨a1, c1, e1, -⟩ := id h2
 rw [e1] at h2
 refine ⟨a1, c1, fun W => ?_, h2⟩
 rw [run_sliceAt_slice W 53 _ _ _ _ under_bytes, run_slice_l W 53 ao l.length cap under_bytes .i64 (d : Int) (by omega) (by omega), elem_bytes, size_u8]
 show Result.ok (sliced ao ((d : Int)).toNat l.length cap 1) W = _
 rw [Int.toNat_natCast, e1]

end Go.Proofs.YtpopbandpnaicaaGreatDoor
