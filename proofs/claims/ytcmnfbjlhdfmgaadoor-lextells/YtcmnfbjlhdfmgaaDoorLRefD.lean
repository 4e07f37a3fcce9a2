/- The reference's digits. -/
import Derived.Test.YtcmnfbjlhdfmgaaDoorLShowP
import Derived.Test.YtcmnfbjlhdfmgaaDoorLRefS
import Derived.Lib.ItoaLen
namespace Go.Proofs.YtcmnfbjlhdfmgaaDoor
open Go.RowKit

set_option maxRecDepth 100000 in
theorem st_append (a b : List UInt8) : st a ++ st b = st (a ++ b) := by
  apply ByteArray.ext
  simp [st]
set_option maxRecDepth 100000 in
theorem conv_one (w : World) (g : Nat) (c : UInt8) (cp : Nat) (hg : w.heap[g]? = some (.cells #[.int .u8 (c.toNat : Int)] 5 (0, 0))) : (convert 36 9 (.slice (some ⟨g, 0, none⟩) 1 cp)).run Tryd.prog w = .ok (.string (st [c])) w :=
  run_convert_bytes_back (P := Tryd.prog) w 36 9 5 ⟨g, 0, none⟩ cp [c] Tryd.underlying36 Tryd.underlying5 Tryd.underlying9 (fun j hj => by
    obtain rfl : j = 0 := by simpa using hj
    rw [Addr.add_mid, cell_block hg]
    rfl)
set_option maxRecDepth 100000 in
theorem wrap8 (q : Nat) (h : q < 10) : IntKind.u8.wrap (48 + (q : Int)) = ((UInt8.ofNat (48 + q)).toNat : Int) := by
  have : ∀ q : Nat, q < 10 → IntKind.u8.wrap (48 + (q : Int)) = ((UInt8.ofNat (48 + q)).toNat : Int) := by decide
  exact this q h
set_option maxRecDepth 100000 in
set_option maxHeartbeats 1000000 in
theorem digits_ref (w : World) (n : Nat) (hn : n ≤ 9223372036854775807) : Calls Tryd.prog 28 #[.int .i64 (n : Int)] w fun e w' => e = .returned (.string (st (Lib.decDigits n))) ∧ Below w.heap.size w w' := by
  obtain ⟨R, hR⟩ : ∃ R, Lib.decDigits n = R := ⟨_, rfl⟩
  have HRl : Hid (R.length ≤ 100) := Lib.hid (by
    have := Lib.itoa_length_le n (by omega) (by omega)
    rw [Lib.itoa_nonneg, hR] at this
    omega)
  rw [hR]
  have HC := Lib.hid conv_one
  go_enter Tryd.func28, Tryd.ntmps28
  go_wp2_with fail
  go_loopw [0, 3] (fun i s wr => ∃ (q : Nat) (l : List UInt8), q ≤ 9223372036854775807 ∧ i = .int .i64 (q : Int) ∧ s = .string (st l) ∧ R = Lib.decDigits q ++ l ∧ Below w.heap.size w wr) (fun i _ _ => (intOf i).toNat)
  case atStart => exact ⟨n, [], hn, rfl, rfl, by simp [hR], Below.refl _ _⟩
  case round =>
    obtain ⟨q, l, hq, rfl, rfl, hl, hb⟩ := hrel
    clear hR
    have HL := Lib.hid hl
    have HB := Lib.hid hb
    clear hl hb
    have hm : (q : Int).tmod 10 = ((q % 10 : Nat) : Int) := by rw [Int.tmod_eq_emod_of_nonneg (by omega)]; rfl
    have hd : (q : Int).tdiv 10 = ((q / 10 : Nat) : Int) := by rw [Int.tdiv_eq_ediv_of_nonneg (by omega)]; rfl
    by_cases h9 : 9 < q
    · have d9 : decide ((9 : Int) < (q : Int)) = true := by simp; omega
      have hw8 := wrap8 (q % 10) (by omega)
      have HQ : Hid (R = Lib.decDigits (q / 10) ++ ([UInt8.ofNat (48 + q % 10)] ++ l)) := Lib.hid (by rw [HL.out, Lib.decDigits, dif_neg (by omega), List.append_assoc])
      clear HL
      generalize UInt8.ofNat (48 + q % 10) = c at *
      obtain ⟨m, hmm⟩ : ∃ m, q % 10 = m := ⟨_, rfl⟩
      obtain ⟨d, hdd⟩ : ∃ d, q / 10 = d := ⟨_, rfl⟩
      have hm10 : m < 10 := by omega
      have hdq : d < q := by omega
      rw [hmm] at hm hw8
      rw [hdd] at hd HQ
      clear hmm hdd
      have hcv := HC.out (wr.alloc (.cells #[.int .u8 (c.toNat : Int)] 5 (0, 0))) wr.heap.size c 1 (heap_alloc_new _ _)
      have hap := st_append [c] l
      have hno : ¬ (9223372036854775807 < (st [c]).size + (st l).size) := by
        have h1 := HRl.out
        rw [HQ.out] at h1
        simp only [List.length_append, List.length_singleton] at h1
        rw [size_st, size_st, List.length_singleton]
        omega
      go_wp2_with fail
      go_roundw
      case rel => exact ⟨d, [c] ++ l, by omega, by go_num, by first | rfl | exact congrArg _ hap, HQ.out, HB.out.alloc (by have := HB.out.size; omega) _⟩
      case measure => simp [intOf]; omega
    · have d9 : decide ((9 : Int) < (q : Int)) = false := by simp; omega
      have hw8 := wrap8 q (by omega)
      have HQ : Hid (R = [UInt8.ofNat (48 + q)] ++ l) := Lib.hid (by rw [HL.out, Lib.decDigits, dif_pos (by omega)])
      clear HL
      generalize UInt8.ofNat (48 + q) = c at *
      have hcv := HC.out (wr.alloc (.cells #[.int .u8 (c.toNat : Int)] 5 (0, 0))) wr.heap.size c 1 (heap_alloc_new _ _)
      have hap := st_append [c] l
      have hno : ¬ (9223372036854775807 < (st [c]).size + (st l).size) := by
        have h1 := HRl.out
        rw [HQ.out] at h1
        simp only [List.length_append, List.length_singleton] at h1
        rw [size_st, size_st, List.length_singleton]
        omega
      go_wp2_with fail
      go_ret
      exact ⟨by rw [HQ.out, ← hap]; first | rfl | skip, HB.out.alloc (by have := HB.out.size; omega) _⟩
end Go.Proofs.YtcmnfbjlhdfmgaaDoor
