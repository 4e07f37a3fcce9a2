/- The text behind which the reference lays its end: sums. -/
import Derived.Test.YtmegncaadglhmaaDoorRefBlk
import Derived.Test.YtmegncaadglhmaaDoorFinish
namespace Go.Proofs.YtmegncaadglhmaaDoor
open Go.RowKit

/-- the last j digits of m to the base of 256, the greatest first -/
def tb (m : Nat) : Nat → List UInt8
  | 0 => []
  | j + 1 => UInt8.ofNat (m / 256 ^ j % 256) :: tb m j
theorem length_tb (m : Nat) : ∀ j, (tb m j).length = j
  | 0 => rfl
  | j + 1 => by simp [tb, length_tb m j]
theorem tb_zero (m : Nat) : ∀ (d j : Nat), m / 256 ^ j = 0 → tb m (j + d) = List.replicate d 0 ++ tb m j
  | 0, j, _ => rfl
  | d + 1, j, h => by
    have ih := tb_zero m d j h
    show UInt8.ofNat (m / 256 ^ (j + d) % 256) :: tb m (j + d) = _
    have hz : m / 256 ^ (j + d) = 0 := by rw [Nat.pow_add, ← Nat.div_div_eq_div_mul, h, Nat.zero_div]
    rw [hz, ih, List.replicate_succ]
    rfl
theorem u8_eq {a b : Nat} (h : a % 256 = b % 256) : UInt8.ofNat a = UInt8.ofNat b := UInt8.toNat_inj.1 (by simpa [UInt8.toNat_ofNat'] using h)
theorem len8_tb (N : Nat) (h : N ≤ 100000000000) : len8 N = tb (8 * N) 8 := by
  simp only [len8, bytes4, tb, byteOf, BitVec.toNat_ofNat, List.cons_append, List.nil_append, List.cons.injEq, and_true, Nat.reducePow, Nat.reduceSub, Nat.reduceMul]
  refine ⟨u8_eq ?_, u8_eq ?_, u8_eq ?_, u8_eq ?_, u8_eq ?_, u8_eq ?_, u8_eq ?_, u8_eq ?_⟩ <;> omega
/-- the text with its end when j digits are laid -/
def allB (l : List UInt8) (j : Nat) : List UInt8 := l ++ 0x80 :: (List.replicate (64 * ((l.length + 72) / 64) - l.length - 1 - j) 0 ++ tb (8 * l.length) j)
theorem length_allB (l : List UInt8) (j : Nat) (hj : j ≤ 8) : (allB l j).length = 64 * ((l.length + 72) / 64) := by
  simp only [allB, List.length_append, List.length_cons, List.length_replicate, length_tb]; omega
theorem allB_end (l : List UInt8) (j : Nat) (hj : j ≤ 8) (h : 8 * l.length / 256 ^ j = 0) (hl : l.length ≤ 100000000000) : allB l j = l ++ padOf l.length ++ len8 l.length := by
  have e := tb_zero _ (8 - j) j h
  rw [show j + (8 - j) = 8 by omega] at e
  rw [len8_tb _ hl, e]
  unfold allB padOf
  simp only [List.append_assoc, List.cons_append]
  congr 2
  rw [← List.append_assoc, List.replicate_append_replicate]
  congr 2
  omega
theorem allB_step (l : List UInt8) (j : Nat) (hj : j < 8) : (allB l j).set (64 * ((l.length + 72) / 64) - 1 - j) (UInt8.ofNat (8 * l.length / 256 ^ j % 256)) = allB l (j + 1) := by
  unfold allB
  obtain ⟨q, hq⟩ : ∃ q, 64 * ((l.length + 72) / 64) - l.length - 1 - j = q + 1 := ⟨64 * ((l.length + 72) / 64) - l.length - 1 - j - 1, by omega⟩
  rw [hq, show 64 * ((l.length + 72) / 64) - l.length - 1 - (j + 1) = q by omega, show 64 * ((l.length + 72) / 64) - 1 - j = l.length + (q + 1) by omega]
  rw [List.set_append_right _ _ (by omega), show l.length + (q + 1) - l.length = q + 1 by omega, List.set_cons_succ, List.replicate_succ', List.append_assoc, List.set_append_right _ _ (by simp)]
  simp [tb]
theorem allB_start (l : List UInt8) : ((l ++ List.replicate (64 * ((l.length + 72) / 64) - l.length) 0).set l.length 0x80) = allB l 0 := by
  obtain ⟨q, hq⟩ : ∃ q, 64 * ((l.length + 72) / 64) - l.length = q + 1 := ⟨64 * ((l.length + 72) / 64) - l.length - 1, by omega⟩
  unfold allB
  rw [hq, show q + 1 - 1 - 0 = q by omega, List.set_append_right _ _ (by omega), Nat.sub_self, List.replicate_succ]
  simp [tb]
theorem wordsOf_all (l : List UInt8) (L : List UInt8) (hL : L = l ++ padOf l.length ++ len8 l.length) (hlen : L.length = 64 * ((l.length + 72) / 64)) : finWords l = hw L ((l.length + 72) / 64) := by
  unfold finWords wordsOf
  rw [← hL, if_neg (by omega), hlen, Nat.mul_div_cancel_left _ (by omega)]
/-- a byte's t bits that come first -/
def pby (b t : Nat) : Nat := b / 2 ^ (8 - t) * 2 ^ (8 - t)
/-- the bytes when i bits are laid -/
def outF (F : List UInt8) (i : Nat) : List UInt8 := (List.range 32).map fun j => UInt8.ofNat (pby (F.getD j 0).toNat (min 8 (i - 8 * j)))
theorem length_outF (F : List UInt8) (i : Nat) : (outF F i).length = 32 := by simp [outF]
theorem outF_zero (F : List UInt8) : outF F 0 = List.replicate 32 0 := by
  apply List.ext_getElem?
  intro j
  by_cases hj : j < 32
  · have hz : pby (F.getD j 0).toNat (min 8 (0 - 8 * j)) = 0 := by
      have := (F.getD j 0).toNat_lt
      simp only [pby, Nat.zero_sub, Nat.min_zero, Nat.sub_zero]
      omega
    simp only [outF, List.getElem?_map, List.getElem?_range hj, Option.map_some, List.getElem?_replicate, hj, if_true, hz]
    rfl
  · simp [outF, hj]
theorem outF_end (F : List UInt8) (h : F.length = 32) : outF F 256 = F := by
  apply List.ext_getElem?
  intro j
  by_cases hj : j < 32
  · have hz : pby (F.getD j 0).toNat (min 8 (256 - 8 * j)) = (F.getD j 0).toNat := by
      rw [show min 8 (256 - 8 * j) = 8 by omega]; simp [pby]
    simp only [outF, List.getElem?_map, List.getElem?_range hj, Option.map_some, hz]
    simp [List.getD, h, hj]
  · simp [outF, hj, h]
theorem pby_step : ∀ b, b < 256 → ∀ t, t < 8 → (b.testBit (7 - t) = true → pby b t ||| (128 >>> t) = pby b (t + 1)) ∧ (b.testBit (7 - t) = false → pby b (t + 1) = pby b t) := by decide +kernel
theorem pby_lt (b t : Nat) (h : b < 256) : pby b t < 256 := Nat.lt_of_le_of_lt (Nat.div_mul_le_self _ _) h
theorem outF_get (F : List UInt8) (i j : Nat) (hj : j < 32) : (outF F i)[j]? = some (UInt8.ofNat (pby (F.getD j 0).toNat (min 8 (i - 8 * j)))) := by
  simp [outF, hj]
theorem outF_keep (F : List UInt8) (i : Nat) (_ : i < 256) (hb : (F.getD (i / 8) 0).toNat.testBit (7 - i % 8) = false) : outF F (i + 1) = outF F i := by
  apply List.ext_getElem?
  intro j
  by_cases hj : j < 32
  · rw [outF_get _ _ _ hj, outF_get _ _ _ hj]
    congr 2
    by_cases hji : j = i / 8
    · subst hji
      rw [show min 8 (i + 1 - 8 * (i / 8)) = i % 8 + 1 by omega, show min 8 (i - 8 * (i / 8)) = i % 8 by omega]
      exact (pby_step _ (F.getD (i / 8) 0).toNat_lt (i % 8) (by omega)).2 hb
    · rw [show min 8 (i + 1 - 8 * j) = min 8 (i - 8 * j) by omega]
  · simp [outF, hj]
theorem outF_or (F : List UInt8) (i : Nat) (hi : i < 256) (hb : (F.getD (i / 8) 0).toNat.testBit (7 - i % 8) = true) (x : UInt8) (hx : x.toNat = ((outF F i).getD (i / 8) 0).toNat ||| (128 >>> (i % 8))) : (outF F i).set (i / 8) x = outF F (i + 1) := by
  have hF := (F.getD (i / 8) 0).toNat_lt
  have hcur : ((outF F i).getD (i / 8) 0).toNat = pby (F.getD (i / 8) 0).toNat (i % 8) := by
    rw [List.getD, outF_get _ _ _ (by omega), show min 8 (i - 8 * (i / 8)) = i % 8 by omega]
    simp only [Option.getD_some, UInt8.toNat_ofNat']
    exact Nat.mod_eq_of_lt (pby_lt _ _ hF)
  rw [hcur, (pby_step _ hF (i % 8) (by omega)).1 hb] at hx
  have hx' : x = UInt8.ofNat (pby (F.getD (i / 8) 0).toNat (i % 8 + 1)) := UInt8.toNat_inj.1 (by rw [hx, UInt8.toNat_ofNat']; exact (Nat.mod_eq_of_lt (pby_lt _ _ hF)).symm)
  apply List.ext_getElem?
  intro j
  by_cases hj : j < 32
  · by_cases hji : i / 8 = j
    · subst hji
      rw [List.getElem?_set_self (by rw [length_outF]; omega), outF_get _ _ _ (by omega), hx', show min 8 (i + 1 - 8 * (i / 8)) = i % 8 + 1 by omega]
    · rw [List.getElem?_set_ne hji, outF_get _ _ _ hj, outF_get _ _ _ hj, show min 8 (i + 1 - 8 * j) = min 8 (i - 8 * j) by omega]
  · rw [List.getElem?_eq_none (by simp [length_outF]; omega), List.getElem?_eq_none (by rw [length_outF]; omega)]
/-- the bits of a fingerprint's words and of its bytes -/
theorem byteOf_bit (x : BitVec 32) (r t : Nat) (hr : r < 4) (ht : t < 8) : (byteOf x r).toNat.testBit (7 - t) = x.getLsbD (31 - (8 * r + t)) := by
  unfold byteOf
  rw [UInt8.toNat_ofNat', show (2 : Nat) ^ 8 = 2 ^ 8 from rfl, Nat.testBit_mod_two_pow, Nat.testBit_div_two_pow]
  simp only [show 7 - t < 8 by omega, decide_true, Bool.true_and]
  show x.toNat.testBit _ = x.toNat.testBit _
  congr 1
  omega
theorem sha_bit (S : St8) (i : Nat) (hi : i < 256) : ((S.list.flatMap bytes4).getD (i / 8) 0).toNat.testBit (7 - i % 8) = (S.list.getD (i / 32) 0).getLsbD (31 - i % 32) := by
  have h1 : i / 8 = 4 * (i / 32) + (i % 32) / 8 := by omega
  have h2 : i % 32 = 8 * ((i % 32) / 8) + i % 8 := by omega
  have hq : i / 32 < 8 := by omega
  have hr : (i % 32) / 8 < 4 := by omega
  have key : ∀ q r, q < 8 → r < 4 → (S.list.flatMap bytes4).getD (4 * q + r) 0 = byteOf (S.list.getD q 0) r := by
    intro q r hq hr
    rcases (show q = 0 ∨ q = 1 ∨ q = 2 ∨ q = 3 ∨ q = 4 ∨ q = 5 ∨ q = 6 ∨ q = 7 by omega) with rfl | rfl | rfl | rfl | rfl | rfl | rfl | rfl <;>
      (rcases (show r = 0 ∨ r = 1 ∨ r = 2 ∨ r = 3 by omega) with rfl | rfl | rfl | rfl <;> rfl)
  rw [h1, key _ _ hq hr, byteOf_bit _ _ _ hr (by omega), ← h2]
end Go.Proofs.YtmegncaadglhmaaDoor
