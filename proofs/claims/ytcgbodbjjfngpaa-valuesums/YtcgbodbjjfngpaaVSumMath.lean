/- The program's sums, differences and products are the document's: plain numbers. -/
import Derived.Test.YtcgbodbjjfngpaaVSub
import Derived.Test.YtcgbodbjjfngpaaVSums
namespace Go.Proofs.Ytcgbodbjjfngpaa
open Go.RowKit

/-- a number of 64 bits -/
def in64 (n : Int) : Prop := -9223372036854775808 ≤ n ∧ n ≤ 9223372036854775807
theorem sumF_is {a b : Int} (ha : in64 a) (hb : in64 b) : sumF a b = okW (a + b) := by
  unfold in64 at ha hb
  rw [okW_is _ (by omega) (by omega), sumF]
  unfold wrap64
  by_cases h1 : 0 < b
  · rw [decide_eq_true h1]
    by_cases h2 : -9223372036854775808 ≤ a + b ∧ a + b ≤ 9223372036854775807
    · rw [decide_eq_true h2, decide_eq_true (by omega)]; rfl
    · rw [decide_eq_false h2, decide_eq_false (by omega)]; rfl
  · rw [decide_eq_false h1]
    by_cases h2 : -9223372036854775808 ≤ a + b ∧ a + b ≤ 9223372036854775807
    · rw [decide_eq_true h2, decide_eq_false (by omega)]; rfl
    · rw [decide_eq_false h2, decide_eq_true (by omega)]; rfl
theorem difF_is {a b : Int} (ha : in64 a) (hb : in64 b) : difF a b = okW (a + -b) := by
  unfold in64 at ha hb
  rw [okW_is _ (by omega) (by omega), difF]
  unfold wrap64
  by_cases h1 : 0 < b
  · rw [decide_eq_true h1]
    by_cases h2 : -9223372036854775808 ≤ a + -b ∧ a + -b ≤ 9223372036854775807
    · rw [decide_eq_true h2, decide_eq_true (by omega)]; rfl
    · rw [decide_eq_false h2, decide_eq_false (by omega)]; rfl
  · rw [decide_eq_false h1]
    by_cases h2 : -9223372036854775808 ≤ a + -b ∧ a + -b ≤ 9223372036854775807
    · rw [decide_eq_true h2, decide_eq_false (by omega)]; rfl
    · rw [decide_eq_false h2, decide_eq_true (by omega)]; rfl
theorem timeR_is (n : Int) (f : Bool) : timeR n f = if (!f || (decide (n < 0) || decide (1099511627776 < n))) = true then (0, 0, 7) else (4, n, 0) := by
  unfold timeR timeB
  cases f
  · rfl
  · by_cases h1 : n < 0
    · simp [h1]
      intro h; omega
    · by_cases h2 : 1099511627776 < n
      · simp [h2]
      · simp [show 0 ≤ n by omega, show n ≤ 1099511627776 by omega, show ¬ n < 0 by omega, show ¬ 1099511627776 < n by omega]
theorem numR_is (n : Int) (f : Bool) : numR n f = if (!f) = true then (0, 0, 7) else (2, n, 0) := by cases f <;> rfl
theorem add_is {k1 i1 k2 i2 : Int} (h1 : in64 i1) (h2 : in64 i2) : addR true true k1 i1 k2 i2 = sumsR k1 i1 k2 i2 false := by
  unfold addR sumsR
  rw [sumF_is h1 h2, timeR_is, numR_is]
  simp only [nW_is, Bool.not_true, Bool.or_self, Bool.false_eq_true, if_false, Bool.false_and, Bool.or_false]
  by_cases e1 : (k1 == 4 && k2 == 2) = true
  · have : (k1 == 2 && k2 == 2) = false := by simp at e1 ⊢; omega
    simp only [e1, this, if_true, Bool.false_eq_true, if_false]
  · simp only [e1, Bool.false_eq_true, if_false]
theorem sub_is {k1 i1 k2 i2 : Int} (h1 : in64 i1) (h2 : in64 i2) : subR true true k1 i1 k2 i2 = sumsR k1 i1 k2 i2 true := by
  unfold subR sumsR
  rw [difF_is h1 h2, timeR_is, numR_is, show i1 - i2 = i1 + -i2 by omega]
  simp only [nW_is, Bool.not_true, Bool.or_self, Bool.false_eq_true, if_false, if_true, Bool.true_and]
  by_cases e1 : (k1 == 4 && k2 == 2) = true
  · have : (k1 == 2 && k2 == 2 || k1 == 4 && k2 == 4) = false := by simp at e1 ⊢; omega
    simp only [e1, this, if_true, Bool.false_eq_true, if_false]
  · simp only [e1, Bool.false_eq_true, if_false]
theorem prod_bd {a b : Int} (ha : in64 a) (hb : in64 b) : -170141183460469231731687303715884105728 ≤ a * b ∧ a * b < 170141183460469231731687303715884105728 := by
  unfold in64 at ha hb
  have h : (a * b).natAbs ≤ 9223372036854775808 * 9223372036854775808 := by
    rw [Int.natAbs_mul]
    exact Nat.mul_le_mul (by omega) (by omega)
  omega
theorem wrap64_eq (p : Int) : ∃ t : Int, wrap64 p = p + 18446744073709551616 * t := ⟨-((p + 9223372036854775808) / 18446744073709551616), by unfold wrap64; omega⟩
theorem tdiv_bd {n b : Int} (hn : in64 n) (h1 : ¬ b = -1) (h0 : ¬ b = 0) : in64 (n.tdiv b) := by
  unfold in64 at *
  have hab : (n.tdiv b).natAbs = n.natAbs / b.natAbs := Int.natAbs_tdiv n b
  rcases Int.lt_or_le 0 b with h | h
  · have hle : n.natAbs / b.natAbs ≤ n.natAbs := Nat.div_le_self _ _
    rcases Int.lt_or_le n 0 with hn0 | hn0
    · have : n.tdiv b ≤ 0 := by
        have := Int.tdiv_nonneg (a := -n) (b := b) (by omega) (by omega)
        rw [Int.neg_tdiv] at this; omega
      omega
    · omega
  · have h2 : 2 ≤ b.natAbs := by omega
    have hle : n.natAbs / b.natAbs ≤ n.natAbs / 2 := Nat.div_le_div_left h2 (by omega)
    omega
theorem prodF_is {a b : Int} (ha : in64 a) (hb : in64 b) : prodF a b = okW (a * b) := by
  have hbd := prod_bd ha hb
  rw [okW_is _ hbd.1 hbd.2, prodF]
  by_cases h0 : a = 0 ∨ b = 0
  · rw [if_pos h0]
    have : a * b = 0 := by rcases h0 with rfl | rfl <;> simp
    rw [this]; rfl
  rw [if_neg h0]
  by_cases h1 : b = -1
  · rw [if_pos h1]
    subst h1
    unfold in64 at ha
    by_cases hm : a = -9223372036854775808
    · subst hm; decide
    · have e1 : (a == -9223372036854775808) = false := by simpa using hm
      rw [e1, decide_eq_true (by omega)]; rfl
  rw [if_neg h1]
  have hb0 : ¬ b = 0 := fun h => h0 (.inr h)
  have hn := wrap64_bd (a * b)
  have htd := tdiv_bd (n := wrap64 (a * b)) hn h1 hb0
  rw [IntWalk.wrap64_in _ htd]
  by_cases hr : -9223372036854775808 ≤ a * b ∧ a * b ≤ 9223372036854775807
  · rw [decide_eq_true hr, IntWalk.wrap64_in _ hr, Int.mul_tdiv_cancel _ hb0]; simp
  · rw [decide_eq_false hr]
    have : ¬ (wrap64 (a * b)).tdiv b = a := by
      intro he
      obtain ⟨t, ht⟩ := wrap64_eq (a * b)
      have hm := Int.mul_tdiv_add_tmod (wrap64 (a * b)) b
      rw [he] at hm
      have hlt : ((wrap64 (a * b)).tmod b).natAbs < b.natAbs := by rw [Int.natAbs_tmod]; exact Nat.mod_lt _ (by omega)
      unfold in64 at hb
      have hcomm : b * a = a * b := Int.mul_comm _ _
      rw [hcomm] at hm
      generalize (wrap64 (a * b)).tmod b = r at *
      generalize wrap64 (a * b) = n at *
      generalize a * b = p at *
      omega
    simpa using this
end Go.Proofs.Ytcgbodbjjfngpaa
