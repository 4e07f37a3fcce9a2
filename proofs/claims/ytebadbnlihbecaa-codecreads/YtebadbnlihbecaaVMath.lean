/- The order of numbers and texts, as plain functions. No program is named here. -/
import Derived.WalkKit
namespace Go.Proofs.Ytebadbnlihbecaa

/-- -1, 0, 1 -/
def cmpI (a b : Int) : Int := if a < b then -1 else if b < a then 1 else 0
def cmpT : List UInt8 → List UInt8 → Int
  | [], [] => 0
  | [], _ :: _ => -1
  | _ :: _, [] => 1
  | a :: x, b :: y => if a < b then -1 else if b < a then 1 else cmpT x y
theorem cmpT_range : ∀ x y, cmpT x y = -1 ∨ cmpT x y = 0 ∨ cmpT x y = 1
  | [], [] => by simp [cmpT]
  | [], _ :: _ => by simp [cmpT]
  | _ :: _, [] => by simp [cmpT]
  | a :: x, b :: y => by
    have := cmpT_range x y
    unfold cmpT; split
    · simp
    · split
      · simp
      · exact this
theorem u8_eq_of {a b : UInt8} (h : ¬ a < b) (h' : ¬ b < a) : a = b := by
  rw [UInt8.lt_iff_toNat_lt] at h h'
  exact UInt8.toNat_inj.1 (by omega)
theorem less_cmpT : ∀ x y, Op.bytesLess x y = decide (cmpT x y = -1)
  | [], [] => by simp [cmpT, Op.bytesLess]
  | [], _ :: _ => by simp [cmpT, Op.bytesLess]
  | _ :: _, [] => by simp [cmpT, Op.bytesLess]
  | a :: x, b :: y => by
    have ih := less_cmpT x y
    unfold cmpT Op.bytesLess
    by_cases h : a < b
    · simp [h]
    · rw [if_neg h]
      by_cases h' : b < a
      · rw [if_pos h']
        have hne : a ≠ b := by intro e; subst e; exact h h'
        simp [h, hne]
      · rw [if_neg h']
        have he := u8_eq_of h h'
        subst he
        simp [h, ih]
theorem eq_cmpT : ∀ x y, (x == y) = decide (cmpT x y = 0)
  | [], [] => by simp [cmpT]
  | [], _ :: _ => by simp [cmpT]
  | _ :: _, [] => by simp [cmpT]
  | a :: x, b :: y => by
    have ih := eq_cmpT x y
    unfold cmpT
    by_cases h : a < b
    · have hne : a ≠ b := by intro e; subst e; rw [UInt8.lt_iff_toNat_lt] at h; omega
      simp [h, hne]
    · rw [if_neg h]
      by_cases h' : b < a
      · rw [if_pos h']
        have hne : a ≠ b := by intro e; subst e; exact h h'
        simp [hne]
      · rw [if_neg h']
        have he := u8_eq_of h h'
        subst he
        simpa using ih
theorem cmpT_step (x y : List UInt8) (k : Nat) (hx : k < x.length) (hy : k < y.length) :
    cmpT (x.drop k) (y.drop k) = if x[k] < y[k] then -1 else if y[k] < x[k] then 1 else cmpT (x.drop (k + 1)) (y.drop (k + 1)) := by
  rw [List.drop_eq_getElem_cons hx, List.drop_eq_getElem_cons hy, cmpT]
theorem cmpT_end (x y : List UInt8) (k : Nat) (hx : k ≤ x.length) (hy : k ≤ y.length) (h : k = x.length ∨ k = y.length) : cmpT (x.drop k) (y.drop k) = cmpI x.length y.length := by
  rcases h with rfl | rfl
  · rw [List.drop_length]
    rcases Nat.lt_or_ge x.length y.length with h | h
    · obtain ⟨b, l, e⟩ := List.exists_cons_of_ne_nil (show y.drop x.length ≠ [] by simp; omega)
      rw [e]; unfold cmpI; rw [if_pos (by omega)]; rfl
    · rw [List.drop_of_length_le (by omega)]; unfold cmpI; rw [if_neg (by omega), if_neg (by omega)]; rfl
  · rw [List.drop_length]
    rcases Nat.lt_or_ge y.length x.length with h | h
    · obtain ⟨b, l, e⟩ := List.exists_cons_of_ne_nil (show x.drop y.length ≠ [] by simp; omega)
      rw [e]; unfold cmpI; rw [if_neg (by omega), if_pos (by omega)]; rfl
    · rw [List.drop_of_length_le (by omega)]; unfold cmpI; rw [if_neg (by omega), if_neg (by omega)]; rfl
end Go.Proofs.Ytebadbnlihbecaa
