/- Tokens that are shown begin what is read of them again: plain lists alone. -/
import Derived.Test.YtcmnfbjlhdfmgaaDoorLRefD
namespace Go.Proofs.YtcmnfbjlhdfmgaaDoor
open Go.RowKit

set_option maxRecDepth 100000 in
theorem parse_snoc (M : Nat) (c : UInt8) (hc : 48 ≤ c.toNat ∧ c.toNat ≤ 57) : ∀ (l : List UInt8) (acc a : Nat), Lib.parseUintM M acc l = .ok a → a < 1844674407370955162 → a * 10 + (c.toNat - 48) ≤ M → Lib.parseUintM M acc (l ++ [c]) = .ok (a * 10 + (c.toNat - 48))
  | [], acc, a, h, h1, h2 => by
    simp only [Lib.parseUintM] at h
    injection h with h
    subst h
    simp only [List.nil_append, Lib.parseUintM]
    rw [if_pos hc, if_neg (by omega), if_neg (by omega)]
  | d :: l, acc, a, h, h1, h2 => by
    simp only [Lib.parseUintM] at h
    simp only [List.cons_append, Lib.parseUintM]
    split at h
    · rename_i hd
      rw [if_pos hd]
      split at h
      · cases h
      · rename_i h3
        rw [if_neg h3]
        split at h
        · cases h
        · rename_i h4
          rw [if_neg h4]
          exact parse_snoc M c hc l _ a h h1 h2
    · cases h
set_option maxRecDepth 100000 in
theorem dig_byte (q : Nat) (h : q < 10) : (UInt8.ofNat (48 + q)).toNat = 48 + q := by
  have : ∀ q < 10, (UInt8.ofNat (48 + q)).toNat = 48 + q := by decide
  exact this q h
set_option maxRecDepth 100000 in
theorem parse_dec (M : Nat) (u : Nat) (hM : u ≤ M) (h : u ≤ 9223372036854775807) : Lib.parseUintM M 0 (Lib.decDigits u) = .ok u := by
  induction u using Nat.strongRecOn with
  | ind u ih =>
    rw [Lib.decDigits]
    split
    · rename_i h9
      have hb := dig_byte u h9
      simp only [Lib.parseUintM]
      rw [hb, if_pos (by omega), if_neg (by omega), if_neg (by omega)]
      congr 1; omega
    · rename_i h9
      have hb := dig_byte (u % 10) (by omega)
      have := parse_snoc M (UInt8.ofNat (48 + u % 10)) (by omega) (Lib.decDigits (u / 10)) 0 (u / 10) (ih (u / 10) (by omega) (by omega) (by omega)) (by omega) (by omega)
      rw [this, hb]
      congr 1; omega
set_option maxRecDepth 100000 in
theorem dec_all (u : Nat) : (Lib.decDigits u).all digB = true := by
  induction u using Nat.strongRecOn with
  | ind u ih =>
    rw [Lib.decDigits]
    split
    · rename_i h9
      have hb := dig_byte u h9
      simp [digB]; omega
    · rename_i h9
      have hb := dig_byte (u % 10) (by omega)
      rw [List.all_append, ih (u / 10) (by omega)]
      simp [digB]; omega
set_option maxRecDepth 100000 in
theorem dec_ne (u : Nat) : Lib.decDigits u ≠ [] := by
  rw [Lib.decDigits]
  split <;> simp
set_option maxRecDepth 100000 in
theorem nDigits_le : ∀ (k u : Nat), u < 10 ^ (k + 1) → Lib.nDigits u ≤ k + 1
  | 0, u, h => by rw [Lib.nDigits_small (by simpa using h)]; omega
  | k + 1, u, h => by
    by_cases h9 : u < 10
    · rw [Lib.nDigits_small h9]; omega
    · rw [Lib.nDigits_big h9]
      have := nDigits_le k (u / 10) (by rw [Nat.pow_succ] at h; omega)
      omega
set_option maxRecDepth 100000 in
theorem dec_len (u : Nat) (h : u ≤ 9223372036854775807) : (Lib.decDigits u).length ≤ 19 := by
  rw [Lib.decDigits_length]
  exact nDigits_le 18 u (by have : (10 : Nat) ^ (18 + 1) = 10000000000000000000 := by decide
                            omega)
/-- what ends a token -/
def EndB (l : List UInt8) : Prop := l = [] ∨ ∃ c r, l = c :: r ∧ (c = 32 ∨ c = 10)
set_option maxRecDepth 100000 in
theorem runN_app (p : UInt8 → Bool) : ∀ (l r : List UInt8), l.all p = true → runN p (l ++ r) = l.length + runN p r
  | [], r, _ => by simp
  | c :: l, r, h => by
    simp only [List.all_cons, Bool.and_eq_true] at h
    rw [List.cons_append, runN_cons, if_pos h.1, runN_app p l r h.2, List.length_cons]
    omega
set_option maxRecDepth 100000 in
theorem runN_end (p : UInt8 → Bool) (h1 : p 32 = false) (h2 : p 10 = false) {r : List UInt8} (h : EndB r) : runN p r = 0 := by
  rcases h with rfl | ⟨c, r, rfl, rfl | rfl⟩
  · rfl
  · rw [runN_cons, h1]; rfl
  · rw [runN_cons, h2]; rfl
set_option maxRecDepth 100000 in
theorem digM_back (u : Nat) (h : u ≤ 9223372036854775807) {r : List UInt8} (hr : EndB r) : digM (Lib.decDigits u ++ r) = ((u : Int), (Lib.decDigits u).length) := by
  have hrun : runN digB (Lib.decDigits u ++ r) = (Lib.decDigits u).length := by rw [runN_app _ _ _ (dec_all u), runN_end _ rfl rfl hr]; rfl
  have h19 := dec_len u h
  have hp : Lib.parseIntB 64 (Lib.decDigits u) = .ok (u : Int) := by
    have hd := dec_all u
    have hne := dec_ne u
    have hpm := parse_dec (2 ^ 64 - 1) u (by omega) h
    generalize Lib.decDigits u = l at *
    cases l with
    | nil => exact absurd rfl hne
    | cons c l =>
      simp only [List.all_cons, Bool.and_eq_true, digB, decide_eq_true_eq] at hd
      simp only [Lib.parseIntB]
      rw [if_neg (by omega)]
      unfold Lib.parseUintB
      rw [if_neg hne, hpm]
      dsimp only
      rw [if_neg (by omega), if_neg (by omega), if_neg (by omega)]
  have := digM_ok (l := Lib.decDigits u ++ r) (v := (u : Int)) (by
    rw [hrun]
    rintro (h | ⟨c, h1, h2⟩)
    · omega
    · rw [List.getElem?_append_right (Nat.le_refl _), Nat.sub_self] at h1
      rcases hr with rfl | ⟨d, r, rfl, rfl | rfl⟩
      · simp at h1
      · obtain rfl : 32 = c := by simpa using h1
        revert h2; decide
      · obtain rfl : 10 = c := by simpa using h1
        revert h2; decide) (by rw [hrun, List.take_left]; exact hp)
  rw [this, hrun]
set_option maxRecDepth 100000 in
theorem inM_back : ∀ (x r : List UInt8), inM (quoL x ++ 34 :: r) = some (x, (quoL x).length + 1)
  | [], r => by rw [quoL, List.nil_append, inM_quote _ _ rfl]; rfl
  | c :: x, r => by
    rw [quoL]
    by_cases hm : mrkB c = true
    · rw [if_pos hm, List.cons_append, List.cons_append, inM_esc _ _ _ rfl, if_pos hm, inM_back x r]
      rfl
    · rw [if_neg hm, List.cons_append, inM_plain _ _ (by simp [mrkB] at hm; exact hm.1) (by simp [mrkB] at hm; exact hm.2), inM_back x r]
      rfl
set_option maxRecDepth 100000 in
theorem fsign_back (s : List UInt8) (hs : s ∈ signsR) {r : List UInt8} (hr : EndB r) : firstM (s ++ r) = (⟨5, s, 0⟩, s.length) := by
  simp only [signsR, List.mem_cons, List.not_mem_nil, or_false] at hs
  rcases hr with rfl | ⟨c, r, rfl, rfl | rfl⟩ <;>
  ( rcases hs with rfl | rfl | rfl | rfl | rfl | rfl | rfl | rfl | rfl | rfl | rfl | rfl | rfl | rfl | rfl | rfl | rfl | rfl <;> rfl)
end Go.Proofs.YtcmnfbjlhdfmgaaDoor
