/- What the reference says of a beginning is what the program says: plain lists alone. -/
import Derived.Test.YtcmnfbjlhdfmgaaDoorLRefEq3
namespace Go.Proofs.YtcmnfbjlhdfmgaaDoor
open Go.RowKit

set_option maxRecDepth 100000 in
theorem same_sign {c : UInt8} (r : List UInt8) (hl : letB c = false) (hg : digB c = false) (h64 : c.toNat ≠ 64) (h34 : c.toNat ≠ 34) : Same1 c r := by
  have hF : firstM (c :: r) = signM (c :: r) := by unfold firstM; dsimp only; rw [if_neg (by rw [hl]; decide), if_neg (by rw [hg]; decide), if_neg h34, if_neg h64]
  have hL0 : lenR c r = if signB ((c :: r).take 2) && decide (0 < r.length) then 2 else 1 := by
    unfold lenR
    rw [if_neg (by rw [hl]; decide), hg, Bool.false_or, if_neg (by simpa using h64), if_neg h34]
  have hone : ∀ q, oneC c q = (⟨5, c :: q, 0⟩, signB (c :: q)) := fun q => by
    unfold oneC
    rw [word_head hl, if_neg (by decide), val_head _ hg, if_neg (by decide), if_neg h64, if_neg h34]
  have hform : ∀ x : List UInt8, formB ⟨5, x, 0⟩ = signB x := fun x => by
    unfold formB
    dsimp only
    rw [if_neg (by omega), if_neg (by omega), if_neg (by omega), if_neg (by omega), if_pos rfl]; rfl
  have main : ∃ p : List UInt8, (c :: r).take (lenR c r) = c :: p ∧ ((signB (c :: p) = true ∧ fsign (c :: r) = c :: p ∧ lenR c r = (c :: p).length) ∨ (signB (c :: p) = false ∧ fsign (c :: r) = [])) ∧ lenR c r ≠ 0 := by
    cases r with
    | nil =>
      have hL : lenR c [] = 1 := by rw [hL0]; simp
      refine ⟨[], by rw [hL]; rfl, ?_, by omega⟩
      rw [fsign_one, hL]
      cases signB [c]
      · exact .inr ⟨rfl, rfl⟩
      · exact .inl ⟨rfl, rfl, rfl⟩
    | cons d r =>
      have e2 : (c :: d :: r).take 2 = [c, d] := rfl
      rw [e2] at hL0
      rw [fsign_two]
      cases hs : signB [c, d]
      · have hL : lenR c (d :: r) = 1 := by rw [hL0, hs]; rfl
        refine ⟨[], by rw [hL]; rfl, ?_, by omega⟩
        rw [if_neg (by decide), hL]
        cases signB [c]
        · exact .inr ⟨rfl, rfl⟩
        · exact .inl ⟨rfl, rfl, rfl⟩
      · have hL : lenR c (d :: r) = 2 := by rw [hL0, hs]; simp
        exact ⟨[d], by rw [hL]; rfl, .inl ⟨hs, rfl, hL⟩, by omega⟩
  obtain ⟨p, hp, hcase, hne⟩ := main
  have hqp : ∀ q, (c :: r).take (lenR c r) = c :: q → q = p := fun q e => by
    rw [hp] at e; exact (List.cons.inj e).2.symm
  refine ⟨fun h0 => absurd h0 hne, fun q e h => absurd h h34, fun q e => ?_, fun q e ho => ?_⟩
  · rw [hqp q e, hone, hF]
    unfold signM
    dsimp only
    rw [hform]
    rcases hcase with ⟨h1, h2, _⟩ | ⟨h1, h2⟩
    · rw [h2]
    · rw [h1, h2]; rfl
  · rw [hqp q e, hone] at ho ⊢
    rw [hF]
    unfold signM
    dsimp only at ho ⊢
    rcases hcase with ⟨h1, h2, h3⟩ | ⟨h1, h2⟩
    · rw [h2]; exact ⟨rfl, h3⟩
    · rw [h1] at ho; cases ho
set_option maxRecDepth 100000 in
theorem same_all (c : UInt8) (r : List UInt8) : Same1 c r := by
  by_cases hl : letB c = true
  · exact same_word r hl
  · have hl' : letB c = false := by simpa using hl
    by_cases hg : digB c = true
    · exact same_dig r hl' hg
    · have hg' : digB c = false := by simpa using hg
      by_cases h64 : c.toNat = 64
      · exact same_time r h64
      · by_cases h34 : c.toNat = 34
        · exact same_text r h34
        · exact same_sign r hl' hg' h64 h34
set_option maxRecDepth 100000 in
theorem lenR_le (c : UInt8) (r : List UInt8) : lenR c r ≤ 1 + r.length := by
  have h1 := runN_le innB r
  have h2 := runN_le digB r
  unfold lenR
  split
  · omega
  · split
    · split <;> omega
    · split
      · split <;> omega
      · split
        · rename_i h
          simp only [Bool.and_eq_true, decide_eq_true_eq] at h
          omega
        · omega
end Go.Proofs.YtcmnfbjlhdfmgaaDoor
