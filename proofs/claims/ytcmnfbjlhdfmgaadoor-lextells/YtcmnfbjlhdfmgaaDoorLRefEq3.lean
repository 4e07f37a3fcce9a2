/- What the reference says of a sign is what the program says: plain lists alone. -/
import Derived.Test.YtcmnfbjlhdfmgaaDoorLRefEq2
namespace Go.Proofs.YtcmnfbjlhdfmgaaDoor
open Go.RowKit

def begS : List UInt8 := [61, 33, 60, 62, 123, 125, 40, 41, 91, 93, 59, 46, 44, 43, 45, 42]
set_option maxRecDepth 100000 in
theorem fsign_out (c : UInt8) (r : List UInt8) (h : c ∉ begS) : fsign (c :: r) = [] := by
  rcases fsign_mem (c :: r) with h1 | ⟨h1, h2⟩
  · exact h1
  · exfalso
    have key : ∀ s ∈ signsL, (match s with | [] => false | a :: _ => begS.contains a) = true := by decide
    have := key _ h1
    generalize fsign (c :: r) = s at *
    cases s with
    | nil => cases this
    | cons a s =>
      simp only [List.isPrefixOf_cons_cons, Bool.and_eq_true, beq_iff_eq] at h2
      obtain rfl := h2.1
      exact h (by simpa using this)
set_option maxRecDepth 100000 in
theorem sign_out (c : UInt8) (q : List UInt8) (h : c ∉ begS) : signB (c :: q) = false := by
  cases hs : signB (c :: q)
  · rfl
  · have hm := (signB_mem _).1 hs
    have key : ∀ s ∈ signsR, (match s with | [] => false | a :: _ => begS.contains a) = true := by decide
    have := key _ hm
    exact absurd (by simpa using this) h
set_option maxRecDepth 100000 in
/-- signs of two bytes -/
theorem two_61 (c d : UInt8) (h : signB [c, d] = true) : d = 61 := by
  have hm := (signB_mem _).1 h
  have key : ∀ s ∈ signsR, (match s with | [_, d] => decide (d = 61) | _ => true) = true := by decide
  have := key _ hm
  simpa using this
set_option maxRecDepth 100000 in
theorem fsign_two (c d : UInt8) (r : List UInt8) : fsign (c :: d :: r) = if signB [c, d] then [c, d] else if signB [c] then [c] else [] := by
  by_cases hc : c ∈ begS
  · by_cases hd : d = 61
    · subst hd
      simp only [begS, List.mem_cons, List.not_mem_nil, or_false] at hc
      rcases hc with rfl | rfl | rfl | rfl | rfl | rfl | rfl | rfl | rfl | rfl | rfl | rfl | rfl | rfl | rfl | rfl <;> rfl
    · rw [if_neg (fun hh => hd (two_61 _ _ hh))]
      have hd' : (61 == d) = false := by simpa using fun e => hd e.symm
      simp only [begS, List.mem_cons, List.not_mem_nil, or_false] at hc
      rcases hc with rfl | rfl | rfl | rfl | rfl | rfl | rfl | rfl | rfl | rfl | rfl | rfl | rfl | rfl | rfl | rfl <;>
      ( unfold fsign signsL
        simp [List.find?, List.isPrefixOf, hd']
        try rfl
        try decide)
  · rw [fsign_out c _ hc, sign_out c _ hc, sign_out c _ hc]; rfl
set_option maxRecDepth 100000 in
theorem fsign_one (c : UInt8) : fsign [c] = if signB [c] then [c] else [] := by
  by_cases hc : c ∈ begS
  · simp only [begS, List.mem_cons, List.not_mem_nil, or_false] at hc
    rcases hc with rfl | rfl | rfl | rfl | rfl | rfl | rfl | rfl | rfl | rfl | rfl | rfl | rfl | rfl | rfl | rfl <;> rfl
  · rw [fsign_out c _ hc, sign_out c _ hc]; rfl
end Go.Proofs.YtcmnfbjlhdfmgaaDoor
