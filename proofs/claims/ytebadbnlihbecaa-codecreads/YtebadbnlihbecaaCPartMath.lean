/- P3.1: parts written: the bytes that the document tells, or bad. -/
import Derived.Test.YtebadbnlihbecaaCAll
namespace Go.Proofs.Ytebadbnlihbecaa
open Go.RowKit

theorem flag_nat (m : Int) : (if (m % 2 == 1) = true then (1 : Int) else 0) = m % 2 := by
  split
  · rename_i h; have : m % 2 = 1 := by simpa using h
    omega
  · rename_i h; have : ¬ m % 2 = 1 := by simpa using h
    omega
theorem wr_part {p : PartV} {lx : List Val} (hs : p.s.size ≤ 5000) (hn : lx.length = p.v.n) (hok : bytesOk p lx = true) : Wr (fun st => partM st p lx) (bytesB p lx) := by
  unfold bytesOk at hok
  unfold partM bytesB
  by_cases h0 : p.q % 8 = 0
  · simp only [if_pos h0] at hok ⊢
    have h := of_decide_eq_true hok
    exact wr_uns ⟨h.1, by rw [show (256 : Int) ^ 1 = 256 by decide]; exact h.2⟩
  simp only [if_neg h0] at hok ⊢
  by_cases h1 : p.q % 8 = 1
  · simp only [if_pos h1] at hok ⊢
    have h := of_decide_eq_true hok
    exact wr_uns ⟨h.1, by rw [show (256 : Int) ^ 2 = 65536 by decide]; exact h.2⟩
  simp only [if_neg h1] at hok ⊢
  by_cases h2 : p.q % 8 = 2
  · simp only [if_pos h2] at hok ⊢
    have h := of_decide_eq_true hok
    exact wr_uns ⟨h.1, by rw [show (256 : Int) ^ 4 = 4294967296 by decide]; exact h.2⟩
  simp only [if_neg h2] at hok ⊢
  by_cases h3 : p.q % 8 = 3
  · simp only [if_pos h3]
    exact wr_put _
  simp only [if_neg h3] at hok ⊢
  by_cases h4 : p.q % 8 = 4
  · simp only [if_pos h4]
    rw [flag_nat]
    exact wr_uns ⟨by omega, by rw [show (256 : Int) ^ 1 = 256 by decide]; omega⟩
  simp only [if_neg h4] at hok ⊢
  by_cases h5 : p.q % 8 = 5
  · simp only [if_pos h5]
    exact wr_text _ (by omega)
  simp only [if_neg h5] at hok ⊢
  by_cases h6 : p.q % 8 = 6
  · simp only [if_pos h6]
    have := wr_put (tb p.s)
    rw [tt_tb] at this
    exact this
  simp only [if_neg h6] at hok ⊢
  exact wr_value hok hn
theorem part_no {p : PartV} {lx : List Val} (hs : p.s.size ≤ 5000) (hok : bytesOk p lx = false) (u : List UInt8) : partM (TT u) p lx = none := by
  unfold bytesOk at hok
  unfold partM
  by_cases h0 : p.q % 8 = 0
  · simp only [if_pos h0] at hok ⊢
    have h := of_decide_eq_false hok
    unfold unsM
    rw [if_neg (by rw [show (256 : Int) ^ 1 = 256 by decide]; exact h)]
  simp only [if_neg h0] at hok ⊢
  by_cases h1 : p.q % 8 = 1
  · simp only [if_pos h1] at hok ⊢
    have h := of_decide_eq_false hok
    unfold unsM
    rw [if_neg (by rw [show (256 : Int) ^ 2 = 65536 by decide]; exact h)]
  simp only [if_neg h1] at hok ⊢
  by_cases h2 : p.q % 8 = 2
  · simp only [if_pos h2] at hok ⊢
    have h := of_decide_eq_false hok
    unfold unsM
    rw [if_neg (by rw [show (256 : Int) ^ 4 = 4294967296 by decide]; exact h)]
  simp only [if_neg h2] at hok ⊢
  by_cases h3 : p.q % 8 = 3
  · simp [if_pos h3] at hok
  simp only [if_neg h3] at hok ⊢
  by_cases h4 : p.q % 8 = 4
  · simp [if_pos h4] at hok
  simp only [if_neg h4] at hok ⊢
  by_cases h5 : p.q % 8 = 5
  · simp only [if_pos h5] at hok ⊢
    have h := of_decide_eq_false hok
    have hw := (wr_text p.s (by omega)).yes u
    rw [if_neg (by rw [List.length_append, numB_length, tb_size]; omega)] at hw
    exact hw
  simp only [if_neg h5] at hok ⊢
  by_cases h6 : p.q % 8 = 6
  · simp [if_pos h6] at hok
  simp only [if_neg h6] at hok ⊢
  unfold valueM
  rw [hok]
  rfl
/-- one part more -/
theorem part_step {p : PartV} {lx : List Val} (hs : p.s.size ≤ 5000) (hn : lx.length = p.v.n) (acc : Option (List UInt8)) : partM (acc.bind TT) p lx = (allStep acc (p, lx)).bind TT := by
  cases acc with
  | none => exact partM_none p lx
  | some u =>
    show partM (TT u) p lx = (if bytesOk p lx = true then (if u.length + (bytesB p lx).length ≤ 4096 then some (u ++ bytesB p lx) else none) else none).bind TT
    cases hok : bytesOk p lx
    · rw [part_no hs hok u]
      rfl
    · have h := (wr_part hs hn hok).yes u
      rw [if_pos rfl]
      refine h.trans ?_
      split <;> rfl
/-- what is written of parts is what the document tells -/
theorem parts_all (ps : List (PartV × List Val)) (h : ∀ p ∈ ps, p.1.s.size ≤ 5000 ∧ p.2.length = p.1.v.n) : ps.foldl (fun st p => partM st p.1 p.2) (TT []) = (allB ps).bind TT := by
  have key : ∀ (ps : List (PartV × List Val)) (acc : Option (List UInt8)), (∀ p ∈ ps, p.1.s.size ≤ 5000 ∧ p.2.length = p.1.v.n) → ps.foldl (fun st p => partM st p.1 p.2) (acc.bind TT) = (ps.foldl allStep acc).bind TT := by
    intro ps
    induction ps with
    | nil => intro acc _; rfl
    | cons p ps ih =>
      intro acc h
      obtain ⟨p, lx⟩ := p
      have hp := h (p, lx) (by simp)
      rw [List.foldl_cons, List.foldl_cons]
      dsimp only at hp ⊢
      rw [part_step hp.1 hp.2 acc]
      exact ih _ fun q hq => h q (by simp [hq])
  exact key ps (some []) h
end Go.Proofs.Ytebadbnlihbecaa
