/- The order of values, bags too: the program's and the document's; The order of values, as the document has it. -/
import Derived.Test.YtllgodaphoncnaaGreatDoorJ13
import Derived.Test.YtllgodaphoncnaaGreatDoorVSame
namespace Go.Proofs.YtllgodaphoncnaaGreatDoor
open Go.RowKit

set_option maxRecDepth 100000 in
theorem lexO_step {α : Type} (f : α → α → Int) (x y : List α) (k : Nat) (hx : k < x.length) (hy : k < y.length) :
    lexO f (x.drop k) (y.drop k) = if f x[k] y[k] = 0 then lexO f (x.drop (k + 1)) (y.drop (k + 1)) else f x[k] y[k] := by
  rw [List.drop_eq_getElem_cons hx, List.drop_eq_getElem_cons hy, lexO]
set_option maxRecDepth 100000 in
theorem lexO_end {α : Type} (f : α → α → Int) (x y : List α) (k : Nat) (hx : k ≤ x.length) (hy : k ≤ y.length) (h : k = x.length ∨ k = y.length) : lexO f (x.drop k) (y.drop k) = cmpI x.length y.length := by
  rcases h with rfl | rfl
  · rw [List.drop_length]
    rcases Nat.lt_or_ge x.length y.length with h | h
    · obtain ⟨b, l, e⟩ := List.exists_cons_of_ne_nil (show y.drop x.length ≠ [] by simp; omega)
      rw [e]; unfold cmpI; rw [if_pos (by omega)]; rfl
    · rw [List.drop_of_length_le (by omega)]; unfold cmpI; rw [if_neg (by omega), if_neg (by omega)]; rfl
  · rw [List.drop_length]
    rcases Nat.lt_or_ge y.length x.length with h | h
    · obtain ⟨b, l, e⟩ := List.exists_cons_of_ne_nil (show x.drop y.length ≠ [] by simp; omega)
      rw [e]; unfold cmpI; rw [if_neg (by omega), if_pos (by omega)]; rfl
    · rw [List.drop_of_length_le (by omega)]; unfold cmpI; rw [if_neg (by omega), if_neg (by omega)]; rfl
def Val.ordS (x y : Val) : Int := Go.Proofs.YtllgodaphoncnaaGreatDoor.ordS x.k x.i x.s y.k y.i y.s

/-- the order of values, as the program has it -/
def Val.order (x : Val) (lx : List Val) (y : Val) (ly : List Val) : Int := if x.k = 5 ∧ y.k = 5 then lexO Val.ord lx ly else x.ord y
end Go.Proofs.YtllgodaphoncnaaGreatDoor
namespace Go.Proofs.YtllgodaphoncnaaGreatDoor
open Go.RowKit

/-- the order of values, as the document has it -/
def Val.orderS (x : Val) (lx : List Val) (y : Val) (ly : List Val) : Int := if x.k = 5 ∧ y.k = 5 then lexO Val.ordS lx ly else x.ordS y
end Go.Proofs.YtllgodaphoncnaaGreatDoor
