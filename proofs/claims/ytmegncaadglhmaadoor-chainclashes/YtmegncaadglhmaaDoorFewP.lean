/- Parts of a size that is looked at. -/
import Derived.Test.YtmegncaadglhmaaDoorAwake
namespace Go.Proofs.YtmegncaadglhmaaDoor
open Go.RowKit

theorem ret_bool' {a b : Bool} (h : a = b) : Ending.returned (.bool a) = .returned (.bool b) := by rw [h]
def fewS (ps : List Part) : Nat := (ps.map (fun p => min p.l.length 10000)).sum
theorem fewS_snoc (ps : List Part) (k : Nat) (hk : k < ps.length) : fewS (ps.take (k + 1)) = fewS (ps.take k) + min ps[k].l.length 10000 := by
  unfold fewS
  rw [List.take_succ_eq_append_getElem hk, List.map_append, List.sum_append]; simp
theorem fewS_le : ∀ ps : List Part, fewS ps ≤ 10000 * ps.length
  | [] => by simp [fewS]
  | p :: ps => by
    have ih := fewS_le ps
    unfold fewS at ih ⊢
    simp only [List.map_cons, List.sum_cons, List.length_cons]
    omega
end Go.Proofs.YtmegncaadglhmaaDoor
