/- How many variables there are at least. -/
import Derived.Test.YtcmnfbjlhdfmgaaDoorLRow
namespace Go.Proofs.YtcmnfbjlhdfmgaaDoor
open Go.ChangeShapes Go.WideShapes Go.ChangeAt Go.RowKit

set_option maxRecDepth 100000 in
theorem nine_of {W : World} (h : laidMetH Tryd.prog Rows.lexManyRow.laid W) : 9 ≤ W.heap.size := by
  have h0 : laidMet Tryd.prog Rows.lexManyRow.laid W := h
  have h1 := h0.tail
  obtain ⟨ps, ⟨g', t', cs, fuel, p, q, hg', ht', hvar, _⟩, _⟩ := h1
  have hg : Tryd.prog.globalNamed "math/bits.deBruijn64tab" = some 8 := by kernel_rfl
  unfold World.var? at hvar
  rw [hg] at hvar
  simp only [Option.bind_some] at hvar
  have hlt : 8 < W.heap.size := by
    cases hb : W.heap[8]? with
    | none => rw [hb] at hvar; simp at hvar
    | some o => exact (Array.getElem?_eq_some_iff.1 hb).1
  omega
end Go.Proofs.YtcmnfbjlhdfmgaaDoor
