/- A slice of one element that is an array. No program is named here. -/
import Derived.Test.YtmegncaadglhmaaDoorOf
namespace Go.Proofs.YtmegncaadglhmaaDoor
open Go.RowKit

section
variable {P : Program}
theorem run_build1 (w : World) (t elem : TypeId) (L Z : List Value) (hu : P.underlying t = some (.slice elem)) (hsz : ∀ w, (sizeOf elem).run P w = .ok L.length w) (hz : ∀ w, (zeroValue elem).run P w = .ok (.agg Z.toArray) w)
    (hpos : 0 < L.length) (hle : L.length ≤ 16777216) :
    (Instr.buildSlice t 1 #[(0, .agg L.toArray)]).run P w = .ok (.slice (some ⟨w.heap.size, 0, none⟩) 1 1) (w.alloc (.cells L.toArray elem)) := by
  have hf := fun (f : Nat → Value) => fold_all L ((Array.range L.length).map f).toList (by simp)
  simp only [Array.toArray_toList] at hf
  simp [Instr.buildSlice, run_underlying hu, hsz, hz, Instr.fill, show ¬ 16777216 < L.length by omega, show ¬ L.length = 0 by omega, Value.cells, go_sem]
  rw [hf]
theorem wpList_build1 {ops : Array Oper} {rest : List Oper} {o : Oper} {a : Act} {w : World} {Q : Exit → Act → World → Prop} (hgd : o.guard = none) (t elem : TypeId) (x : Operand) (ho : o.op = .buildSlice t 1 #[(0, x)]) (L Z : List Value) (hx : a.eval x = .agg L.toArray)
    (hu : P.underlying t = some (.slice elem)) (hsz : ∀ w, (sizeOf elem).run P w = .ok L.length w) (hz : ∀ w, (zeroValue elem).run P w = .ok (.agg Z.toArray) w) (hpos : 0 < L.length) (hle : L.length ≤ 16777216)
    (h : wpList P ops Q rest (a.put o.dst (.slice (some ⟨w.heap.size, 0, none⟩) 1 1)) (w.alloc (.cells L.toArray elem))) : wpList P ops Q (o :: rest) a w := by
  refine wpList_plain hgd fun K hK => ?_
  have hrun := run_build1 w t elem L Z hu hsz hz hpos hle
  unfold Oper.wp
  simp [execOp, ho, hx, hrun, Result.andThen]
  exact hK _ _ h
end
end Go.Proofs.YtmegncaadglhmaaDoor
