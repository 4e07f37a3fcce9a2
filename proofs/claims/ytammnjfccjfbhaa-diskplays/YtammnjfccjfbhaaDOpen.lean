/- What comes in, opened. -/
import Derived.Test.YtammnjfccjfbhaaRows
import Derived.Test.YtammnjfccjfbhaaMem
import Derived.WalkKit
import Derived.ProofKit
import Derived.OpenShut
import Derived.Carry
namespace Go.Proofs.Ytammnjfccjfbhaa
open Go.ChangeShapes Go.WideShapes Go.ChangeAt Go.RowKit

theorem own : ownKnob Try.prog.godebug = none := by kernel_rfl
theorem laidOut : laidOutB Try.prog = true := by kernel_rfl
theorem u8_of {a : Int} (h : (Lit.int .u8 a).wf = true) : ∃ c : UInt8, a = (c.toNat : Int) := by
  have h1 : IntKind.u8.min ≤ a ∧ a ≤ IntKind.u8.max := by simpa [Lit.wf] using h
  have h2 : 0 ≤ a ∧ a ≤ 255 := h1
  exact ⟨UInt8.ofNat a.toNat, by simp [UInt8.toNat_ofNat']; omega⟩
end Go.Proofs.Ytammnjfccjfbhaa
