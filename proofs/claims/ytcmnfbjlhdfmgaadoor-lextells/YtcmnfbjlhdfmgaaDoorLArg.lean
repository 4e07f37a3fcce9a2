/- What came in: numbers, texts. -/
import Derived.Test.YtcmnfbjlhdfmgaaDoorLRow
import Derived.Test.YtcmnfbjlhdfmgaaDoorLForm2
namespace Go.Proofs.YtcmnfbjlhdfmgaaDoor
open Go.ChangeShapes Go.WideShapes Go.ChangeAt Go.RowKit Go.Deep
open Go.ChangeMaps (open_string)

section
variable {H : Type} {enc : TypeId × Value → H} {w : World} {base : Nat} {spare : Nat → Bool} {held : Bool} {r : Reach} {b0 : Nat}
set_option maxRecDepth 100000 in
theorem u16_of_arg {v : Value} {d : DataW H} {p : List MemPlace} (hv : Value.okWide Tryd.prog w r b0 39 v) (h : DataW.Trod enc Tryd.prog w base spare held 39 v d p) : ∃ n : Nat, v = .int .u16 (n : Int) ∧ n < 65536 := by
  obtain ⟨n, rfl, _, _, wn⟩ := open_int Tryd.underlying39 hv h
  have h1 : IntKind.u16.min ≤ n ∧ n ≤ IntKind.u16.max := by simpa [Lit.wf] using wn
  have h2 : 0 ≤ n ∧ n ≤ 65535 := h1
  exact ⟨n.toNat, by rw [Int.toNat_of_nonneg h2.1], by omega⟩
set_option maxRecDepth 100000 in
theorem str_of_arg {v : Value} {d : DataW H} {p : List MemPlace} (hv : Value.okWide Tryd.prog w r b0 9 v) (h : DataW.Trod enc Tryd.prog w base spare held 9 v d p) : ∃ l : List UInt8, v = .string (st l) ∧ l.length ≤ maxLen := by
  obtain ⟨s, rfl, _, _, hs⟩ := open_string Tryd.underlying9 hv h
  exact ⟨s.data.toList, by rw [st_data], hs⟩
end
end Go.Proofs.YtcmnfbjlhdfmgaaDoor
