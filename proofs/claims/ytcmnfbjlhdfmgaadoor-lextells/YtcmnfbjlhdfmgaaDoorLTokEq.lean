/- Tokens compared. -/
import Derived.Test.YtcmnfbjlhdfmgaaDoorLForm2
namespace Go.Proofs.YtcmnfbjlhdfmgaaDoor
open Go.RowKit

set_option maxRecDepth 100000 in
theorem eqTok (d : Nat) (t : Tk) (w : World) : (Op.equalIn (d + 1 + 1) 30 t.val t.val).run Tryd.prog w = .ok true w := by
  have ht : Tryd.prog.underlying 30 = some (.struct (Tryd.prog.fieldsOf 30)) := by kernel_rfl
  have hp : Tryd.prog.stoodInHeld 30 = false := by kernel_rfl
  unfold Tk.val
  rw [run_equalIn_agg w (d + 1) 30 _ _ ht hp]
  unfold Tk.cells
  simp [go_sem, Tryd.underlying30, Tryd.underlying3, Tryd.underlying2, Tryd.underlying9]
set_option maxRecDepth 100000 in
theorem eqTok' (D : Nat) (hD : D = 10000) (t : Tk) (w : World) : (Op.equalIn D 30 t.val t.val).run Tryd.prog w = .ok true w := by
  obtain ⟨d, rfl⟩ : ∃ d, D = d + 1 + 1 := ⟨D - 2, by omega⟩
  exact eqTok d t w
set_option maxRecDepth 100000 in
theorem eqlTok (t : Tk) (w : World) : (binOp .eql 30 t.val t.val).run Tryd.prog w = .ok (.bool true) w := by
  have h : ∀ D, D = 10000 → (Op.equalIn D 30 t.val t.val).run Tryd.prog w = .ok true w := fun D hD => eqTok' D hD t w
  unfold Tk.val at *
  rw [run_eql_struct, h 10000 rfl]; rfl
set_option maxRecDepth 100000 in
theorem neqTok (t : Tk) (w : World) : (binOp .neq 30 t.val t.val).run Tryd.prog w = .ok (.bool false) w := by
  have h : ∀ D, D = 10000 → (Op.equalIn D 30 t.val t.val).run Tryd.prog w = .ok true w := fun D hD => eqTok' D hD t w
  unfold Tk.val at *
  rw [run_neq_struct, h 10000 rfl]; rfl
set_option maxRecDepth 100000 in
theorem guardTok (op : BinOp) (t : Tk) (x y : Operand) (w : World) : (eqGuard op 30 x y t.val t.val).run Tryd.prog w = .ok () w := by
  unfold Tk.val
  exact run_eqGuard_agg w op 30 x y _ _ (by kernel_rfl)
end Go.Proofs.YtcmnfbjlhdfmgaaDoor
