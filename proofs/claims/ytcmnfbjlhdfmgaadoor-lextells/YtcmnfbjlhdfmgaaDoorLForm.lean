/- Whether a token is one. -/
import Derived.Test.YtcmnfbjlhdfmgaaDoorLLeaf
namespace Go.Proofs.YtcmnfbjlhdfmgaaDoor
open Go.RowKit

def Tk.cells (t : Tk) : List Value := [.int .i64 t.k, .string (st t.s), .int .i64 t.n]
/-- what calls find at the program's own variables, and the library's -/
structure LexW (w : World) : Prop where
  sig : w.rangeAt 0 0 (signsL.map fun l => Value.string (st l))
  syn : ∃ tp p, w.var? Tryd.prog "strconv.ErrSyntax" = some #[.iface tp p]
  ran : ∃ tp p, w.var? Tryd.prog "strconv.ErrRange" = some #[.iface tp p]
  pow : Lib.TabIs Tryd.prog w "internal/strconv.uint64pow10" .u64 Lib.pow10Tab
set_option maxRecDepth 100000 in
theorem LexW.below {w w' : World} (h : LexW w) (hb : Below w.heap.size w w') : LexW w' := by
  obtain ⟨t1, p1, h1⟩ := h.syn
  obtain ⟨t2, p2, h2⟩ := h.ran
  refine ⟨fun j v hv => ?_, ⟨t1, p1, Joins.var_stays (g := 5) (by kernel_rfl) h1 hb (Nat.le_refl _)⟩, ⟨t2, p2, Joins.var_stays (g := 6) (by kernel_rfl) h2 hb (Nat.le_refl _)⟩, Joins.tab_stays (g := 4) (by kernel_rfl) h.pow hb (Nat.le_refl _)⟩
  have h0 := h.sig j v hv
  rw [hb.cell (by exact block_lt_of_cell h0)]
  exact h0
/-! calls of the library -/
set_option maxRecDepth 100000 in
theorem hasPrefix_any (w : World) (l p : List UInt8) : Calls Tryd.prog 30 #[.string (st l), .string (st p)] w fun e w' => e = .returned (.bool (p.isPrefixOf l)) ∧ w = w' :=
  (Any.strings_HasPrefix lays99 (st l) (st p) w).mono fun _ _ ⟨h1, h2⟩ => ⟨h1, h2.symm⟩
set_option maxRecDepth 100000 in
theorem clone_st (w : World) (l : List UInt8) (hl : l.length ≤ 1000000) : Calls Tryd.prog 56 #[.string (st l)] w fun e w' => e = .returned (.string (st l)) ∧ Below w.heap.size w w' := by
  have HC := Lib.hid (Any.stringslite_Clone laysM316 (st l) w (by rw [size_st]; omega))
  generalize st l = s at *
  go_enter Tryd.func56, Tryd.ntmps56
  go_wp2_with fail
  refine HC.out.mono ?_
  rintro e w' ⟨rfl, hb⟩
  have HB := Lib.hid hb
  clear hb HC
  go_wp2_with fail
  go_ret
  exact ⟨rfl, HB.out⟩
/-- behind the first line feed -/
def cutL : List UInt8 → List UInt8
  | [] => []
  | c :: l => if c.toNat = 10 then l else cutL l
end Go.Proofs.YtcmnfbjlhdfmgaaDoor
