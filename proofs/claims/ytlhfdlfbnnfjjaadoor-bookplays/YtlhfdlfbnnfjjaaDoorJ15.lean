/- A block's 64 words, as the reference makes them: the first sixteen; A slice of one element that is an array. No program is named here; The operations that make blocks and fill them. No program is named here. -/
import Derived.Test.YtlhfdlfbnnfjjaaDoorJ14
import Derived.Test.YtlhfdlfbnnfjjaaDoorJ11
import Derived.Test.YtlhfdlfbnnfjjaaDoorJ06
namespace Go.Proofs.YtlhfdlfbnnfjjaaDoor
open Go.RowKit

set_option maxRecDepth 100000 in
/-- what is owned stays so where its block does -/
theorem own_kept {w w' : World} {base : Nat} {e : TypeId} {size : Nat} {v : Value} {n : Nat} {xs : List Value} (h : w.ownsRow base e size v n xs) (hk : ∀ g, v.ownBlock = some g → w'.heap[g]? = w.heap[g]?) : w'.ownsRow base e size v n xs := by
  obtain ⟨h1, h2⟩ := h
  refine ⟨h1, ?_⟩
  rcases h2 with h2 | ⟨g, cap, cur, rfl, hb, hg, r⟩
  · exact Or.inl h2
  · exact Or.inr ⟨g, cap, cur, rfl, hb, (hk g rfl).trans hg, r⟩
/-- the cells of words -/
def rowC (l : List (BitVec 32)) : List Value := l.flatMap bitsV
set_option maxRecDepth 100000 in
theorem length_rowC (l : List (BitVec 32)) : (rowC l).length = l.length * 32 := by
  induction l with
  | nil => rfl
  | cons x l ih => simp only [rowC, List.flatMap_cons, List.length_append, length_bitsV, List.length_cons] at ih ⊢; omega
set_option maxRecDepth 100000 in
theorem rowC_snoc (l : List (BitVec 32)) (x : BitVec 32) : rowC (l ++ [x]) = rowC l ++ bitsV x := by simp [rowC]
set_option maxRecDepth 100000 in
theorem one_rowC (l : List (BitVec 32)) : ∀ v ∈ rowC l, v.oneCell' = true := by
  intro v hv
  obtain ⟨x, _, hx⟩ := List.mem_flatMap.1 hv
  exact one_bitsC _ v hx
set_option maxRecDepth 100000 in
/-- a word among them -/
theorem rowC_get (l : List (BitVec 32)) : ∀ (i : Nat), (h : i < l.length) → ∀ j, j < 32 → (rowC l)[32 * i + j]? = (bitsV l[i])[j]? := by
  induction l with
  | nil => intro i h; cases h
  | cons x l ih =>
    intro i h j hj
    show (bitsV x ++ rowC l)[32 * i + j]? = _
    cases i with
    | zero => rw [List.getElem?_append_left (by rw [length_bitsV]; omega)]; simp
    | succ i =>
      rw [List.getElem?_append_right (by rw [length_bitsV]; omega), length_bitsV, show 32 * (i + 1) + j - 32 = 32 * i + j by omega]
      exact ih i (by simpa using h) j hj

set_option maxRecDepth 100000 in
theorem be32_bit (a b c d : UInt8) (k : Nat) (hk : k < 32) : (be32 a b c d).getLsbD k = (([d, c, b, a].getD (k / 8) 0).toNat / 2 ^ (k % 8) % 2 == 1) := by
  have hb : ∀ (n m : Nat), n.testBit m = (n / 2 ^ m % 2 == 1) := fun n m => by rw [Nat.testBit_eq_decide_div_mod_eq]; rfl
  have ha := a.toNat_lt
  have hb' := b.toNat_lt
  have hc := c.toNat_lt
  have hd := d.toNat_lt
  have hz : ∀ (n m : Nat), n < 256 → 8 ≤ m → n.testBit m = false := fun n m h1 h2 => Nat.testBit_lt_two_pow (Nat.lt_of_lt_of_le h1 (Nat.pow_le_pow_right (by omega) h2 : 2 ^ 8 ≤ 2 ^ m))
  unfold be32
  simp only [BitVec.getLsbD_or, BitVec.getLsbD_shiftLeft, BitVec.getLsbD_ofNat]
  rcases (show k / 8 = 0 ∨ k / 8 = 1 ∨ k / 8 = 2 ∨ k / 8 = 3 by omega) with h | h | h | h
  · rw [h]
    simp only [List.getD_cons_zero]
    rw [← hb, show k % 8 = k by omega]
    simp [hk, show k < 24 by omega, show k < 16 by omega, show k < 8 by omega]
  · rw [h]
    simp only [List.getD_cons_succ, List.getD_cons_zero]
    rw [← hb, show k % 8 = k - 8 by omega, hz d.toNat k (by omega) (by omega)]
    simp [hk, show k < 24 by omega, show k < 16 by omega, show ¬ k < 8 by omega, show k - 8 < 32 by omega]
  · rw [h]
    simp only [List.getD_cons_succ, List.getD_cons_zero]
    rw [← hb, show k % 8 = k - 16 by omega, hz d.toNat k (by omega) (by omega), hz c.toNat (k - 8) (by omega) (by omega)]
    simp [hk, show k < 24 by omega, show ¬ k < 16 by omega, show ¬ k < 8 by omega, show k - 16 < 32 by omega]
  · rw [h]
    simp only [List.getD_cons_succ, List.getD_cons_zero]
    rw [← hb, show k % 8 = k - 24 by omega, hz d.toNat k (by omega) (by omega), hz c.toNat (k - 8) (by omega) (by omega), hz b.toNat (k - 16) (by omega) (by omega)]
    simp [hk, show ¬ k < 24 by omega, show ¬ k < 16 by omega, show ¬ k < 8 by omega, show k - 24 < 32 by omega]
/-- the k-th truth of a block's i-th word -/
def wordBit (l : List UInt8) (i k : Nat) : Bool := (l.getD (4 * i + 3 - k / 8) 0).toNat / 2 ^ (k % 8) % 2 == 1
set_option maxRecDepth 100000 in
theorem wordBit_eq (l : List UInt8) (i k : Nat) (hi : i < 16) (hk : k < 32) (p : List (BitVec 32)) : (planNext l p i).getLsbD k = wordBit l i k := by
  unfold planNext wordBit
  rw [if_pos hi, be32_bit _ _ _ _ k hk]
  congr 4
  rcases (show k / 8 = 0 ∨ k / 8 = 1 ∨ k / 8 = 2 ∨ k / 8 = 3 by omega) with h | h | h | h <;> rw [h] <;> rfl
end Go.Proofs.YtlhfdlfbnnfjjaaDoor
namespace Go.Proofs.YtlhfdlfbnnfjjaaDoor
open Go.RowKit

section
variable {P : Program}
set_option maxRecDepth 100000 in
theorem run_build1 (w : World) (t elem : TypeId) (L Z : List Value) (hu : P.underlying t = some (.slice elem)) (hsz : ∀ w, (sizeOf elem).run P w = .ok L.length w) (hz : ∀ w, (zeroValue elem).run P w = .ok (.agg Z.toArray) w)
    (hpos : 0 < L.length) (hle : L.length ≤ 16777216) :
    (Instr.buildSlice t 1 #[(0, .agg L.toArray)]).run P w = .ok (.slice (some ⟨w.heap.size, 0, none⟩) 1 1) (w.alloc (.cells L.toArray elem)) := by
  have hf := fun (f : Nat → Value) => fold_all L ((Array.range L.length).map f).toList (by simp)
  simp only [Array.toArray_toList] at hf
  simp [Instr.buildSlice, run_underlying hu, hsz, hz, Instr.fill, show ¬ 16777216 < L.length by omega, show ¬ L.length = 0 by omega, Value.cells, go_sem]
  rw [hf]
set_option maxRecDepth 100000 in
theorem wpList_build1 {ops : Array Oper} {rest : List Oper} {o : Oper} {a : Act} {w : World} {Q : Exit → Act → World → Prop} (hgd : o.guard = none) (t elem : TypeId) (x : Operand) (ho : o.op = .buildSlice t 1 #[(0, x)]) (L Z : List Value) (hx : a.eval x = .agg L.toArray)
    (hu : P.underlying t = some (.slice elem)) (hsz : ∀ w, (sizeOf elem).run P w = .ok L.length w) (hz : ∀ w, (zeroValue elem).run P w = .ok (.agg Z.toArray) w) (hpos : 0 < L.length) (hle : L.length ≤ 16777216)
    (h : wpList P ops Q rest (a.put o.dst (.slice (some ⟨w.heap.size, 0, none⟩) 1 1)) (w.alloc (.cells L.toArray elem))) : wpList P ops Q (o :: rest) a w := by
  refine wpList_plain hgd fun K hK => ?_
  have hrun := run_build1 w t elem L Z hu hsz hz hpos hle
  unfold Oper.wp
  simp [execOp, ho, hx, hrun, Result.andThen]
  exact hK _ _ h
end
end Go.Proofs.YtlhfdlfbnnfjjaaDoor
namespace Go.Proofs.YtlhfdlfbnnfjjaaDoor
open Go RowKit

section
variable {P : Program}
set_option maxRecDepth 100000 in
theorem run_build1_op {o : Oper} {a : Act} (t elem : TypeId) (x : Operand) (ho : o.op = .buildSlice t 1 #[(0, x)]) (L Z : List Value) (hx : a.eval x = .agg L.toArray) (hu : P.underlying t = some (.slice elem))
    (hsz : ∀ w, (sizeOf elem).run P w = .ok L.length w) (hz : ∀ w, (zeroValue elem).run P w = .ok (.agg Z.toArray) w) (hpos : 0 < L.length) (hle : L.length ≤ 16777216) (w : World) :
    (execOp a.eval o).run P w = .ok (.value (.slice (some ⟨w.heap.size, 0, none⟩) 1 1)) (w.alloc (.cells L.toArray elem)) := by
  simp [execOp, ho, hx, run_build1 w t elem L Z hu hsz hz hpos hle, Result.andThen]
end
end Go.Proofs.YtlhfdlfbnnfjjaaDoor
