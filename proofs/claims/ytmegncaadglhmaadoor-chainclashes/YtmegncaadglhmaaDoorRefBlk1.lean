/- The reference's constants, its eight words in a row, and what joins its words to the program's. -/
import Derived.Test.YtmegncaadglhmaaDoorRefRow2
import Derived.Test.YtmegncaadglhmaaDoorRefHex
import Derived.Test.YtmegncaadglhmaaDoorRefPick
import Derived.Test.YtmegncaadglhmaaDoorRefMost
import Derived.Test.YtmegncaadglhmaaDoorMixed
import Derived.Test.YtmegncaadglhmaaDoorMix
namespace Go.Proofs.YtmegncaadglhmaaDoor
open Go.RowKit

/-- the digits of the constants, and of the eight words at the beginning -/
def kList : List UInt8 := [52, 50, 56, 97, 50, 102, 57, 56, 55, 49, 51, 55, 52, 52, 57, 49, 98, 53, 99, 48, 102, 98, 99, 102, 101, 57, 98, 53, 100, 98, 97, 53, 51, 57, 53, 54, 99, 50, 53, 98, 53, 57, 102, 49, 49, 49, 102, 49, 57, 50, 51, 102, 56, 50, 97, 52, 97, 98, 49, 99, 53, 101, 100, 53, 100, 56, 48, 55, 97, 97, 57, 56, 49, 50, 56, 51, 53, 98, 48, 49, 50, 52, 51, 49, 56, 53, 98, 101, 53, 53, 48, 99, 55, 100, 99, 51, 55, 50, 98, 101, 53, 100, 55, 52, 56, 48, 100, 101, 98, 49, 102, 101, 57, 98, 100, 99, 48, 54, 97, 55, 99, 49, 57, 98, 102, 49, 55, 52, 101, 52, 57, 98, 54, 57, 99, 49, 101, 102, 98, 101, 52, 55, 56, 54, 48, 102, 99, 49, 57, 100, 99, 54, 50, 52, 48, 99, 97, 49, 99, 99, 50, 100, 101, 57, 50, 99, 54, 102, 52, 97, 55, 52, 56, 52, 97, 97, 53, 99, 98, 48, 97, 57, 100, 99, 55, 54, 102, 57, 56, 56, 100, 97, 57, 56, 51, 101, 53, 49, 53, 50, 97, 56, 51, 49, 99, 54, 54, 100, 98, 48, 48, 51, 50, 55, 99, 56, 98, 102, 53, 57, 55, 102, 99, 55, 99, 54, 101, 48, 48, 98, 102, 51, 100, 53, 97, 55, 57, 49, 52, 55, 48, 54, 99, 97, 54, 51, 53, 49, 49, 52, 50, 57, 50, 57, 54, 55, 50, 55, 98, 55, 48, 97, 56, 53, 50, 101, 49, 98, 50, 49, 51, 56, 52, 100, 50, 99, 54, 100, 102, 99, 53, 51, 51, 56, 48, 100, 49, 51, 54, 53, 48, 97, 55, 51, 53, 52, 55, 54, 54, 97, 48, 97, 98, 98, 56, 49, 99, 50, 99, 57, 50, 101, 57, 50, 55, 50, 50, 99, 56, 53, 97, 50, 98, 102, 101, 56, 97, 49, 97, 56, 49, 97, 54, 54, 52, 98, 99, 50, 52, 98, 56, 98, 55, 48, 99, 55, 54, 99, 53, 49, 97, 51, 100, 49, 57, 50, 101, 56, 49, 57, 100, 54, 57, 57, 48, 54, 50, 52, 102, 52, 48, 101, 51, 53, 56, 53, 49, 48, 54, 97, 97, 48, 55, 48, 49, 57, 97, 52, 99, 49, 49, 54, 49, 101, 51, 55, 54, 99, 48, 56, 50, 55, 52, 56, 55, 55, 52, 99, 51, 52, 98, 48, 98, 99, 98, 53, 51, 57, 49, 99, 48, 99, 98, 51, 52, 101, 100, 56, 97, 97, 52, 97, 53, 98, 57, 99, 99, 97, 52, 102, 54, 56, 50, 101, 54, 102, 102, 51, 55, 52, 56, 102, 56, 50, 101, 101, 55, 56, 97, 53, 54, 51, 54, 102, 56, 52, 99, 56, 55, 56, 49, 52, 56, 99, 99, 55, 48, 50, 48, 56, 57, 48, 98, 101, 102, 102, 102, 97, 97, 52, 53, 48, 54, 99, 101, 98, 98, 101, 102, 57, 97, 51, 102, 55, 99, 54, 55, 49, 55, 56, 102, 50]
def bList : List UInt8 := [54, 97, 48, 57, 101, 54, 54, 55, 98, 98, 54, 55, 97, 101, 56, 53, 51, 99, 54, 101, 102, 51, 55, 50, 97, 53, 52, 102, 102, 53, 51, 97, 53, 49, 48, 101, 53, 50, 55, 102, 57, 98, 48, 53, 54, 56, 56, 99, 49, 102, 56, 51, 100, 57, 97, 98, 53, 98, 101, 48, 99, 100, 49, 57]
set_option maxRecDepth 100000 in
theorem kList_hex : ∀ i, i < 512 → isHex (kList.getD i 0) = true := by decide +kernel
theorem bList_hex : ∀ i, i < 64 → isHex (bList.getD i 0) = true := by decide +kernel
theorem kList_bits : ∀ n, n < 64 → ∀ j, j < 32 → hexBit kList n j = (consts.getD n 0).getLsbD j := by decide +kernel
theorem bList_bits : ∀ n, n < 8 → ∀ j, j < 32 → hexBit bList n j = (start8.list.getD n 0).getLsbD j := by decide +kernel
theorem kList_len : kList.length = 512 := by decide +kernel
theorem bList_len : bList.length = 64 := by decide +kernel

theorem hexL (L : List UInt8) (m : Nat) (hl : L.length = m) (hm : m ≤ 100000) (hh : ∀ i, i < m → isHex (L.getD i 0) = true) (x : BitVec 32) (n : Nat) (hn : 8 * n + 8 ≤ m) (hb : ∀ j, j < 32 → hexBit L n j = x.getLsbD j) (s : ByteArray) (hs : s = ⟨L.toArray⟩) (w : World) :
    Calls Tryd.prog 26 #[.string s, .int .i64 (n : Int)] w fun e w' => e = .returned (BV x) ∧ Below w.heap.size w w' := by
  subst hs
  have hsz : (ByteArray.mk L.toArray).size = m := by simp [ByteArray.size, hl]
  refine (hex_any ⟨L.toArray⟩ n (by rw [hsz]; exact hn) (by rw [hsz]; exact hm) (fun i hi => ?_) w).mono fun e w' ⟨he, hw⟩ => ⟨?_, hw⟩
  · have := hh i (by rw [hsz] at hi; exact hi)
    have hi2 : i < L.length := by rw [hsz] at hi; omega
    show isHex L.toArray[i] = true
    simpa [List.getD, hi2] using this
  · rw [he]
    show _ = Ending.returned (.agg (bitsV x).toArray)
    rw [show bitsV x = bitsC x.getLsbD from rfl, bitsC_congr _ _ (fun i hi => hb i hi)]
theorem hexK (n : Nat) (hn : n < 64) (s : ByteArray) (hs : s = ⟨kList.toArray⟩) (w : World) :
    Calls Tryd.prog 26 #[.string s, .int .i64 (n : Int)] w fun e w' => e = .returned (BV (consts.getD n 0)) ∧ Below w.heap.size w w' :=
  hexL kList 512 kList_len (by omega) kList_hex _ n (by omega) (kList_bits n hn) s hs w
theorem hexB (n : Nat) (hn : n < 8) (s : ByteArray) (hs : s = ⟨bList.toArray⟩) (w : World) :
    Calls Tryd.prog 26 #[.string s, .int .i64 (n : Int)] w fun e w' => e = .returned (BV (start8.list.getD n 0)) ∧ Below w.heap.size w w' :=
  hexL bList 64 bList_len (by omega) bList_hex _ n (by omega) (bList_bits n hn) s hs w

theorem pick_ch (x y z : BitVec 32) : (x &&& y) ||| (~~~ x &&& z) = ch x y z := by
  unfold ch
  apply BitVec.eq_of_getLsbD_eq
  intro i hi
  simp only [BitVec.getLsbD_or, BitVec.getLsbD_and, BitVec.getLsbD_not, BitVec.getLsbD_xor, hi, decide_true, Bool.true_and]
  cases x.getLsbD i <;> cases y.getLsbD i <;> cases z.getLsbD i <;> rfl
theorem most_maj (x y z : BitVec 32) : (x &&& y) ||| (x &&& z) ||| (y &&& z) = maj x y z := by
  unfold maj
  apply BitVec.eq_of_getLsbD_eq
  intro i hi
  simp only [BitVec.getLsbD_or, BitVec.getLsbD_and, BitVec.getLsbD_xor]
  cases x.getLsbD i <;> cases y.getLsbD i <;> cases z.getLsbD i <;> rfl
theorem pickW (x y z : BitVec 32) (w : World) : Calls Tryd.prog 37 #[BV x, BV y, BV z] w fun e w' => e = .returned (BV (ch x y z)) ∧ Below w.heap.size w w' := by
  rw [← pick_ch]; exact pick_any x y z w
theorem mostW (x y z : BitVec 32) (w : World) : Calls Tryd.prog 38 #[BV x, BV y, BV z] w fun e w' => e = .returned (BV (maj x y z)) ∧ Below w.heap.size w w' := by
  rw [← most_maj]; exact most_any x y z w

/-- a word of a row that lies in a block -/
theorem row_range {w : World} {G : Nat} {t : TypeId} {fr : Nat × Nat} {L : List (BitVec 32)} (h : w.heap[G]? = some (.cells (rowC L).toArray t fr)) (i : Nat) (hi : i < L.length) : w.rangeAt G (32 * i) (bitsV (L.getD i 0)) := fun j v hv => by
  have hj : j < 32 := by have := (List.getElem?_eq_some_iff.1 hv).1; rwa [length_bitsV] at this
  rw [cell_block h, List.getElem?_toArray, rowC_get L i hi j hj]
  simpa [List.getD, hi] using hv
theorem over_row (L : List (BitVec 32)) : ∀ (i : Nat), i < L.length → ∀ x, over (rowC L) (32 * i) (bitsV x) = rowC (L.set i x) := by
  induction L with
  | nil => intro i h; cases h
  | cons y L ih =>
    intro i h x
    cases i with
    | zero =>
      show over (bitsV y ++ rowC L) 0 (bitsV x) = bitsV x ++ rowC L
      unfold over
      simp [length_bitsV]
    | succ i =>
      have := ih i (by simpa using h) x
      show over (bitsV y ++ rowC L) (32 * (i + 1)) (bitsV x) = bitsV y ++ rowC (L.set i x)
      rw [← this]
      unfold over
      rw [show 32 * (i + 1) = (bitsV y).length + 32 * i by rw [length_bitsV]; omega]
      rw [List.take_length_add_append, show (bitsV y).length + 32 * i + (bitsV x).length = (bitsV y).length + (32 * i + (bitsV x).length) by omega, List.drop_length_add_append, List.append_assoc]
theorem infoRow (n : Nat) (h : n = 256) : (Tryd.prog.info? 58).map (·.size) = some n := by subst h; kernel_rfl
theorem built8 (a b c d e f g h : BitVec 32) : Tryd.prog.built 58 [(0, BV a), (1, BV b), (2, BV c), (3, BV d), (4, BV e), (5, BV f), (6, BV g), (7, BV h)] = some (rowC [a, b, c, d, e, f, g, h]).toArray := by kernel_rfl
theorem run_build_op {o : Oper} {a : Act} {P : Program} (t : TypeId) (parts : Array (Nat × Operand)) (ho : o.op = .build t parts) (vals : List (Nat × Value)) (hv : (parts.map fun (i, x) => (i, a.eval x)).toList = vals) (cells : Array Value) (h : P.built t vals = some cells) (w : World) : (execOp a.eval o).run P w = .ok (.value (.agg cells)) w := by
  subst hv
  unfold execOp
  simp only [ho, Sem.run_bind, run_build w t _ cells h, Result.andThen_ok]
  rfl
theorem length_row8 (s : St8) : (rowC s.list).length = 256 := by simp [length_rowC, St8.list]
end Go.Proofs.YtmegncaadglhmaaDoor
