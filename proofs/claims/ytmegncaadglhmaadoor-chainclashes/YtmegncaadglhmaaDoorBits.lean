/- The reference's words of truths: plain lists. -/
import Derived.Test.YtmegncaadglhmaaDoorFinish
import Derived.Deep.Upon
namespace Go.Proofs.YtmegncaadglhmaaDoor
open Go.RowKit

/-- 32 truths, as cells -/
def bitsC (f : Nat → Bool) : List Value := (List.range 32).map fun i => .bool (f i)
theorem length_bitsC (f : Nat → Bool) : (bitsC f).length = 32 := by simp [bitsC]
theorem bitsC_get (f : Nat → Bool) (i : Nat) (h : i < 32) : (bitsC f)[i]? = some (.bool (f i)) := by simp [bitsC, h]
theorem bitsC_congr (f g : Nat → Bool) (h : ∀ i, i < 32 → f i = g i) : bitsC f = bitsC g := by
  unfold bitsC
  apply List.map_congr_left
  intro i hi
  rw [h i (List.mem_range.1 hi)]
theorem bitsC_set (f : Nat → Bool) (k : Nat) (b : Bool) : (bitsC f).set k (.bool b) = bitsC (fun i => if i = k then b else f i) := by
  apply List.ext_getElem?
  intro i
  by_cases hi : i < 32
  · rw [bitsC_get _ i hi, List.getElem?_set, bitsC_get _ i hi, length_bitsC]
    by_cases h : k = i
    · subst h; simp [hi]
    · simp [h, Ne.symm h]
  · rw [List.getElem?_eq_none (by rw [List.length_set, length_bitsC]; omega), List.getElem?_eq_none (by rw [length_bitsC]; omega)]
theorem one_bitsC (f : Nat → Bool) : ∀ v ∈ bitsC f, v.oneCell' = true := by
  intro v hv; obtain ⟨i, _, rfl⟩ := List.mem_map.1 hv; rfl
/-- a word, as 32 cells -/
def bitsV (x : BitVec 32) : List Value := bitsC x.getLsbD
theorem length_bitsV (x : BitVec 32) : (bitsV x).length = 32 := length_bitsC _
/-- a word, as a value -/
def BV (x : BitVec 32) : Value := .agg (bitsV x).toArray
theorem infoBits : (Tryd.prog.info? 57).map (·.size) = some 32 := by kernel_rfl
theorem infoBitsL (n : Nat) (h : n = 32) : (Tryd.prog.info? 57).map (·.size) = some n := by subst h; kernel_rfl

/-- blocks laid one behind the other -/
theorem heap_allocs : ∀ (os : List Obj) (w : World) (i : Nat), i < os.length → (os.foldl World.alloc w).heap[w.heap.size + i]? = os[i]?
  | [], _, _, h => by cases h
  | o :: os, w, 0, _ => by
    have : ∀ (os : List Obj) (w : World) (k : Nat), k < w.heap.size → (os.foldl World.alloc w).heap[k]? = w.heap[k]? := by
      intro os
      induction os with
      | nil => intro w k _; rfl
      | cons o os ih => intro w k hk; rw [List.foldl_cons, ih _ _ (by simp; omega), Below.heap_alloc _ _ _ hk]
    rw [List.foldl_cons, Nat.add_zero, this os _ _ (by simp), heap_alloc_new]; rfl
  | o :: os, w, i + 1, h => by
    have := heap_allocs os (w.alloc o) i (by simpa using h)
    rw [List.foldl_cons, show w.heap.size + (i + 1) = (w.alloc o).heap.size + i by simp; omega, this]; rfl
theorem below_allocs : ∀ (os : List Obj) (w : World) {B : Nat} {a : World}, Below B a w → B ≤ w.heap.size → Below B a (os.foldl World.alloc w)
  | [], _, _, _, h, _ => h
  | o :: os, w, _, _, h, hB => below_allocs os (w.alloc o) (h.alloc hB o) (by simp; omega)

/-- what a loop over the 32 places keeps: the words that it reads, the result's box, and the box it fills -/
structure BitRel (n : Nat) (ins : List (BitVec 32)) (f : Nat → Bool) (w wr : World) : Prop where
  src : ∀ i, (h : i < ins.length) → wr.heap[n + i]? = some (.cells (bitsV ins[i]).toArray 57 (0, 0))
  res : ∃ z, wr.heap[n + ins.length]? = some (.cells (bitsC z).toArray 57 (0, 0))
  out : wr.heap[n + ins.length + 1]? = some (.cells (bitsC f).toArray 57 (0, 0))
  below : Below n w wr
theorem BitRel.drewN {n : Nat} {ins : List (BitVec 32)} {f : Nat → Bool} {w wr : World} (h : BitRel n ins f w wr) (m : Nat) : BitRel n ins f w (wr.drewN m) := ⟨h.src, h.res, h.out, below_drewN h.below m⟩
theorem BitRel.cell {n : Nat} {ins : List (BitVec 32)} {f : Nat → Bool} {w wr : World} (h : BitRel n ins f w wr) (i : Nat) (hi : i < ins.length) (k : Nat) (hk : k < 32) : wr.cell? ⟨n + i, k, none⟩ = some (.bool (ins[i].getLsbD k)) := by
  rw [cell_block (h.src i hi), List.getElem?_toArray]; exact bitsC_get _ k hk
theorem BitRel.set {n : Nat} {ins : List (BitVec 32)} {f : Nat → Bool} {w wr : World} (h : BitRel n ins f w wr) (k : Nat) (b : Bool) : BitRel n ins (fun i => if i = k then b else f i) w (wr.setCell ⟨n + ins.length + 1, k, none⟩ (.bool b)) := by
  refine ⟨fun i hi => ?_, ?_, ?_, h.below.setCell (by simp; omega) _⟩
  · rw [heap_setCell_other _ _ _ _ (by simp; omega)]; exact h.src i hi
  · obtain ⟨z, hz⟩ := h.res; exact ⟨z, by rw [heap_setCell_other _ _ _ _ (by simp)]; exact hz⟩
  · rw [heap_setCell_same _ _ _ _ _ _ h.out, ← bitsC_set]; simp
theorem BitRel.congr {n : Nat} {ins : List (BitVec 32)} {f g : Nat → Bool} {w wr : World} (h : BitRel n ins f w wr) (e : ∀ i, i < 32 → f i = g i) : BitRel n ins g w wr := by
  exact ⟨h.src, h.res, by rw [← bitsC_congr f g e]; exact h.out, h.below⟩
theorem BitRel.outSome {n : Nat} {ins : List (BitVec 32)} {f : Nat → Bool} {w wr : World} (h : BitRel n ins f w wr) (k : Nat) (hk : k < 32) : wr.cell? ⟨n + ins.length + 1, k, none⟩ = some (.bool (f k)) := by
  rw [cell_block h.out, List.getElem?_toArray]; exact bitsC_get _ k hk
theorem BitRel.outFree {n : Nat} {ins : List (BitVec 32)} {f : Nat → Bool} {w wr : World} (h : BitRel n ins f w wr) (k : Nat) : wr.frozen? ⟨n + ins.length + 1, k, none⟩ = false := frozen_of_row wr _ k _ _ h.out
/-- the end: the box is copied into the result's -/
theorem BitRel.fin {n : Nat} {ins : List (BitVec 32)} {f : Nat → Bool} {w wr : World} (h : BitRel n ins f w wr) (hn : n = w.heap.size) :
    wr.rangeAt (n + ins.length + 1) 0 (bitsC f) ∧ wr.there (n + ins.length) 0 32 ∧ (wr.setCells (n + ins.length) 0 (bitsC f)).heap[n + ins.length]? = some (.cells (bitsC f).toArray 57 (0, 0)) ∧ Below w.heap.size w (wr.setCells (n + ins.length) 0 (bitsC f)) := by
  obtain ⟨z, hz⟩ := h.res
  subst hn
  refine ⟨range_block h.out, there_block hz 0 32 (by rw [length_bitsC]; omega), ?_, ?_⟩
  · rw [heap_setCells _ _ (bitsC f) 0 _ _ hz (by rw [length_bitsC, length_bitsC]; omega), over_all _ _ (by rw [length_bitsC, length_bitsC])]
  · exact (Kept1.setCells (b := w.heap.size + ins.length) _ (Or.inl rfl) _ _ ⟨h.below.os, h.below.tape, h.below.output, h.below.size, fun k hk _ => h.below.block k hk⟩).below (by omega)
end Go.Proofs.YtmegncaadglhmaaDoor
