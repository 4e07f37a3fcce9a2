/- What a program that does nothing doesn't answer; and fingerprints of one part, or two; Parts of a size that is looked at; The reference's words of truths: plain lists. -/
import Derived.Test.YtlhfdlfbnnfjjaaDoorJ11
import Derived.Test.YtlhfdlfbnnfjjaaDoorJ12
import Derived.Lib.SlBytesConst
import Derived.Stop.BytesEq
import Derived.Deep.Upon
namespace Go.Proofs.YtlhfdlfbnnfjjaaDoor
open Go.RowKit

set_option maxRecDepth 100000 in
/-- two fingerprints compared -/
theorem eqlH (l l' : List UInt8) (w : World) : (binOp .eql 40 (H l) (H l')).run Tryd.prog w = .ok (.bool (shaOf l == shaOf l')) w :=
  run_eql_bytes w 40 5 32 Tryd.underlying40 Tryd.underlying5 (fun _ => by kernel_rfl) (shaOf l) (shaOf l') (length_shaOf l) (length_shaOf l')
set_option maxRecDepth 100000 in
theorem guardH (l l' : List UInt8) (x y : Operand) (w : World) : (eqGuard .eql 40 x y (H l) (H l')).run Tryd.prog w = .ok () w :=
  run_eqGuard_agg w .eql 40 x y _ _ (by kernel_rfl)

set_option maxRecDepth 100000 in
/-- fingerprints of parts whose slice is a block of its own -/
theorem of_here (W : World) (G n : Nat) (ps : List Part) (hn : n = ps.length) (hG : W.heap[G]? = some (.cells (ps.map Part.val).toArray 32 (0, 0))) (hp : ∀ p ∈ ps, p.In W) (ht : Tab W)
    (hm : (joined ps).length ≤ 100000000000) (hl : ps.length ≤ 1000000000000) :
    Calls Tryd.prog 69 #[.slice (some ⟨G, 0, none⟩) n n] W fun e w' => e = .returned (H (joined ps)) ∧ Below W.heap.size W w' := by
  subst hn
  exact of_any W ps _ G 0 _ ⟨fun _ => rfl, fun i hi => by rw [cell_block hG]; simp [hi], lt_block hG, hp⟩ ht hm hl

set_option maxRecDepth 100000 in
theorem partNew {w : World} {g : Nat} {l : List UInt8} {t : TypeId} {fr : Nat × Nat} (h : w.heap[g]? = some (.cells (l.map B).toArray t fr)) : (Part.mk (some ⟨g, 0, none⟩) g 0 l.length l).In w :=
  ⟨⟨fun _ => rfl, fun j hj => by rw [Nat.zero_add]; exact cellB h j hj⟩, Nat.le_refl _, lt_block h⟩

set_option maxRecDepth 100000 in
theorem of_abc (w1 : World) (g1 g2 g3 : Nat) (h1 : w1.heap[g1]? = some (.cells (([97] : List UInt8).map B).toArray 5 (1, 2))) (h2 : w1.heap[g2]? = some (.cells (([98, 99] : List UInt8).map B).toArray 5 (2, 3)))
    (h3 : w1.heap[g3]? = some (.cells #[.slice (some ⟨g1, 0, none⟩) 1 1, .slice (some ⟨g2, 0, none⟩) 2 2] 32 (0, 0))) (ht : Tab w1) :
    Calls Tryd.prog 69 #[.slice (some ⟨g3, 0, none⟩) 2 2] w1 fun e w' => e = .returned (H [97, 98, 99]) ∧ Below w1.heap.size w1 w' := by
  have hj : joined [⟨some ⟨g1, 0, none⟩, g1, 0, 1, [97]⟩, ⟨some ⟨g2, 0, none⟩, g2, 0, 2, [98, 99]⟩] = [97, 98, 99] := rfl
  rw [← hj]
  refine of_here w1 g3 2 [⟨some ⟨g1, 0, none⟩, g1, 0, 1, [97]⟩, ⟨some ⟨g2, 0, none⟩, g2, 0, 2, [98, 99]⟩] rfl h3 ?_ ht (by rw [hj]; decide) (by simp)
  intro p hp
  rcases List.mem_cons.1 hp with rfl | hp
  · exact partNew h1
  · rcases List.mem_cons.1 hp with rfl | hp
    · exact partNew h2
    · cases hp
set_option maxRecDepth 100000 in
theorem abc_facts : ∃ L : List Value, H [97, 98, 99] = .agg L.toArray ∧ L.length = 32 ∧ L[0]? = some (B 186) ∧ L[31]? = some (B 173) ∧ ∀ v ∈ L, v.oneCell' = true := by
  refine ⟨(shaOf [97, 98, 99]).map B, rfl, ?_, ?_, ?_, ?_⟩
  · rw [List.length_map, length_shaOf]
  · rw [abc]; rfl
  · rw [abc]; rfl
  · intro v hv; obtain ⟨x, _, rfl⟩ := List.mem_map.1 hv; rfl

end Go.Proofs.YtlhfdlfbnnfjjaaDoor
namespace Go.Proofs.YtlhfdlfbnnfjjaaDoor
open Go.RowKit

set_option maxRecDepth 100000 in
theorem ret_bool' {a b : Bool} (h : a = b) : Ending.returned (.bool a) = .returned (.bool b) := by rw [h]
def fewS (ps : List Part) : Nat := (ps.map (fun p => min p.l.length 10000)).sum
set_option maxRecDepth 100000 in
theorem fewS_snoc (ps : List Part) (k : Nat) (hk : k < ps.length) : fewS (ps.take (k + 1)) = fewS (ps.take k) + min ps[k].l.length 10000 := by
  unfold fewS
  rw [List.take_succ_eq_append_getElem hk, List.map_append, List.sum_append]; simp
set_option maxRecDepth 100000 in
theorem fewS_le : ∀ ps : List Part, fewS ps ≤ 10000 * ps.length
  | [] => by simp [fewS]
  | p :: ps => by
    have ih := fewS_le ps
    unfold fewS at ih ⊢
    simp only [List.map_cons, List.sum_cons, List.length_cons]
    omega
end Go.Proofs.YtlhfdlfbnnfjjaaDoor
namespace Go.Proofs.YtlhfdlfbnnfjjaaDoor
open Go.RowKit

/-- 32 truths, as cells -/
def bitsC (f : Nat → Bool) : List Value := (List.range 32).map fun i => .bool (f i)
set_option maxRecDepth 100000 in
theorem length_bitsC (f : Nat → Bool) : (bitsC f).length = 32 := by simp [bitsC]
set_option maxRecDepth 100000 in
theorem bitsC_get (f : Nat → Bool) (i : Nat) (h : i < 32) : (bitsC f)[i]? = some (.bool (f i)) := by simp [bitsC, h]
set_option maxRecDepth 100000 in
theorem bitsC_congr (f g : Nat → Bool) (h : ∀ i, i < 32 → f i = g i) : bitsC f = bitsC g := by
  unfold bitsC
  apply List.map_congr_left
  intro i hi
  rw [h i (List.mem_range.1 hi)]
set_option maxRecDepth 100000 in
theorem bitsC_set (f : Nat → Bool) (k : Nat) (b : Bool) : (bitsC f).set k (.bool b) = bitsC (fun i => if i = k then b else f i) := by
  apply List.ext_getElem?
  intro i
  by_cases hi : i < 32
  · rw [bitsC_get _ i hi, List.getElem?_set, bitsC_get _ i hi, length_bitsC]
    by_cases h : k = i
    · subst h; simp [hi]
    · simp [h, Ne.symm h]
  · rw [List.getElem?_eq_none (by rw [List.length_set, length_bitsC]; omega), List.getElem?_eq_none (by rw [length_bitsC]; omega)]
set_option maxRecDepth 100000 in
theorem one_bitsC (f : Nat → Bool) : ∀ v ∈ bitsC f, v.oneCell' = true := by
  intro v hv; obtain ⟨i, _, rfl⟩ := List.mem_map.1 hv; rfl
/-- a word, as 32 cells -/
def bitsV (x : BitVec 32) : List Value := bitsC x.getLsbD
set_option maxRecDepth 100000 in
theorem length_bitsV (x : BitVec 32) : (bitsV x).length = 32 := length_bitsC _
/-- a word, as a value -/
def BV (x : BitVec 32) : Value := .agg (bitsV x).toArray
set_option maxRecDepth 100000 in
theorem infoBits : (Tryd.prog.info? 108).map (·.size) = some 32 := by kernel_rfl
set_option maxRecDepth 100000 in
theorem infoBitsL (n : Nat) (h : n = 32) : (Tryd.prog.info? 108).map (·.size) = some n := by subst h; kernel_rfl

set_option maxRecDepth 100000 in
/-- blocks laid one behind the other -/
theorem heap_allocs : ∀ (os : List Obj) (w : World) (i : Nat), i < os.length → (os.foldl World.alloc w).heap[w.heap.size + i]? = os[i]?
  | [], _, _, h => by cases h
  | o :: os, w, 0, _ => by
    have : ∀ (os : List Obj) (w : World) (k : Nat), k < w.heap.size → (os.foldl World.alloc w).heap[k]? = w.heap[k]? := by
      intro os
      induction os with
      | nil => intro w k _; rfl
      | cons o os ih => intro w k hk; rw [List.foldl_cons, ih _ _ (by simp; omega), Below.heap_alloc _ _ _ hk]
    rw [List.foldl_cons, Nat.add_zero, this os _ _ (by simp), heap_alloc_new]; rfl
  | o :: os, w, i + 1, h => by
    have := heap_allocs os (w.alloc o) i (by simpa using h)
    rw [List.foldl_cons, show w.heap.size + (i + 1) = (w.alloc o).heap.size + i by simp; omega, this]; rfl
set_option maxRecDepth 100000 in
theorem below_allocs : ∀ (os : List Obj) (w : World) {B : Nat} {a : World}, Below B a w → B ≤ w.heap.size → Below B a (os.foldl World.alloc w)
  | [], _, _, _, h, _ => h
  | o :: os, w, _, _, h, hB => below_allocs os (w.alloc o) (h.alloc hB o) (by simp; omega)

/-- what a loop over the 32 places keeps: the words that it reads, the result's box, and the box it fills -/
structure BitRel (n : Nat) (ins : List (BitVec 32)) (f : Nat → Bool) (w wr : World) : Prop where
  src : ∀ i, (h : i < ins.length) → wr.heap[n + i]? = some (.cells (bitsV ins[i]).toArray 108 (0, 0))
  res : ∃ z, wr.heap[n + ins.length]? = some (.cells (bitsC z).toArray 108 (0, 0))
  out : wr.heap[n + ins.length + 1]? = some (.cells (bitsC f).toArray 108 (0, 0))
  below : Below n w wr
set_option maxRecDepth 100000 in
theorem BitRel.drewN {n : Nat} {ins : List (BitVec 32)} {f : Nat → Bool} {w wr : World} (h : BitRel n ins f w wr) (m : Nat) : BitRel n ins f w (wr.drewN m) := ⟨h.src, h.res, h.out, below_drewN h.below m⟩
set_option maxRecDepth 100000 in
theorem BitRel.cell {n : Nat} {ins : List (BitVec 32)} {f : Nat → Bool} {w wr : World} (h : BitRel n ins f w wr) (i : Nat) (hi : i < ins.length) (k : Nat) (hk : k < 32) : wr.cell? ⟨n + i, k, none⟩ = some (.bool (ins[i].getLsbD k)) := by
  rw [cell_block (h.src i hi), List.getElem?_toArray]; exact bitsC_get _ k hk
set_option maxRecDepth 100000 in
theorem BitRel.set {n : Nat} {ins : List (BitVec 32)} {f : Nat → Bool} {w wr : World} (h : BitRel n ins f w wr) (k : Nat) (b : Bool) : BitRel n ins (fun i => if i = k then b else f i) w (wr.setCell ⟨n + ins.length + 1, k, none⟩ (.bool b)) := by
  refine ⟨fun i hi => ?_, ?_, ?_, h.below.setCell (by simp; omega) _⟩
  · rw [heap_setCell_other _ _ _ _ (by simp; omega)]; exact h.src i hi
  · obtain ⟨z, hz⟩ := h.res; exact ⟨z, by rw [heap_setCell_other _ _ _ _ (by simp)]; exact hz⟩
  · rw [heap_setCell_same _ _ _ _ _ _ h.out, ← bitsC_set]; simp
set_option maxRecDepth 100000 in
theorem BitRel.congr {n : Nat} {ins : List (BitVec 32)} {f g : Nat → Bool} {w wr : World} (h : BitRel n ins f w wr) (e : ∀ i, i < 32 → f i = g i) : BitRel n ins g w wr := by
  exact ⟨h.src, h.res, by rw [← bitsC_congr f g e]; exact h.out, h.below⟩
set_option maxRecDepth 100000 in
theorem BitRel.outSome {n : Nat} {ins : List (BitVec 32)} {f : Nat → Bool} {w wr : World} (h : BitRel n ins f w wr) (k : Nat) (hk : k < 32) : wr.cell? ⟨n + ins.length + 1, k, none⟩ = some (.bool (f k)) := by
  rw [cell_block h.out, List.getElem?_toArray]; exact bitsC_get _ k hk
set_option maxRecDepth 100000 in
theorem BitRel.outFree {n : Nat} {ins : List (BitVec 32)} {f : Nat → Bool} {w wr : World} (h : BitRel n ins f w wr) (k : Nat) : wr.frozen? ⟨n + ins.length + 1, k, none⟩ = false := frozen_of_row wr _ k _ _ h.out
set_option maxRecDepth 100000 in
/-- the end: the box is copied into the result's -/
theorem BitRel.fin {n : Nat} {ins : List (BitVec 32)} {f : Nat → Bool} {w wr : World} (h : BitRel n ins f w wr) (hn : n = w.heap.size) :
    wr.rangeAt (n + ins.length + 1) 0 (bitsC f) ∧ wr.there (n + ins.length) 0 32 ∧ (wr.setCells (n + ins.length) 0 (bitsC f)).heap[n + ins.length]? = some (.cells (bitsC f).toArray 108 (0, 0)) ∧ Below w.heap.size w (wr.setCells (n + ins.length) 0 (bitsC f)) := by
  obtain ⟨z, hz⟩ := h.res
  subst hn
  refine ⟨range_block h.out, there_block hz 0 32 (by rw [length_bitsC]; omega), ?_, ?_⟩
  · rw [heap_setCells _ _ (bitsC f) 0 _ _ hz (by rw [length_bitsC, length_bitsC]; omega), over_all _ _ (by rw [length_bitsC, length_bitsC])]
  · exact (Kept1.setCells (b := w.heap.size + ins.length) _ (Or.inl rfl) _ _ ⟨h.below.os, h.below.tape, h.below.output, h.below.size, fun k hk _ => h.below.block k hk⟩).below (by omega)
end Go.Proofs.YtlhfdlfbnnfjjaaDoor
