/- What a call leaves alone: every block but one, or every old block. No program is named here. -/
import Derived.WalkKit
import Derived.WalkSmall
import Derived.Deep.MidRow
import Derived.Deep.Draws
import Derived.Deep.QuietTactic
import Derived.Lib.Hide
namespace Go.Proofs.YtllgodaphoncnaaGreatDoor
open Go.RowKit

/-- every old block but b is as it was -/
structure Kept1 (b : Nat) (w w' : World) : Prop where
  os : w'.os = w.os
  tape : w'.tape = w.tape
  output : w'.output = w.output
  size : w.heap.size ≤ w'.heap.size
  block : ∀ k, k < w.heap.size → k ≠ b → w'.heap[k]? = w.heap[k]?

set_option maxRecDepth 100000 in
theorem Kept1.refl (b : Nat) (w : World) : Kept1 b w w := ⟨rfl, rfl, rfl, Nat.le_refl _, fun _ _ _ => rfl⟩
set_option maxRecDepth 100000 in
theorem Kept1.trans {b : Nat} {a w w' : World} (h : Kept1 b a w) (k : Kept1 b w w') : Kept1 b a w' :=
  ⟨k.os.trans h.os, k.tape.trans h.tape, k.output.trans h.output, Nat.le_trans h.size k.size, fun i hi hb => (k.block i (Nat.lt_of_lt_of_le hi h.size) hb).trans (h.block i hi hb)⟩
set_option maxRecDepth 100000 in
theorem Kept1.of_below {b : Nat} {a w : World} (h : Below a.heap.size a w) : Kept1 b a w := ⟨h.os, h.tape, h.output, h.size, fun k hk _ => h.block k hk⟩
set_option maxRecDepth 100000 in
theorem Kept1.drewN {b : Nat} {a w : World} (h : Kept1 b a w) (n : Nat) : Kept1 b a (w.drewN n) := ⟨h.os, h.tape, h.output, h.size, h.block⟩
set_option maxRecDepth 100000 in
theorem Kept1.drew {b : Nat} {a w : World} (h : Kept1 b a w) : Kept1 b a w.drew := ⟨h.os, h.tape, h.output, h.size, h.block⟩
set_option maxRecDepth 100000 in
theorem Kept1.alloc {b : Nat} {a w : World} (h : Kept1 b a w) (o : Obj) : Kept1 b a (w.alloc o) :=
  h.trans (.of_below ((Below.refl _ _).alloc (Nat.le_refl _) o))
set_option maxRecDepth 100000 in
theorem Kept1.setCell {b : Nat} {a w : World} (h : Kept1 b a w) (p : Addr) (hp : p.block = b ∨ a.heap.size ≤ p.block) (u : Value) : Kept1 b a (w.setCell p u) :=
  ⟨h.os, h.tape, h.output, by simpa [World.setCell] using h.size, fun k hk hb => (Below.heap_setCell w p u k (by rcases hp with hp | hp <;> omega)).trans (h.block k hk hb)⟩
set_option maxRecDepth 100000 in
theorem Kept1.setCells {b : Nat} {a : World} (g : Nat) (hp : g = b ∨ a.heap.size ≤ g) : ∀ (vs : List Value) (o : Nat) {w : World}, Kept1 b a w → Kept1 b a (w.setCells g o vs)
  | [], _, _, h => h
  | v :: vs, o, _, h => Kept1.setCells g hp vs (o + 1) (h.setCell ⟨g, o, none⟩ hp v)
set_option maxRecDepth 100000 in
theorem Kept1.setRow {b : Nat} {a w : World} (h : Kept1 b a w) (g : Nat) (hp : g = b ∨ a.heap.size ≤ g) (cs : Array Value) : Kept1 b a (w.setRow g cs) :=
  ⟨h.os, h.tape, h.output, by simpa using h.size, fun k hk hb => by
    refine Eq.trans ?_ (h.block k hk hb)
    have : k ≠ g := by rcases hp with hp | hp <;> omega
    simp [World.setRow, Array.getElem?_modify, Ne.symm this]⟩
set_option maxRecDepth 100000 in
theorem Kept1.cell {b : Nat} {w w' : World} (h : Kept1 b w w') {p : Addr} (hp : p.block < w.heap.size) (hb : p.block ≠ b) : w'.cell? p = w.cell? p := World.cell?_of_block (w := w) (h.block p.block hp hb)
set_option maxRecDepth 100000 in
/-- a block that is new is all that was turned -/
theorem Kept1.below {b : Nat} {a w : World} (h : Kept1 b a w) (hb : a.heap.size ≤ b) : Below a.heap.size a w :=
  ⟨h.os, h.tape, h.output, h.size, fun k hk => h.block k hk (by omega)⟩
set_option maxRecDepth 100000 in
theorem Kept1.mono {b : Nat} {a w w' : World} (h : Below a.heap.size a w) (k : Kept1 b w w') (hb : a.heap.size ≤ b) : Below a.heap.size a w' :=
  ⟨k.os.trans h.os, k.tape.trans h.tape, k.output.trans h.output, Nat.le_trans h.size k.size, fun i hi => (k.block i (Nat.lt_of_lt_of_le hi h.size) (by omega)).trans (h.block i hi)⟩

set_option maxRecDepth 100000 in
/-- a callee that leaves the world as it was, met in a quiet region -/
theorem Calls.quiet_w {P : Program} {f : FuncId} {args : Array Value} {w : World} {n : Nat} {v : Value}
    (h : Calls P f args (w.drewN n) fun e w' => e = .returned v ∧ w.drewN n = w') : Calls P f args (w.drewN n) fun e w'' => e = .returned v ∧ ∃ m, w'' = w.drewN m :=
  h.mono fun _ _ ⟨he, hm⟩ => ⟨he, n, hm.symm⟩

/-- bytes, as cells -/
abbrev B (c : UInt8) : Value := .int .u8 (c.toNat : Int)
/-- words, as cells -/
abbrev W (x : BitVec 32) : Value := .int .u32 (x.toNat : Int)

set_option maxRecDepth 100000 in
theorem cell_block {w : World} {g : Nat} {C : Array Value} {t : TypeId} {fr : Nat × Nat} (h : w.heap[g]? = some (.cells C t fr)) (j : Nat) : w.cell? ⟨g, j, none⟩ = C[j]? := cell_of_row w g j C t fr h
set_option maxRecDepth 100000 in
theorem lt_block {w : World} {g : Nat} {o : Obj} (h : w.heap[g]? = some o) : g < w.heap.size := by
  rcases Nat.lt_or_ge g w.heap.size with k | k
  · exact k
  · rw [Array.getElem?_eq_none (by omega)] at h; cases h

/-- a list with vs written over it from o on -/
def over (L : List Value) (o : Nat) (vs : List Value) : List Value := L.take o ++ (vs ++ L.drop (o + vs.length))
set_option maxRecDepth 100000 in
theorem length_over (L : List Value) (o : Nat) (vs : List Value) (h : o + vs.length ≤ L.length) : (over L o vs).length = L.length := by simp [over]; omega
set_option maxRecDepth 100000 in
theorem set_over (L : List Value) (o : Nat) (v : Value) (vs : List Value) (h : o + (vs.length + 1) ≤ L.length) : over (L.set o v) (o + 1) vs = over L o (v :: vs) := by
  apply List.ext_getElem?
  intro i
  simp only [over, List.getElem?_append, List.length_take, List.length_set, List.getElem?_take, List.getElem?_set, List.getElem?_drop, List.length_cons, List.cons_append, List.getElem?_cons]
  grind

set_option maxRecDepth 100000 in
theorem heap_setCells (g : Nat) (t : TypeId) : ∀ (vs : List Value) (o : Nat) (L : List Value) (w : World), w.heap[g]? = some (.cells L.toArray t (0, 0)) → o + vs.length ≤ L.length →
    (w.setCells g o vs).heap[g]? = some (.cells (over L o vs).toArray t (0, 0))
  | [], o, L, w, h, _ => by simpa [World.setCells, over] using h
  | v :: vs, o, L, w, h, hl => by
    have h1 : (w.setCell ⟨g, o, none⟩ v).heap[g]? = some (.cells (L.set o v).toArray t (0, 0)) := by
      rw [heap_setCell_same w g o L.toArray t v h]; simp
    have := heap_setCells g t vs (o + 1) (L.set o v) _ h1 (by simp at hl ⊢; omega)
    rw [set_over L o v vs (by simpa using hl)] at this
    simpa [World.setCells] using this
end Go.Proofs.YtllgodaphoncnaaGreatDoor
