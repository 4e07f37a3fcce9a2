/- P3.1, P3.2: the tape that goes wrong. -/
import Derived.Test.YtebadbnlihbecaaVOne
namespace Go.Proofs.Ytebadbnlihbecaa
open Go.RowKit

/-- a tape's cells: none, if it is bad; else its bytes -/
def tapeC : Option ByteArray → Array Value
  | none => #[.string ⟨#[]⟩, .bool true]
  | some s => #[.string s, .bool false]
/-- a tape at a block -/
structure Tape (w : World) (t : Nat) (T : TypeId) (st : Option ByteArray) : Prop where
  blk : w.heap[t]? = some (.cells (tapeC st) T (0, 0))
  size : ∀ s, st = some s → s.size ≤ maxLen
def tapeB (st : Option ByteArray) : ByteArray := st.getD ⟨#[]⟩
theorem Tape.c0 {w : World} {t : Nat} {T : TypeId} {st : Option ByteArray} (h : Tape w t T st) : w.cell? ⟨t, 0, none⟩ = some (.string (tapeB st)) := by
  rw [cell_block h.blk 0]; cases st <;> rfl
theorem Tape.c1 {w : World} {t : Nat} {T : TypeId} {st : Option ByteArray} (h : Tape w t T st) : w.cell? ⟨t, 1, none⟩ = some (.bool st.isNone) := by
  rw [cell_block h.blk 1]; cases st <;> rfl
theorem Tape.fz {w : World} {t : Nat} {T : TypeId} {st : Option ByteArray} (h : Tape w t T st) (o : Nat) : w.frozen? ⟨t, o, none⟩ = false := by
  simp [World.frozen?, h.blk]
theorem Tape.lt {w : World} {t : Nat} {T : TypeId} {st : Option ByteArray} (h : Tape w t T st) : t < w.heap.size := lt_block h.blk
theorem Tape.on {w w' : World} {t : Nat} {T : TypeId} {st : Option ByteArray} (h : Tape w t T st) (hk : w'.heap[t]? = w.heap[t]?) : Tape w' t T st := ⟨hk.trans h.blk, h.size⟩
theorem Tape.below {w w' : World} {t : Nat} {T : TypeId} {st : Option ByteArray} (h : Tape w t T st) (hk : Below w.heap.size w w') : Tape w' t T st := h.on (hk.block _ h.lt)
theorem Tape.set0 {w : World} {t : Nat} {T : TypeId} {s : ByteArray} (h : Tape w t T (some s)) (s' : ByteArray) (hs : s'.size ≤ maxLen) : Tape (w.setCell ⟨t, 0, none⟩ (.string s')) t T (some s') :=
  ⟨by rw [heap_setCell_same w t 0 _ T _ h.blk]; rfl, fun _ e => by cases e; exact hs⟩
theorem Tape.spoil {w : World} {t : Nat} {T : TypeId} {st : Option ByteArray} (h : Tape w t T st) : Tape ((w.setCell ⟨t, 0, none⟩ (.string ⟨#[]⟩)).setCell ⟨t, 1, none⟩ (.bool true)) t T none := by
  have h1 := heap_setCell_same w t 0 _ T (.string ⟨#[]⟩) h.blk
  have h2 := heap_setCell_same _ t 1 _ T (.bool true) h1
  exact ⟨by rw [h2]; cases st <;> rfl, fun _ e => by cases e⟩
theorem kept_set2 {w : World} {t : Nat} (x y : Value) : Kept1 t w ((w.setCell ⟨t, 0, none⟩ x).setCell ⟨t, 1, none⟩ y) := ((Kept1.refl t w).setCell ⟨t, 0, none⟩ (.inl rfl) x).setCell ⟨t, 1, none⟩ (.inl rfl) y

set_option maxRecDepth 100000 in
set_option maxHeartbeats 1000000 in
theorem must_any (w : World) (t : Nat) (T : TypeId) (st : Option ByteArray) (b : Bool) (h : Tape w t T st) :
    Calls Try.prog 40 #[.pointer (some ⟨t, 0, none⟩), .bool b] w fun e w' => e = .returned (.bool (b && st.isSome)) ∧ Tape w' t T (if b then st else none) ∧ Kept1 t w w' := by
  have c0 := h.c0
  have c1 := h.c1
  have cf := h.fz
  have hlt := h.lt
  have H := Lib.hid h
  clear h
  go_enter Try.func40, Try.ntmps40
  cases b
  · go_wp2_with fail
    go_ret
    exact ⟨by simp, H.out.spoil, kept_set2 _ _⟩
  · go_wp2_with fail
    go_ret
    refine ⟨by cases st <;> rfl, H.out, Kept1.refl _ _⟩
end Go.Proofs.Ytebadbnlihbecaa
