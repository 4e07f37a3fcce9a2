/- Rows of one width, and a disk's state, as plain lists; what lies where in memory. No program is named here. -/
import Derived.Test.YtammnjfccjfbhaaMem
namespace Go.Proofs.Ytammnjfccjfbhaa
open Go.RowKit

/-- all of one width -/
def Wide (k : Nat) (R : List (List Value)) : Prop := ∀ r ∈ R, r.length = k
theorem Wide.tail {k : Nat} {r : List Value} {R : List (List Value)} (h : Wide k (r :: R)) : Wide k R := fun x hx => h x (List.mem_cons_of_mem _ hx)
theorem Wide.drop {k : Nat} {R : List (List Value)} (h : Wide k R) (i : Nat) : Wide k (R.drop i) := fun x hx => h x (List.mem_of_mem_drop hx)
theorem Wide.take {k : Nat} {R : List (List Value)} (h : Wide k R) (i : Nat) : Wide k (R.take i) := fun x hx => h x (List.mem_of_mem_take hx)
theorem length_flat {k : Nat} : ∀ {R : List (List Value)}, Wide k R → R.flatten.length = R.length * k
  | [], _ => by simp
  | r :: R, h => by
    rw [List.flatten_cons, List.length_append, length_flat h.tail, h r (List.mem_cons_self ..), List.length_cons, Nat.add_mul]; omega
theorem drop_flat {k : Nat} {R : List (List Value)} (h : Wide k R) (i : Nat) (hi : i ≤ R.length) : R.flatten.drop (i * k) = (R.drop i).flatten := by
  have e : R.flatten = (R.take i).flatten ++ (R.drop i).flatten := by rw [← List.flatten_append, List.take_append_drop]
  rw [e, List.drop_left' (by rw [length_flat (h.take i), List.length_take, Nat.min_eq_left hi])]
theorem take_flat {k : Nat} {R : List (List Value)} (h : Wide k R) (i : Nat) (hi : i ≤ R.length) : R.flatten.take (i * k) = (R.take i).flatten := by
  have e : R.flatten = (R.take i).flatten ++ (R.drop i).flatten := by rw [← List.flatten_append, List.take_append_drop]
  rw [e, List.take_left' (by rw [length_flat (h.take i), List.length_take, Nat.min_eq_left hi])]
theorem get_flat {k : Nat} {R : List (List Value)} (h : Wide k R) (i : Nat) (hi : i < R.length) (j : Nat) (hj : j < k) : R.flatten[i * k + j]? = (R[i])[j]? := by
  rw [← List.getElem?_drop, drop_flat h i (by omega), List.drop_eq_getElem_cons hi, List.flatten_cons, List.getElem?_append_left (by rw [h _ (List.getElem_mem hi)]; exact hj)]
theorem over_flat {k : Nat} {R : List (List Value)} (h : Wide k R) (i : Nat) (hi : i < R.length) (vs : List Value) (hv : vs.length = k) : over R.flatten (i * k) vs = (R.set i vs).flatten := by
  unfold over
  rw [hv, show i * k + k = (i + 1) * k by rw [Nat.add_mul]; omega, take_flat h i (by omega), drop_flat h (i + 1) (by omega), List.set_eq_take_append_cons_drop, if_pos hi]
  simp

/-- a write that waits -/
structure WrR where
  place : Nat
  before : List UInt8
  after : List UInt8
/-- a disk's state -/
structure DSt where
  S : List (List UInt8)
  ws : List WrR
  fuse : Int
  gone : Bool
def WrR.cells (r : WrR) : List Value := .int .i64 (r.place : Int) :: (r.before.map B ++ r.after.map B)
def secsC (S : List (List UInt8)) : List Value := (S.map fun s => s.map B).flatten
def cellsW (ws : List WrR) : List Value := (ws.map WrR.cells).flatten
/-- a state that may be -/
structure DSt.Ok (s : DSt) : Prop where
  len : ∀ x ∈ s.S, x.length = 64
  lim : s.S.length ≤ 8192
  wok : ∀ r ∈ s.ws, r.place < s.S.length ∧ r.before.length = 64 ∧ r.after.length = 64
theorem wide_secs {S : List (List UInt8)} (h : ∀ x ∈ S, x.length = 64) : Wide 64 (S.map fun s => s.map B) := by
  intro r hr
  obtain ⟨x, hx, rfl⟩ := List.mem_map.1 hr
  simpa using h x hx
theorem wide_ws {ws : List WrR} (h : ∀ r ∈ ws, r.before.length = 64 ∧ r.after.length = 64) : Wide 129 (ws.map WrR.cells) := by
  intro r hr
  obtain ⟨x, hx, rfl⟩ := List.mem_map.1 hr
  have := h x hx
  simp [WrR.cells]; omega
theorem length_secs {S : List (List UInt8)} (h : ∀ x ∈ S, x.length = 64) : (secsC S).length = S.length * 64 := by
  unfold secsC; rw [length_flat (wide_secs h), List.length_map]
theorem one_bytes (l : List UInt8) : ∀ v ∈ l.map B, v.oneCell' = true := by
  intro v hv
  obtain ⟨x, _, rfl⟩ := List.mem_map.1 hv
  rfl
theorem one_wr (r : WrR) : ∀ v ∈ r.cells, v.oneCell' = true := by
  intro v hv
  simp only [WrR.cells, List.mem_cons, List.mem_append] at hv
  rcases hv with rfl | hv | hv
  · rfl
  · exact one_bytes _ v hv
  · exact one_bytes _ v hv
theorem secs_set {S : List (List UInt8)} (h : ∀ x ∈ S, x.length = 64) (i : Nat) (hi : i < S.length) (b : List UInt8) (hb : b.length = 64) : over (secsC S) (i * 64) (b.map B) = secsC (S.set i b) := by
  unfold secsC
  rw [over_flat (wide_secs h) i (by simpa using hi) _ (by simpa using hb), List.map_set]

/-- every block but those of F is as it was -/
structure KeptF (F : Nat → Prop) (w w' : World) : Prop where
  os : w'.os = w.os
  tape : w'.tape = w.tape
  output : w'.output = w.output
  size : w.heap.size ≤ w'.heap.size
  block : ∀ k, k < w.heap.size → ¬ F k → w'.heap[k]? = w.heap[k]?
theorem KeptF.refl (F : Nat → Prop) (w : World) : KeptF F w w := ⟨rfl, rfl, rfl, Nat.le_refl _, fun _ _ _ => rfl⟩
theorem KeptF.trans {F G : Nat → Prop} {a w w' : World} (h : KeptF F a w) (k : KeptF G w w') (hG : ∀ i, i < a.heap.size → G i → F i) : KeptF F a w' :=
  ⟨k.os.trans h.os, k.tape.trans h.tape, k.output.trans h.output, Nat.le_trans h.size k.size, fun i hi hb => (k.block i (Nat.lt_of_lt_of_le hi h.size) (fun hg => hb (hG i hi hg))).trans (h.block i hi hb)⟩
theorem KeptF.of_below {F : Nat → Prop} {a w : World} (h : Below a.heap.size a w) : KeptF F a w := ⟨h.os, h.tape, h.output, h.size, fun k hk _ => h.block k hk⟩
theorem KeptF.of_kept1 {F : Nat → Prop} {b : Nat} {a w : World} (h : Kept1 b a w) (hb : b < a.heap.size → F b) : KeptF F a w :=
  ⟨h.os, h.tape, h.output, h.size, fun k hk hF => h.block k hk (fun e => hF (by subst e; exact hb hk))⟩
theorem KeptF.of_grown {F : Nat → Prop} {a w : World} {o : Option Nat} (h : a.grownBy w o) (hb : ∀ b, o = some b → F b) : KeptF F a w :=
  ⟨h.os, h.tape, h.output, h.size, fun k hk hF => h.block k hk (fun e => hF (hb k e.symm))⟩
theorem KeptF.heap {F : Nat → Prop} {w w' : World} (h : KeptF F w w') {k : Nat} {o : Obj} (hk : w.heap[k]? = some o) (hF : ¬ F k) : w'.heap[k]? = some o := (h.block k (lt_block hk) hF).trans hk
/-- blocks that are new are all that was turned -/
theorem KeptF.below {F : Nat → Prop} {a w : World} (h : KeptF F a w) (hb : ∀ k, F k → a.heap.size ≤ k) : Below a.heap.size a w :=
  ⟨h.os, h.tape, h.output, h.size, fun k hk => h.block k hk (fun hF => by have := hb k hF; omega)⟩
theorem KeptF.mono {F : Nat → Prop} {B : Nat} {a w w' : World} (h : Below B a w) (k : KeptF F w w') (hB : B ≤ a.heap.size) (hb : ∀ k, F k → B ≤ k) : Below B a w' :=
  ⟨k.os.trans h.os, k.tape.trans h.tape, k.output.trans h.output, Nat.le_trans h.size k.size, fun i hi => (k.block i (by have := h.size; omega) (fun hF => by have := hb i hF; omega)).trans (h.block i hi)⟩
theorem KeptF.wider {F G : Nat → Prop} {a w : World} (h : KeptF F a w) (hFG : ∀ k, F k → G k) : KeptF G a w := ⟨h.os, h.tape, h.output, h.size, fun k hk hG => h.block k hk (fun hF => hG (hFG k hF))⟩
end Go.Proofs.Ytammnjfccjfbhaa
