/- Two lists with one head: what follows of the last place at which they, or the heads ahead, aren't the same. -/
import Derived.Test.YtmegncaadglhmaaDoorKQuiet
namespace Go.Proofs.YtmegncaadglhmaaDoor
open Go.RowKit

/-- the text that is linked -/
def linkT (P l : List UInt8) : List UInt8 := P ++ (len4 l.length ++ l)
theorem lnk_text (P l : List UInt8) : lnk P l = shaOf (linkT P l) := rfl
theorem length_len4 (n : Nat) : (len4 n).length = 4 := rfl
theorem linkT_inj {P Q a b : List UInt8} (hP : P.length = 32) (hQ : Q.length = 32) (h : linkT P a = linkT Q b) : P = Q ∧ a = b := by
  unfold linkT at h
  obtain ⟨h1, h2⟩ := List.append_inj h (by rw [hP, hQ])
  exact ⟨h1, (List.append_inj h2 (by rw [length_len4, length_len4])).2⟩
/-- at this place both records, and the heads ahead, are the same -/
def SameAt (ps qs : List Part) (i : Nat) : Prop := folded z32 (ps.take i) = folded z32 (qs.take i) ∧ (txs ps)[i]? = (txs qs)[i]?
def NoneAt (ps qs : List Part) (k : Nat) : Prop := ∀ j, j < k → SameAt ps qs j
/-- the last place below k at which they aren't -/
structure LastAt (ps qs : List Part) (k i : Nat) : Prop where
  lt : i < k
  ne : ¬ SameAt ps qs i
  rest : ∀ j, i < j → j < k → SameAt ps qs j
theorem txs_get (ps : List Part) (i : Nat) (hi : i < ps.length) : (txs ps)[i]? = some ps[i].l := by simp [txs, hi]
theorem txs_take (ps : List Part) (i : Nat) : txs (ps.take i) = (txs ps).take i := by simp [txs, List.map_take]
theorem same_of_none {ps qs : List Part} (hl : ps.length = qs.length) (h : NoneAt ps qs ps.length) : txs ps = txs qs := by
  apply List.ext_getElem?
  intro i
  rcases Nat.lt_or_ge i ps.length with hi | hi
  · exact (h i hi).2
  · rw [List.getElem?_eq_none (by simp [txs]; omega), List.getElem?_eq_none (by simp [txs]; omega)]
theorem folded_txs' (P : List UInt8) (ps qs : List Part) (h : txs ps = txs qs) : folded P ps = folded P qs := by
  have e : ∀ l : List Part, folded P l = (txs l).foldl lnk P := fun l => by unfold folded txs; rw [List.foldl_map]
  rw [e, e, h]
theorem none_of_same {ps qs : List Part} (h : txs ps = txs qs) (i : Nat) : SameAt ps qs i :=
  ⟨folded_txs' z32 _ _ (by rw [txs_take, txs_take, h]), by rw [h]⟩
theorem clash_texts {ps qs : List Part} {i : Nat} (hl : ps.length = qs.length) (h : LastAt ps qs ps.length i) (hf : folded z32 ps = folded z32 qs) (hi : i < ps.length) (hj : i < qs.length) :
    linkT (folded z32 (ps.take i)) ps[i].l ≠ linkT (folded z32 (qs.take i)) qs[i].l ∧ shaOf (linkT (folded z32 (ps.take i)) ps[i].l) = shaOf (linkT (folded z32 (qs.take i)) qs[i].l) := by
  constructor
  · intro e
    obtain ⟨e1, e2⟩ := linkT_inj (length_folded z32 rfl _) (length_folded z32 rfl _) e
    exact h.ne ⟨e1, by rw [txs_get ps i hi, txs_get qs i hj, e2]⟩
  · rw [← lnk_text, ← lnk_text, ← folded_snoc z32 ps i hi, ← folded_snoc z32 qs i hj]
    by_cases hn : i + 1 < ps.length
    · exact (h.rest (i + 1) (by omega) hn).1
    · rw [show i + 1 = ps.length by omega, List.take_length, hl, List.take_length]; exact hf
theorem NoneAt.succ {ps qs : List Part} {k : Nat} (h : NoneAt ps qs k) (hs : SameAt ps qs k) : NoneAt ps qs (k + 1) := fun j hj => by
  rcases Nat.lt_or_ge j k with h1 | h1
  · exact h j h1
  · obtain rfl : j = k := by omega
    exact hs
theorem LastAt.succ {ps qs : List Part} {k i : Nat} (h : LastAt ps qs k i) (hs : SameAt ps qs k) : LastAt ps qs (k + 1) i :=
  ⟨by have := h.lt; omega, h.ne, fun j h1 h2 => by
    rcases Nat.lt_or_ge j k with h3 | h3
    · exact h.rest j h1 h3
    · obtain rfl : j = k := by omega
      exact hs⟩
theorem LastAt.here {ps qs : List Part} {k : Nat} (hs : ¬ SameAt ps qs k) : LastAt ps qs (k + 1) k := ⟨by omega, hs, fun j h1 h2 => by omega⟩
theorem sameAt_iff {ps qs : List Part} {k : Nat} (hp : k < ps.length) (hq : k < qs.length) : SameAt ps qs k ↔ ((folded z32 (ps.take k) == folded z32 (qs.take k)) = true ∧ (ps[k].l == qs[k].l) = true) := by
  unfold SameAt
  rw [txs_get ps k hp, txs_get qs k hq]
  simp
/-- what the loop of clash keeps -/
structure ClRel (w : World) (ps qs : List Part) (k : Nat) (last : Value) (wr : World) : Prop where
  a : wr.heap[w.heap.size]? = some (.cells ((folded z32 (ps.take k)).map B).toArray 26 (0, 0))
  b : wr.heap[w.heap.size + 1]? = some (.cells ((folded z32 (qs.take k)).map B).toArray 26 (0, 0))
  last : ∃ LA LB : List UInt8, LA.length = 32 ∧ LB.length = 32 ∧ wr.heap[w.heap.size + 1 + 1]? = some (.cells (LA.map B).toArray 26 (0, 0)) ∧ wr.heap[w.heap.size + 1 + 1 + 1]? = some (.cells (LB.map B).toArray 26 (0, 0)) ∧
    ((last = .int .i64 (-1) ∧ NoneAt ps qs k) ∨ ∃ i : Nat, last = .int .i64 (i : Int) ∧ LastAt ps qs k i ∧ LA = folded z32 (ps.take i) ∧ LB = folded z32 (qs.take i))
  below : Below w.heap.size w wr
end Go.Proofs.YtmegncaadglhmaaDoor
