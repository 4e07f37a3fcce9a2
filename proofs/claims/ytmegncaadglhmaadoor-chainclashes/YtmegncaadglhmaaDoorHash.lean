/- What a stream that took bytes holds, as plain lists. -/
import Derived.Test.YtmegncaadglhmaaDoorMix
namespace Go.Proofs.YtmegncaadglhmaaDoor
open Go.RowKit

/-- the k-th block of 64 bytes -/
def blk (l : List UInt8) (k : Nat) : List UInt8 := (l.drop (64 * k)).take 64
/-- the words behind k blocks -/
def hw (l : List UInt8) : Nat → St8
  | 0 => start8
  | k + 1 => mixW (hw l k) (blk l k)
/-- what a stream's words are: none ahead of the first whole block -/
def wordsOf (l : List UInt8) : St8 := if l.length < 64 then ⟨0, 0, 0, 0, 0, 0, 0, 0⟩ else hw l (l.length / 64)
/-- bytes written over others from k on -/
def setR (rest : List UInt8) (k : Nat) (bs : List UInt8) : List UInt8 := rest.take k ++ (bs ++ rest.drop (k + bs.length))
theorem length_setR (rest : List UInt8) (k : Nat) (bs : List UInt8) (h : k + bs.length ≤ rest.length) : (setR rest k bs).length = rest.length := by simp [setR]; omega

theorem blk_append (l m : List UInt8) (k : Nat) (h : 64 * k + 64 ≤ l.length) : blk (l ++ m) k = blk l k := by
  unfold blk
  rw [List.drop_append_of_le_length (by omega), List.take_append_of_le_length (by simp; omega)]
theorem hw_append (l m : List UInt8) : ∀ k, 64 * k ≤ l.length → hw (l ++ m) k = hw l k
  | 0, _ => rfl
  | k + 1, h => by rw [hw, hw, hw_append l m k (by omega), blk_append l m k (by omega)]

/-- what the rest of a block is, and the words, when bytes have been taken -/
structure Took (l : List UInt8) (s : St8) (rest : List UInt8) : Prop where
  words : s = wordsOf l
  len : rest.length = 64
  rest : rest.take (l.length % 64) = l.drop (64 * (l.length / 64))

theorem took_part {l : List UInt8} {s : St8} {rest : List UInt8} (h : Took l s rest) (bs : List UInt8) (hb : l.length % 64 + bs.length < 64) : Took (l ++ bs) s (setR rest (l.length % 64) bs) := by
  have h1 : (l.length + bs.length) / 64 = l.length / 64 := by omega
  have h2 : (l.length + bs.length) % 64 = l.length % 64 + bs.length := by omega
  refine ⟨?_, by rw [length_setR _ _ _ (by rw [h.len]; omega)]; exact h.len, ?_⟩
  · rw [h.words]
    unfold wordsOf
    rw [List.length_append, h1]
    by_cases hl : l.length < 64
    · rw [if_pos hl, if_pos (by omega)]
    · rw [if_neg hl, if_neg (by omega), hw_append _ _ _ (by omega)]
  · rw [List.length_append, h1, h2, List.drop_append_of_le_length (by omega), ← h.rest]
    unfold setR
    rw [← List.append_assoc, List.take_append_of_le_length (by simp [h.len]; omega), List.take_of_length_le (by simp [h.len]; omega)]
theorem took_full {l : List UInt8} {s : St8} {rest : List UInt8} (h : Took l s rest) (bs : List UInt8) (hb : l.length % 64 + bs.length = 64) :
    Took (l ++ bs) (mixW (if l.length + bs.length = 64 then start8 else s) (setR rest (l.length % 64) bs)) (setR rest (l.length % 64) bs) := by
  have h1 : (l.length + bs.length) / 64 = l.length / 64 + 1 := by omega
  have h2 : (l.length + bs.length) % 64 = 0 := by omega
  refine ⟨?_, by rw [length_setR _ _ _ (by rw [h.len]; omega)]; exact h.len, ?_⟩
  · have e1 : setR rest (l.length % 64) bs = blk (l ++ bs) (l.length / 64) := by
      unfold setR blk
      rw [List.drop_append_of_le_length (by omega), ← h.rest, List.drop_of_length_le (by rw [h.len]; omega), List.append_nil]
      exact (List.take_of_length_le (by simp [h.len]; omega)).symm
    have e2 : wordsOf (l ++ bs) = mixW (hw (l ++ bs) (l.length / 64)) (blk (l ++ bs) (l.length / 64)) := by
      unfold wordsOf
      rw [List.length_append, h1, if_neg (by omega)]; rfl
    rw [e1, e2]
    congr 1
    by_cases hl : l.length + bs.length = 64
    · rw [if_pos hl, show l.length / 64 = 0 by omega]; rfl
    · rw [if_neg hl, h.words, hw_append _ _ _ (by omega)]
      unfold wordsOf
      rw [if_neg (by omega)]
  · rw [List.length_append, h1, h2, List.drop_of_length_le (by simp; omega)]; rfl
theorem took_none (rest : List UInt8) (h : rest.length = 64) : Took [] ⟨0, 0, 0, 0, 0, 0, 0, 0⟩ rest := ⟨rfl, h, rfl⟩

/-- a stream that took l lies in block b -/
structure Holds (w : World) (b : Nat) (t : TypeId) (l : List UInt8) : Prop where
  here : ∃ s rest, Took l s rest ∧ DgAt w b t s rest l.length
theorem Holds.kept {w w' : World} {b c : Nat} {t : TypeId} {l : List UInt8} (h : Holds w b t l) (hk : Kept1 c w w') (hb : b ≠ c) : Holds w' b t l := by
  obtain ⟨s, rest, h1, h2⟩ := h.here; exact ⟨s, rest, h1, h2.kept hk hb⟩
theorem Holds.below {w w' : World} {b : Nat} {t : TypeId} {l : List UInt8} (h : Holds w b t l) (hk : Below w.heap.size w w') : Holds w' b t l := by
  obtain ⟨s, rest, h1, h2⟩ := h.here; exact ⟨s, rest, h1, h2.below hk⟩
theorem Holds.lt {w : World} {b : Nat} {t : TypeId} {l : List UInt8} (h : Holds w b t l) : b < w.heap.size := by
  obtain ⟨s, rest, _, h2⟩ := h.here; exact lt_block h2.blk

/-- the block behind a copy into its rest -/
theorem DgAt.copy {w : World} {b : Nat} {t : TypeId} {s : St8} {rest : List UInt8} {n : Nat} (h : DgAt w b t s rest n) (k : Nat) (bs : List UInt8) (hk : k + bs.length ≤ 64) :
    DgAt (w.setRow b ((dg s rest n).toArray.toList.take (8 + k) ++ (bs.map B ++ (dg s rest n).toArray.toList.drop (8 + k + (bs.map B).length))).toArray) b t s (setR rest k bs) n := by
  refine ⟨by rw [length_setR _ _ _ (by rw [h.len]; exact hk)]; exact h.len, ?_⟩
  rw [setRow_heap w b _ _ t _ h.blk]
  congr 2
  simp only [dg, setR]
  have e1 : (s.list.map W).length = 8 := rfl
  rw [List.take_append, List.drop_append, e1, List.take_of_length_le (by omega), List.drop_of_length_le (by omega)]
  simp only [Nat.add_sub_cancel_left, List.nil_append]
  rw [show 8 + k + (bs.map B).length - 8 = k + bs.length by simp; omega]
  have e2 : (rest.map B).length = 64 := by simp [h.len]
  rw [List.take_append_of_le_length (by omega), List.drop_append_of_le_length (by omega)]
  simp [List.map_take, List.map_drop]
theorem DgAt.setSize {w : World} {b : Nat} {t : TypeId} {s : St8} {rest : List UInt8} {n : Nat} (h : DgAt w b t s rest n) (m : Nat) : DgAt (w.setCell ⟨b, 72, none⟩ (.int .u64 (m : Int))) b t s rest m := by
  refine ⟨h.len, ?_⟩
  rw [heap_setCell_same w b 72 _ t _ h.blk]
  congr 2
  simp only [dg, List.setIfInBounds_toArray]
  rw [List.set_append_right _ _ (by simp [St8.list]), List.set_append_right _ _ (by simp [St8.list, h.len])]
  simp [St8.list, h.len]
end Go.Proofs.YtmegncaadglhmaaDoor
