/- Read. -/
import Derived.Test.YtammnjfccjfbhaaDFuse
import Derived.Test.YtammnjfccjfbhaaFreshOp
import Derived.Deep.WholeRow
namespace Go.Proofs.Ytammnjfccjfbhaa
open Go.RowKit

/-- 64 noughts -/
def z64 : List UInt8 := List.replicate 64 0
theorem length_z64 : z64.length = 64 := rfl
theorem zero_sec : ∀ w, (zeroValue 64).run Try.prog w = .ok (.agg (z64.map B).toArray) w := fun _ => by kernel_rfl
theorem info_sec (n : Nat) (h : n = 64) : (Try.prog.info? 64).map (·.size) = some n := by subst h; kernel_rfl
theorem range_row {w : World} {g : Nat} {t : TypeId} {fr : Nat × Nat} {R : List (List Value)} {k : Nat} (h : w.heap[g]? = some (.cells R.flatten.toArray t fr)) (hw : Wide k R) (i : Nat) (hi : i < R.length) : w.rangeAt g (i * k) R[i] := fun j v hv => by
  have hj : j < k := by have := (List.getElem?_eq_some_iff.1 hv).1; rwa [hw _ (List.getElem_mem hi)] at this
  rw [cell_block h, List.getElem?_toArray, get_flat hw i hi j hj, hv]
theorem range_block0 {w : World} {g : Nat} {t : TypeId} {fr : Nat × Nat} {L : List Value} (h : w.heap[g]? = some (.cells L.toArray t fr)) : w.rangeAt g 0 L := fun j v hv => by
  rw [cell_block h, Nat.zero_add, List.getElem?_toArray, hv]
theorem there_blk {w : World} {g : Nat} {t : TypeId} {L : List Value} (h : w.heap[g]? = some (.cells L.toArray t (0, 0))) (o n : Nat) (hl : o + n ≤ L.length) : w.there g o n := fun j hj =>
  ⟨by rw [cell_block h]; simp; omega, frozen_of_row w g _ _ _ h⟩
/-- a sector's cells -/
theorem DAt.range {w : World} {N d gs : Nat} {v : Value} {s : DSt} (h : DAt w N d gs v s) (i : Nat) (hi : i < s.S.length) : w.rangeAt gs (i * 64) (s.S[i].map B) := by
  have := range_row h.sec (wide_secs h.ok.len) i (by simpa using hi)
  simpa using this

theorem read_gone (w : World) (N d gs : Nat) (v : Value) (s : DSt) (h : DAt w N d gs v s) (hg : s.gone = true) (i : Int) :
    Calls Try.prog 13 #[.pointer (some ⟨d, 0, none⟩), .int .i64 i] w fun e w' => e = .returned (.tuple #[.slice none 0 0, .int .i64 5]) ∧ w = w' := by
  obtain ⟨c0, c1, c2, c3⟩ := h.cell
  rw [hg] at c3
  clear h c0 c1 c2 hg
  go_enter Try.func13, Try.ntmps13
  go_wp2_with fail
  go_ret2
  exact ⟨rfl, rfl⟩
theorem read_arg (w : World) (N d gs : Nat) (v : Value) (s : DSt) (h : DAt w N d gs v s) (hg : s.gone = false) (i : Int) (hi : ¬ (0 ≤ i ∧ i < s.S.length)) :
    Calls Try.prog 13 #[.pointer (some ⟨d, 0, none⟩), .int .i64 i] w fun e w' => e = .returned (.tuple #[.slice none 0 0, .int .i64 1]) ∧ w = w' := by
  obtain ⟨c0, c1, c2, c3⟩ := h.cell
  rw [hg] at c3
  have H := Lib.hid h
  have Hi := Lib.hid hi
  clear h c0 c1 c2 hg hi
  go_enter Try.func13, Try.ntmps13
  go_wp2_with fail
  refine (has_no w N d gs v s H.out i Hi.out).mono ?_
  rintro e w' ⟨rfl, rfl⟩
  go_wp2_with fail
  go_ret2
  exact ⟨rfl, rfl⟩
set_option maxRecDepth 100000 in
theorem read_any (w : World) (N d gs : Nat) (v : Value) (s : DSt) (h : DAt w N d gs v s) (hg : s.gone = false) (i : Nat) (hi : i < s.S.length) (b : List UInt8) (hb : s.S[i]? = some b) :
    Calls Try.prog 13 #[.pointer (some ⟨d, 0, none⟩), .int .i64 (i : Int)] w fun e w' => e = .returned (.tuple #[.slice (some ⟨w.heap.size, 0, none⟩) 64 64, .int .i64 0]) ∧ Below w.heap.size w w' ∧
      w'.heap[w.heap.size]? = some (.cells (b.map B).toArray 64 (0, 0)) ∧ w'.heap.size = w.heap.size + 1 := by
  obtain ⟨c0, c1, c2, c3⟩ := h.cell
  rw [hg] at c3
  have hr := h.range i hi
  have hbi : s.S[i] = b := by rw [List.getElem?_eq_getElem hi] at hb; exact Option.some.inj hb
  have hlb : (b.map B).length = 64 := by rw [List.length_map, ← hbi]; exact h.ok.len _ (List.getElem_mem hi)
  rw [hbi] at hr
  have hone := one_bytes b
  generalize b.map B = L at *
  have H := Lib.hid h
  have hlim := h.ok.lim
  have hz := zero_sec
  have hzl : (z64.map B).length = 64 := rfl
  generalize z64.map B = Z at *
  have Hr := Lib.hid hr
  have Hl := Lib.hid hlb
  have Hz := Lib.hid hzl
  have d2 : decide ((i : Int) < (s.S.length : Int)) = true := by simp; omega
  clear h c1 c2 hg hr hb hbi hlb hzl
  go_enter Try.func13, Try.ntmps13
  go_wp2_with fail
  refine (has_yes w N d gs v s H.out i hi).mono ?_
  rintro e w' ⟨rfl, rfl⟩
  go_wp2_with (first
    | (refine wpList_load_mid rfl 64 (.tmp 20) rfl gs (i * 64) rfl L _ Hr.out Try.underlying64 rfl (info_sec _ Hl.out) ?_)
    | (refine wpList_store_row rfl 64 (.tmp 6) (.tmp 21) rfl w.heap.size L.toArray rfl rfl 64 Z.toArray (heap_alloc_new _ _) (info_sec _ (by simp [Hl.out])) (by simp [Hl.out, Hz.out]) (all_oneCell_toArray hone) ?_))
  go_ret2
  have s1 := set1_setRow (w := w.alloc (.cells Z.toArray 64)) (G := w.heap.size) (cells := L.toArray) (heap_alloc_new _ _)
  exact ⟨rfl, s1.below ((Below.refl _ _).alloc (Nat.le_refl _) _) (Nat.le_refl _), s1.new, by rw [s1.size]; simp⟩
end Go.Proofs.Ytammnjfccjfbhaa
