/- P3.1: a value written. -/
import Derived.Test.YtebadbnlihbecaaCRaw
namespace Go.Proofs.Ytebadbnlihbecaa
open Go.RowKit

/-- what is written of a value that is no bag -/
def plainM (st : Option ByteArray) (x : Val) : Option ByteArray :=
  if x.k = 1 then unsM (unsM st x.k 1) (if x.i == 1 then 1 else 0) 1
  else if x.k = 2 ∨ x.k = 4 then putM (unsM st x.k 1) ⟨(numB (x.i % 18446744073709551616).toNat 8).toArray⟩
  else if x.k = 3 then textM (unsM st x.k 1) x.s
  else unsM st x.k 1

set_option maxRecDepth 100000 in
set_option maxHeartbeats 1000000 in
theorem outPlain_any (w : World) (t : Nat) (T : TypeId) (st : Option ByteArray) (x : Val) (hk : x.k < 2 ^ 63) (hs : x.s.size ≤ maxLen) (h : Tape w t T st) :
    Calls Try.prog 52 #[.pointer (some ⟨t, 0, none⟩), V x.k x.i x.s x.a x.n x.c] w fun e w' => e = .returned (.tuple #[]) ∧ Tape w' t T (plainM st x) ∧ Kept1 t w w' := by
  have hlt := h.lt
  have H := Lib.hid h
  have HS := Lib.hid hs
  have HK := Lib.hid hk
  clear h hs hk
  unfold V
  go_enter Try.func52, Try.ntmps52
  go_wp2_with fail
  generalize hW : World.alloc _ _ = W0
  have hb0 : Below w.heap.size w W0 := by rw [← hW]; exact (Below.refl _ _).alloc (Nat.le_refl _) _
  have hx0 : W0.heap[w.heap.size]? = some (.cells #[.int .i64 x.k, .int .i64 x.i, .string x.s, .slice x.a x.n x.c] 33 (0, 0)) := by rw [← hW]; exact heap_alloc_new _ _
  have U := Lib.hid (outU8_any W0 t T st x.k HK.out (H.out.below hb0))
  clear hW
  refine U.out.mono ?_
  rintro e w1 ⟨rfl, ht, hk1⟩
  have hx1 : w1.heap[w.heap.size]? = some (.cells #[.int .i64 x.k, .int .i64 x.i, .string x.s, .slice x.a x.n x.c] 33 (0, 0)) := (hk1.block _ (lt_block hx0) (by omega)).trans hx0
  have HK1 := Lib.hid (below_kept hb0 hk1)
  have HT := Lib.hid ht
  have hl1 : w.heap.size < w1.heap.size := lt_block hx1
  obtain ⟨x0, x1, x2, x3⟩ := cells4 hx1 ⟨w1, Below.refl _ _⟩
  dsimp only at x0 x1 x2 x3
  clear ht hk1 hx1 hx0 hb0 U
  have P : Hid (plainM st x = if x.k = 1 then unsM (unsM st x.k 1) (if x.i == 1 then 1 else 0) 1
    else if x.k = 2 ∨ x.k = 4 then putM (unsM st x.k 1) ⟨(numB (x.i % 18446744073709551616).toNat 8).toArray⟩
    else if x.k = 3 then textM (unsM st x.k 1) x.s
    else unsM st x.k 1) := Lib.hid rfl
  by_cases h1 : x.k = 1
  · have b1 : (x.k == 1) = true := by simpa using h1
    have C := Lib.hid (outFlag_any w1 t T (unsM st x.k 1) (x.i == 1) HT.out)
    go_wp2_with fail
    refine C.out.mono ?_
    rintro e w2 ⟨rfl, ht, hk⟩
    have HT2 := Lib.hid ht
    have HK2 := Lib.hid (HK1.out.trans hk)
    clear ht hk C
    go_wp2_with fail
    go_end0
    rw [P.out, if_pos (by simpa using b1)]
    exact ⟨rfl, HT2.out, HK2.out⟩
  have b1 : (x.k == 1) = false := by simpa using h1
  by_cases h2 : x.k = 2
  · have b2 : (x.k == 2) = true := by simpa using h2
    have C := Lib.hid (outI64_any w1 t T (unsM st x.k 1) x.i HT.out)
    go_wp2_with fail
    refine C.out.mono ?_
    rintro e w2 ⟨rfl, ht, hk⟩
    have HT2 := Lib.hid ht
    have HK2 := Lib.hid (HK1.out.trans hk)
    clear ht hk C
    go_wp2_with fail
    go_end0
    rw [P.out, if_neg (by simpa using b1), if_pos (.inl (by simpa using b2))]
    exact ⟨rfl, HT2.out, HK2.out⟩
  have b2 : (x.k == 2) = false := by simpa using h2
  by_cases h4 : x.k = 4
  · have b4 : (x.k == 4) = true := by simpa using h4
    have C := Lib.hid (outI64_any w1 t T (unsM st x.k 1) x.i HT.out)
    go_wp2_with fail
    refine C.out.mono ?_
    rintro e w2 ⟨rfl, ht, hk⟩
    have HT2 := Lib.hid ht
    have HK2 := Lib.hid (HK1.out.trans hk)
    clear ht hk C
    go_wp2_with fail
    go_end0
    rw [P.out, if_neg (by simpa using b1), if_pos (.inr (by simpa using b4))]
    exact ⟨rfl, HT2.out, HK2.out⟩
  have b4 : (x.k == 4) = false := by simpa using h4
  by_cases h3 : x.k = 3
  · have b3 : (x.k == 3) = true := by simpa using h3
    have C := Lib.hid (outText_any w1 t T (unsM st x.k 1) x.s HS.out HT.out)
    go_wp2_with fail
    refine C.out.mono ?_
    rintro e w2 ⟨rfl, ht, hk⟩
    have HT2 := Lib.hid ht
    have HK2 := Lib.hid (HK1.out.trans hk)
    clear ht hk C
    go_wp2_with fail
    go_end0
    rw [P.out, if_neg (by simpa using b1), if_neg (by simp at b2 b4; simp [b2, b4]), if_pos (by simpa using b3)]
    exact ⟨rfl, HT2.out, HK2.out⟩
  have b3 : (x.k == 3) = false := by simpa using h3
  go_wp2_with fail
  go_end0
  rw [P.out, if_neg (by simpa using b1), if_neg (by simp at b2 b4; simp [b2, b4]), if_neg (by simpa using b3)]
  exact ⟨rfl, HT.out, HK1.out⟩
end Go.Proofs.Ytebadbnlihbecaa
