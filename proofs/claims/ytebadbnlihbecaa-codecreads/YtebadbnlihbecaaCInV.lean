/- P3.2: a value read. -/
import Derived.Test.YtebadbnlihbecaaCOutV
namespace Go.Proofs.Ytebadbnlihbecaa
open Go.RowKit

/-- what is read behind a kind, of what is no bag -/
def inPlainM (st : Option ByteArray) (k : Int) : Val × Option ByteArray :=
  if k = 1 then (⟨k, if (flagM st).1 then 1 else 0, ⟨#[]⟩, none, 0, 0⟩, (flagM st).2)
  else if k = 2 ∨ k = 4 then (⟨k, wrap64 (numM st 8).1, ⟨#[]⟩, none, 0, 0⟩, (numM st 8).2)
  else if k = 3 then (⟨k, 0, (inTextM st 64).1, none, 0, 0⟩, (inTextM st 64).2)
  else (⟨k, 0, ⟨#[]⟩, none, 0, 0⟩, st)
theorem Tape.set1 {w : World} {t : Nat} {T : TypeId} {st : Option ByteArray} (h : Tape w t T st) (b o : Nat) (hb : b ≠ t) (x : Value) : Tape (w.setCell ⟨b, o, none⟩ x) t T st :=
  h.on (Below.heap_setCell w ⟨b, o, none⟩ x t (Ne.symm hb))
theorem Tape.set4 {w : World} {t : Nat} {T : TypeId} {st : Option ByteArray} (h : Tape w t T st) (b : Nat) (hb : b ≠ t) (x y z u : Value) : Tape ((((w.setCell ⟨b, 0, none⟩ x).setCell ⟨b, 1, none⟩ y).setCell ⟨b, 2, none⟩ z).setCell ⟨b, 3, none⟩ u) t T st :=
  (((h.set1 b 0 hb x).set1 b 1 hb y).set1 b 2 hb z).set1 b 3 hb u
theorem Kept1.set4 {t : Nat} {a w : World} (h : Kept1 t a w) (b : Nat) (hb : a.heap.size ≤ b) (x y z u : Value) : Kept1 t a ((((w.setCell ⟨b, 0, none⟩ x).setCell ⟨b, 1, none⟩ y).setCell ⟨b, 2, none⟩ z).setCell ⟨b, 3, none⟩ u) :=
  (((h.setCell ⟨b, 0, none⟩ (.inr hb) x).setCell ⟨b, 1, none⟩ (.inr hb) y).setCell ⟨b, 2, none⟩ (.inr hb) z).setCell ⟨b, 3, none⟩ (.inr hb) u

set_option maxRecDepth 100000 in
set_option maxHeartbeats 2000000 in
theorem inPlain_any (w : World) (t : Nat) (T : TypeId) (st : Option ByteArray) (k : Int) (h : Tape w t T st) :
    Calls Try.prog 42 #[.pointer (some ⟨t, 0, none⟩), .int .i64 k] w fun e w' => e = .returned (inPlainM st k).1.v ∧ Tape w' t T (inPlainM st k).2 ∧ Kept1 t w w' := by
  have hlt := h.lt
  have H := Lib.hid h
  clear h
  obtain ⟨W2, hW2⟩ : ∃ W2, (w.alloc (.cells #[.int .i64 0, .int .i64 0, .string ⟨#[]⟩, .slice none 0 0] 33)).alloc (.cells #[.int .i64 k, .int .i64 0, .string ⟨#[]⟩, .slice none 0 0] 33) = W2 := ⟨_, rfl⟩
  have hB : Below w.heap.size w W2 := by rw [← hW2]; exact ((Below.refl _ _).alloc (Nat.le_refl _) _).alloc (by simp) _
  have hz : W2.heap[w.heap.size]? = some (.cells #[.int .i64 0, .int .i64 0, .string ⟨#[]⟩, .slice none 0 0] 33 (0, 0)) := by rw [← hW2]; exact (two_blocks w _ _).1
  have hv : W2.heap[w.heap.size + 1]? = some (.cells #[.int .i64 k, .int .i64 0, .string ⟨#[]⟩, .slice none 0 0] 33 (0, 0)) := by rw [← hW2]; exact (two_blocks w _ _).2
  have HW2 := Lib.hid hW2
  have HB := Lib.hid hB
  have HZ := Lib.hid hz
  have HV := Lib.hid hv
  have HT2 := Lib.hid (H.out.below hB)
  clear hW2 hB hz hv
  cases b1 : k == 1
  case true =>
    obtain ⟨fl, hfl⟩ : ∃ fl, flagM st = fl := ⟨_, rfl⟩
    obtain ⟨fb, fs⟩ := fl
    have C0 := inFlag_any W2 t T st HT2.out
    rw [hfl] at C0
    cases fb
    · have C := Lib.hid (C0)
      go_enter Try.func42, Try.ntmps42
      go_wp2_with fail
      rw [HW2.out]
      refine C.out.mono ?_
      rintro e w1 ⟨rfl, ht, hk⟩
      have hz1 := (hk.block _ (lt_block HZ.out) (by omega)).trans HZ.out
      have hv1 := (hk.block _ (lt_block HV.out) (by omega)).trans HV.out
      obtain ⟨z0, z1, z2, z3⟩ := cells4 hz1 ⟨w1, Below.refl _ _⟩
      obtain ⟨v0, v1, v2, v3⟩ := cells4 hv1 ⟨w1, Below.refl _ _⟩
      dsimp only at z0 z1 z2 z3 v0 v1 v2 v3
      have zf : ∀ o, w1.frozen? ⟨w.heap.size, o, none⟩ = false := fun o => by simp [World.frozen?, hz1]
      have vf : ∀ o, w1.frozen? ⟨w.heap.size + 1, o, none⟩ = false := fun o => by simp [World.frozen?, hv1]
      have hl1 : w.heap.size + 1 < w1.heap.size := lt_block hv1
      have hl0 : w.heap.size < w1.heap.size := lt_block hz1
      have HT := Lib.hid ht
      have HK := Lib.hid (below_kept HB.out hk)
      clear ht hk hz1 hv1
      clear C
      go_wp2_with fail
      refine bodyPost_ret (v := V k 0 ⟨#[]⟩ none 0 0) (by simp [results, Try.results42, go_sem, z0, z1, z2, z3, V]) rfl ?_
      have e : inPlainM st k = (⟨k, 0, ⟨#[]⟩, none, 0, 0⟩, fs) := by rw [inPlainM, if_pos (by simpa using b1), hfl]; rfl
      rw [e]
      exact ⟨rfl, HT.out.set4 w.heap.size (by omega) _ _ _ _, HK.out.set4 w.heap.size (Nat.le_refl _) _ _ _ _⟩
    · have C := Lib.hid (C0)
      go_enter Try.func42, Try.ntmps42
      go_wp2_with fail
      rw [HW2.out]
      refine C.out.mono ?_
      rintro e w1 ⟨rfl, ht, hk⟩
      have hz1 := (hk.block _ (lt_block HZ.out) (by omega)).trans HZ.out
      have hv1 := (hk.block _ (lt_block HV.out) (by omega)).trans HV.out
      obtain ⟨z0, z1, z2, z3⟩ := cells4 hz1 ⟨w1, Below.refl _ _⟩
      obtain ⟨v0, v1, v2, v3⟩ := cells4 hv1 ⟨w1, Below.refl _ _⟩
      dsimp only at z0 z1 z2 z3 v0 v1 v2 v3
      have zf : ∀ o, w1.frozen? ⟨w.heap.size, o, none⟩ = false := fun o => by simp [World.frozen?, hz1]
      have vf : ∀ o, w1.frozen? ⟨w.heap.size + 1, o, none⟩ = false := fun o => by simp [World.frozen?, hv1]
      have hl1 : w.heap.size + 1 < w1.heap.size := lt_block hv1
      have hl0 : w.heap.size < w1.heap.size := lt_block hz1
      have HT := Lib.hid ht
      have HK := Lib.hid (below_kept HB.out hk)
      clear ht hk hz1 hv1
      clear C
      go_wp2_with fail
      refine bodyPost_ret (v := V k 1 ⟨#[]⟩ none 0 0) (by simp [results, Try.results42, go_sem, z0, z1, z2, z3, V]) rfl ?_
      have e : inPlainM st k = (⟨k, 1, ⟨#[]⟩, none, 0, 0⟩, fs) := by rw [inPlainM, if_pos (by simpa using b1), hfl]; rfl
      rw [e]
      exact ⟨rfl, (HT.out.set1 (w.heap.size + 1) 1 (by omega) _).set4 w.heap.size (by omega) _ _ _ _, (HK.out.setCell ⟨w.heap.size + 1, 1, none⟩ (.inr (by show w.heap.size ≤ w.heap.size + 1; omega)) _).set4 w.heap.size (Nat.le_refl _) _ _ _ _⟩
  cases b2 : k == 2
  case true =>
    obtain ⟨nm, hnm⟩ : ∃ nm, numM st 8 = nm := ⟨_, rfl⟩
    obtain ⟨n8, s8⟩ := nm
    have C0 := inI64_any W2 t T st HT2.out
    rw [hnm] at C0
    dsimp only at C0
    have C := Lib.hid (C0)
    go_enter Try.func42, Try.ntmps42
    go_wp2_with fail
    rw [HW2.out]
    refine C.out.mono ?_
    rintro e w1 ⟨rfl, ht, hk⟩
    have hz1 := (hk.block _ (lt_block HZ.out) (by omega)).trans HZ.out
    have hv1 := (hk.block _ (lt_block HV.out) (by omega)).trans HV.out
    obtain ⟨z0, z1, z2, z3⟩ := cells4 hz1 ⟨w1, Below.refl _ _⟩
    obtain ⟨v0, v1, v2, v3⟩ := cells4 hv1 ⟨w1, Below.refl _ _⟩
    dsimp only at z0 z1 z2 z3 v0 v1 v2 v3
    have zf : ∀ o, w1.frozen? ⟨w.heap.size, o, none⟩ = false := fun o => by simp [World.frozen?, hz1]
    have vf : ∀ o, w1.frozen? ⟨w.heap.size + 1, o, none⟩ = false := fun o => by simp [World.frozen?, hv1]
    have hl1 : w.heap.size + 1 < w1.heap.size := lt_block hv1
    have hl0 : w.heap.size < w1.heap.size := lt_block hz1
    have HT := Lib.hid ht
    have HK := Lib.hid (below_kept HB.out hk)
    clear ht hk hz1 hv1
    clear C
    go_wp2_with fail
    refine bodyPost_ret (v := V k (wrap64 n8) ⟨#[]⟩ none 0 0) (by simp [results, Try.results42, go_sem, z0, z1, z2, z3, V]) rfl ?_
    have e : inPlainM st k = (⟨k, wrap64 n8, ⟨#[]⟩, none, 0, 0⟩, s8) := by rw [inPlainM, if_neg (by simpa using b1), if_pos (.inl (by simpa using b2)), hnm]
    rw [e]
    exact ⟨rfl, (HT.out.set1 (w.heap.size + 1) 1 (by omega) _).set4 w.heap.size (by omega) _ _ _ _, (HK.out.setCell ⟨w.heap.size + 1, 1, none⟩ (.inr (by show w.heap.size ≤ w.heap.size + 1; omega)) _).set4 w.heap.size (Nat.le_refl _) _ _ _ _⟩
  cases b4 : k == 4
  case true =>
    obtain ⟨nm, hnm⟩ : ∃ nm, numM st 8 = nm := ⟨_, rfl⟩
    obtain ⟨n8, s8⟩ := nm
    have C0 := inI64_any W2 t T st HT2.out
    rw [hnm] at C0
    dsimp only at C0
    have C := Lib.hid (C0)
    go_enter Try.func42, Try.ntmps42
    go_wp2_with fail
    rw [HW2.out]
    refine C.out.mono ?_
    rintro e w1 ⟨rfl, ht, hk⟩
    have hz1 := (hk.block _ (lt_block HZ.out) (by omega)).trans HZ.out
    have hv1 := (hk.block _ (lt_block HV.out) (by omega)).trans HV.out
    obtain ⟨z0, z1, z2, z3⟩ := cells4 hz1 ⟨w1, Below.refl _ _⟩
    obtain ⟨v0, v1, v2, v3⟩ := cells4 hv1 ⟨w1, Below.refl _ _⟩
    dsimp only at z0 z1 z2 z3 v0 v1 v2 v3
    have zf : ∀ o, w1.frozen? ⟨w.heap.size, o, none⟩ = false := fun o => by simp [World.frozen?, hz1]
    have vf : ∀ o, w1.frozen? ⟨w.heap.size + 1, o, none⟩ = false := fun o => by simp [World.frozen?, hv1]
    have hl1 : w.heap.size + 1 < w1.heap.size := lt_block hv1
    have hl0 : w.heap.size < w1.heap.size := lt_block hz1
    have HT := Lib.hid ht
    have HK := Lib.hid (below_kept HB.out hk)
    clear ht hk hz1 hv1
    clear C
    go_wp2_with fail
    refine bodyPost_ret (v := V k (wrap64 n8) ⟨#[]⟩ none 0 0) (by simp [results, Try.results42, go_sem, z0, z1, z2, z3, V]) rfl ?_
    have e : inPlainM st k = (⟨k, wrap64 n8, ⟨#[]⟩, none, 0, 0⟩, s8) := by rw [inPlainM, if_neg (by simpa using b1), if_pos (.inr (by simpa using b4)), hnm]
    rw [e]
    exact ⟨rfl, (HT.out.set1 (w.heap.size + 1) 1 (by omega) _).set4 w.heap.size (by omega) _ _ _ _, (HK.out.setCell ⟨w.heap.size + 1, 1, none⟩ (.inr (by show w.heap.size ≤ w.heap.size + 1; omega)) _).set4 w.heap.size (Nat.le_refl _) _ _ _ _⟩
  cases b3 : k == 3
  case true =>
    obtain ⟨nm, hnm⟩ : ∃ nm, inTextM st 64 = nm := ⟨_, rfl⟩
    obtain ⟨tx, s8⟩ := nm
    have C0 := inText_any W2 t T st 64 HT2.out
    rw [hnm] at C0
    dsimp only at C0
    have C := Lib.hid (C0)
    go_enter Try.func42, Try.ntmps42
    go_wp2_with fail
    rw [HW2.out]
    refine C.out.mono ?_
    rintro e w1 ⟨rfl, ht, hk⟩
    have hz1 := (hk.block _ (lt_block HZ.out) (by omega)).trans HZ.out
    have hv1 := (hk.block _ (lt_block HV.out) (by omega)).trans HV.out
    obtain ⟨z0, z1, z2, z3⟩ := cells4 hz1 ⟨w1, Below.refl _ _⟩
    obtain ⟨v0, v1, v2, v3⟩ := cells4 hv1 ⟨w1, Below.refl _ _⟩
    dsimp only at z0 z1 z2 z3 v0 v1 v2 v3
    have zf : ∀ o, w1.frozen? ⟨w.heap.size, o, none⟩ = false := fun o => by simp [World.frozen?, hz1]
    have vf : ∀ o, w1.frozen? ⟨w.heap.size + 1, o, none⟩ = false := fun o => by simp [World.frozen?, hv1]
    have hl1 : w.heap.size + 1 < w1.heap.size := lt_block hv1
    have hl0 : w.heap.size < w1.heap.size := lt_block hz1
    have HT := Lib.hid ht
    have HK := Lib.hid (below_kept HB.out hk)
    clear ht hk hz1 hv1
    clear C
    go_wp2_with fail
    refine bodyPost_ret (v := V k 0 tx none 0 0) (by simp [results, Try.results42, go_sem, z0, z1, z2, z3, V]) rfl ?_
    have e : inPlainM st k = (⟨k, 0, tx, none, 0, 0⟩, s8) := by rw [inPlainM, if_neg (by simpa using b1), if_neg (by simp at b2 b4; simp [b2, b4]), if_pos (by simpa using b3), hnm]
    rw [e]
    exact ⟨rfl, (HT.out.set1 (w.heap.size + 1) 2 (by omega) _).set4 w.heap.size (by omega) _ _ _ _, (HK.out.setCell ⟨w.heap.size + 1, 2, none⟩ (.inr (by show w.heap.size ≤ w.heap.size + 1; omega)) _).set4 w.heap.size (Nat.le_refl _) _ _ _ _⟩
  go_enter Try.func42, Try.ntmps42
  go_wp2_with fail
  have hBk : Below w.heap.size w ((w.alloc (.cells #[.int .i64 k, .int .i64 0, .string ⟨#[]⟩, .slice none 0 0] 33)).alloc (.cells #[.int .i64 k, .int .i64 0, .string ⟨#[]⟩, .slice none 0 0] 33)) := ((Below.refl _ _).alloc (Nat.le_refl _) _).alloc (by simp) _
  have hzk := (two_blocks w (.cells #[.int .i64 k, .int .i64 0, .string ⟨#[]⟩, .slice none 0 0] 33) (.cells #[.int .i64 k, .int .i64 0, .string ⟨#[]⟩, .slice none 0 0] 33)).1
  obtain ⟨z0, z1, z2, z3⟩ := cells4 hzk ⟨_, Below.refl _ _⟩
  dsimp only at z0 z1 z2 z3
  refine bodyPost_ret (v := V k 0 ⟨#[]⟩ none 0 0) (by simp [results, Try.results42, go_sem, z0, z1, z2, z3, V]) rfl ?_
  have e : inPlainM st k = (⟨k, 0, ⟨#[]⟩, none, 0, 0⟩, st) := by rw [inPlainM, if_neg (by simpa using b1), if_neg (by simp at b2 b4; simp [b2, b4]), if_neg (by simpa using b3)]
  rw [e]
  exact ⟨rfl, H.out.below hBk, Kept1.of_below hBk⟩

/-- a bag's values are read: so many -/
def memN : Nat → Option ByteArray → List Val × Option ByteArray
  | 0, st => ([], st)
  | n + 1, st => ((memN n st).1 ++ [(inPlainM (numM (memN n st).2 1).2 (numM (memN n st).2 1).1).1], (inPlainM (numM (memN n st).2 1).2 (numM (memN n st).2 1).1).2)
/-- a bag's count and values are read -/
def memM (st : Option ByteArray) : List Val × Option ByteArray :=
  if (numM st 1).1 ≤ 16 then (if (numM st 1).2.isSome then memN (numM st 1).1 (numM st 1).2 else ([], none)) else ([], none)
theorem inTextM_small (st : Option ByteArray) (most : Int) : (inTextM st most).1.size ≤ 4096 := by
  unfold inTextM
  split
  · rename_i h
    have := takeM_le (numM st 2).2 (numM st 2).1
    omega
  · exact Nat.zero_le _
theorem inPlainM_small (st : Option ByteArray) (k : Int) : (inPlainM st k).1.s.size ≤ maxLen := by
  have := inTextM_small st 64
  unfold inPlainM maxLen
  split
  · exact Nat.zero_le _
  split
  · exact Nat.zero_le _
  split
  · show (inTextM st 64).1.size ≤ _
    omega
  · exact Nat.zero_le _
theorem inPlainM_bare (st : Option ByteArray) (k : Int) : (inPlainM st k).1.a = none ∧ (inPlainM st k).1.n = 0 ∧ (inPlainM st k).1.c = 0 ∧ (inPlainM st k).1.k = k := by
  unfold inPlainM
  repeat' split
  all_goals exact ⟨rfl, rfl, rfl, rfl⟩
theorem memN_length (n : Nat) (st : Option ByteArray) : (memN n st).1.length = n := by
  induction n with
  | zero => rfl
  | succ n ih => simp only [memN, List.length_append, ih]; rfl
theorem memN_small (n : Nat) (st : Option ByteArray) : ∀ x ∈ (memN n st).1, x.s.size ≤ maxLen := by
  induction n with
  | zero => intro x hx; cases hx
  | succ n ih =>
    intro x hx
    simp only [memN, List.mem_append, List.mem_singleton] at hx
    rcases hx with hx | rfl
    · exact ih x hx
    · exact inPlainM_small _ _
end Go.Proofs.Ytebadbnlihbecaa
