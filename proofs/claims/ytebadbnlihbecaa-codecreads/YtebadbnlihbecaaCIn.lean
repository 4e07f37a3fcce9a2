/- P3.2: what is read: bytes, numbers. -/
import Derived.Test.YtebadbnlihbecaaCTape
import Derived.Test.YtebadbnlihbecaaQTail
import Derived.Laws.Bits64b
namespace Go.Proofs.Ytebadbnlihbecaa
open Go.RowKit

/-- the next n bytes, and the tape behind them -/
def takeM : Option ByteArray → Int → ByteArray × Option ByteArray
  | none, _ => (⟨#[]⟩, none)
  | some s, n => if 0 ≤ n ∧ n ≤ s.size then (s.extract 0 n.toNat, some (s.extract n.toNat s.size)) else (⟨#[]⟩, none)

theorem takeM_no {st : Option ByteArray} {n : Int} (h : ¬ (0 ≤ n ∧ n ≤ (tapeB st).size)) : takeM st n = (⟨#[]⟩, none) := by
  cases st with
  | none => rfl
  | some s => exact if_neg h
theorem takeM_yes {s : ByteArray} {n : Int} (h : 0 ≤ n ∧ n ≤ s.size) : takeM (some s) n = (s.extract 0 n.toNat, some (s.extract n.toNat s.size)) := if_pos h
set_option maxRecDepth 100000 in
set_option maxHeartbeats 1000000 in
theorem take_any (w : World) (t : Nat) (T : TypeId) (st : Option ByteArray) (n : Int) (h : Tape w t T st) :
    Calls Try.prog 41 #[.pointer (some ⟨t, 0, none⟩), .int .i64 n] w fun e w' => e = .returned (.string (takeM st n).1) ∧ Tape w' t T (takeM st n).2 ∧ Kept1 t w w' := by
  have c0 := fun m : Bl w => (h.below m.below).c0
  have hlt := h.lt
  have H := Lib.hid h
  have hsz : (tapeB st).size ≤ maxLen := by cases st with
    | none => exact Nat.zero_le _
    | some s => exact h.size s rfl
  unfold maxLen at hsz
  clear h
  go_enter Try.func41, Try.ntmps41
  go_wp2_with fail
  by_cases h0 : 0 ≤ n
  · by_cases h1 : n ≤ (tapeB st).size
    · refine wp_region_quiet_tailB 15 (by kernel_rfl) (by kernel_rfl) ?_
      simp only [List.take_succ_cons, List.take_zero, List.drop_succ_cons, List.drop_zero]
      iterate 15 (go_big_quiet_step (fail))
      refine wpQuiet_nil ?_
      intro m
      go_wp2_with fail
      refine (must_any m.wr t T st true (H.out.below m.below)).mono ?_
      rintro e w1 ⟨rfl, ht, hk⟩
      have HB := Lib.hid ((Kept1.of_below (b := t) m.below).trans hk)
      clear hk c0
      cases st with
      | none =>
        have HT := Lib.hid ht
        clear ht
        go_wp2_with fail
        go_ret
        exact ⟨rfl, HT.out, HB.out⟩
      | some s =>
        have d0 := ht.c0
        have df := ht.fz
        have dl := ht.lt
        have HT := Lib.hid ht
        clear ht
        have e1 : tapeB (some s) = s := rfl
        simp only [if_true, e1] at d0 df dl h1 hsz HT
        go_wp2_with fail
        go_ret
        rw [takeM_yes ⟨h0, h1⟩]
        exact ⟨rfl, HT.out.set0 _ (by unfold maxLen; simp; omega), HB.out.setCell ⟨t, 0, none⟩ (.inl rfl) _⟩
    · refine wp_region_quiet_tailB 15 (by kernel_rfl) (by kernel_rfl) ?_
      simp only [List.take_succ_cons, List.take_zero, List.drop_succ_cons, List.drop_zero]
      iterate 15 (go_big_quiet_step (fail))
      refine wpQuiet_nil ?_
      intro m
      go_wp2_with fail
      refine (must_any m.wr t T st false (H.out.below m.below)).mono ?_
      rintro e w1 ⟨rfl, ht, hk⟩
      have HB := Lib.hid ((Kept1.of_below (b := t) m.below).trans hk)
      have HT := Lib.hid ht
      clear hk c0 ht
      go_wp2_with fail
      go_ret
      rw [takeM_no (fun h => absurd h.2 (by omega))]
      exact ⟨rfl, HT.out, HB.out⟩
  · refine wp_region_quiet_tailB 15 (by kernel_rfl) (by kernel_rfl) ?_
    simp only [List.take_succ_cons, List.take_zero, List.drop_succ_cons, List.drop_zero]
    iterate 15 (go_big_quiet_step (fail))
    refine wpQuiet_nil ?_
    intro m
    go_wp2_with fail
    refine (must_any m.wr t T st false (H.out.below m.below)).mono ?_
    rintro e w1 ⟨rfl, ht, hk⟩
    have HB := Lib.hid ((Kept1.of_below (b := t) m.below).trans hk)
    have HT := Lib.hid ht
    clear hk c0 ht
    go_wp2_with fail
    go_ret
    rw [takeM_no (fun h => absurd h.1 (by omega))]
    exact ⟨rfl, HT.out, HB.out⟩

/-- the number that bytes make, the most significant first -/
def numU (l : List UInt8) : Nat := l.foldl (fun n c => n * 256 + c.toNat) 0
theorem numU_snoc (l : List UInt8) (c : UInt8) : numU (l ++ [c]) = numU l * 256 + c.toNat := by simp [numU]
theorem numU_lt (l : List UInt8) : numU l < 256 ^ l.length := by
  have key : ∀ (l : List UInt8) (n k : Nat), n < 256 ^ k → l.foldl (fun n c => n * 256 + c.toNat) n < 256 ^ (k + l.length) := by
    intro l
    induction l with
    | nil => intro n k h; exact h
    | cons c l ih =>
      intro n k h
      have hc := c.toNat_lt
      have := ih (n * 256 + c.toNat) (k + 1) (by rw [Nat.pow_succ]; omega)
      simp only [List.foldl_cons, List.length_cons]
      rw [show k + (l.length + 1) = k + 1 + l.length by omega]
      exact this
  have := key l 0 0 (by decide)
  rwa [Nat.zero_add] at this
theorem or_byte (N : Nat) (c : UInt8) (h : N < 256 ^ 7) : bits .or .u64 (IntKind.u64.wrap ((N : Int) * 256)) (IntKind.u64.wrap (c.toNat : Int)) = ((N * 256 + c.toNat : Nat) : Int) := by
  have hc := c.toNat_lt
  have e1 : IntKind.u64.wrap ((N : Int) * 256) = ((N * 256 : Nat) : Int) := by rw [IntKind.wrap_u64]; omega
  have e2 : IntKind.u64.wrap (c.toNat : Int) = ((c.toNat : Nat) : Int) := by rw [IntKind.wrap_u64]; omega
  rw [e1, e2, bits_or_u64_nat _ _ (by omega) (by omega)]
  have := Nat.two_pow_add_eq_or_of_lt (i := 8) (b := c.toNat) (by omega) N
  rw [Nat.mul_comm N 256, show (256 : Nat) = 2 ^ 8 from rfl, ← this]
/-- what is read of a number of so many bytes -/
def numM (st : Option ByteArray) (size : Nat) : Nat × Option ByteArray := (numU (takeM st size).1.toList, (takeM st size).2)

set_option maxRecDepth 100000 in
set_option maxHeartbeats 1000000 in
theorem inNumber_any (w : World) (t : Nat) (T : TypeId) (st : Option ByteArray) (size : Nat) (hs : size ≤ 8) (h : Tape w t T st) :
    Calls Try.prog 39 #[.pointer (some ⟨t, 0, none⟩), .int .i64 size] w fun e w' => e = .returned (.int .u64 (numM st size).1) ∧ Tape w' t T (numM st size).2 ∧ Kept1 t w w' := by
  have HC := Lib.hid (take_any w t T st size h)
  have hle : (takeM st size).1.size ≤ 8 := by
    cases st with
    | none => exact Nat.zero_le _
    | some s =>
      by_cases h : (0 : Int) ≤ size ∧ (size : Int) ≤ s.size
      · rw [takeM_yes h]; simp; omega
      · rw [takeM_no h]; exact Nat.zero_le _
  unfold numM
  generalize takeM st size = r at *
  obtain ⟨r, st'⟩ := r
  dsimp only at hle HC ⊢
  clear h
  go_enter Try.func39, Try.ntmps39
  go_wp2_with fail
  refine HC.out.mono ?_
  rintro e w1 ⟨rfl, ht, hk⟩
  have HT := Lib.hid ht
  have HK := Lib.hid hk
  clear ht hk HC
  go_wp2_with fail
  have hlen : r.toList.length = r.size := by simp [ByteArray.toList_eq]
  have hb : ∀ k, k < r.size → numU (r.toList.take k) < 256 ^ 7 := fun k hk => by
    have := numU_lt (r.toList.take k)
    rw [List.length_take, hlen, Nat.min_eq_left (by omega)] at this
    exact Nat.lt_of_lt_of_le this (Nat.pow_le_pow_right (by omega) (by omega))
  have hst : ∀ k, (hk : k < r.size) → numU (r.toList.take (k + 1)) = numU (r.toList.take k) * 256 + r[k].toNat := fun k hk => by
    rw [List.take_succ_eq_append_getElem (by omega), numU_snoc]
    simp [ByteArray.toList_eq]
    rfl
  have HB := Lib.hid hb
  have HST := Lib.hid hst
  clear hb hst
  go_loopw [6, 13] (fun n i wr => ∃ k : Nat, k ≤ r.size ∧ i = .int .i64 k ∧ n = .int .u64 (numU (r.toList.take k)) ∧ wr = w1) (fun _ i _ => r.size - (intOf i).toNat)
  case atStart => exact ⟨0, by omega, rfl, rfl, rfl⟩
  case round =>
    obtain ⟨k, hk, rfl, rfl, rfl⟩ := hrel
    by_cases hlt : k < r.size
    · go_wp2_with fail
      go_roundw
      case rel => exact ⟨k + 1, by omega, by go_num, by rw [HST.out k hlt, or_byte _ _ (HB.out k hlt)], trivial⟩
      case measure => simp [intOf]; omega
    · obtain rfl : k = r.size := by omega
      go_wp2_with fail
      go_ret
      exact ⟨by rw [← hlen, List.take_length]; rfl, HT.out, HK.out⟩
end Go.Proofs.Ytebadbnlihbecaa
