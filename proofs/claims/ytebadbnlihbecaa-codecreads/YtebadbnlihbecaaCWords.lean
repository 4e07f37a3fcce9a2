/- P3.1, P3.2: numbers, truths and texts, written and read. -/
import Derived.Test.YtebadbnlihbecaaCNum
namespace Go.Proofs.Ytebadbnlihbecaa
open Go.RowKit

/-- a number without a sign is written, if it fits -/
def unsM (st : Option ByteArray) (n : Int) (size : Nat) : Option ByteArray := if 0 ≤ n ∧ n < 256 ^ size then putM st ⟨(numB n.toNat size).toArray⟩ else none
theorem putM_none (m : ByteArray) : putM none m = none := rfl
theorem unsM_none (n : Int) (size : Nat) : unsM none n size = none := by unfold unsM; split <;> rfl
theorem pow_two_int (k : Nat) : (2 : Int) ^ (8 * k) = 256 ^ k := by rw [Int.pow_mul]; rfl

set_option maxRecDepth 100000 in
set_option maxHeartbeats 1000000 in
theorem unsigned_any (w : World) (t : Nat) (T : TypeId) (st : Option ByteArray) (n : Int) (size : Nat) (hn : n < 2 ^ 63) (hs : size ≤ 8) (h : Tape w t T st) :
    Calls Try.prog 48 #[.pointer (some ⟨t, 0, none⟩), .int .i64 n, .int .i64 size] w fun e w' => e = .returned (.tuple #[]) ∧ Tape w' t T (unsM st n size) ∧ Kept1 t w w' := by
  have hlt := h.lt
  have H := Lib.hid h
  clear h
  go_enter Try.func48, Try.ntmps48
  go_wp2_with fail
  by_cases h0 : 0 ≤ n
  · have hwr : n % 18446744073709551616 = n := Int.emod_eq_of_lt h0 (by omega)
    by_cases h1 : n / 2 ^ (8 * size) = 0
    · refine wp_region_quiet_tailB 13 (by kernel_rfl) (by kernel_rfl) ?_
      simp only [List.take_succ_cons, List.take_zero, List.drop_succ_cons, List.drop_zero]
      iterate 13 (go_big_quiet_step (fail))
      refine wpQuiet_nil ?_
      intro m
      go_wp2_with fail
      refine (must_any m.wr t T st true (H.out.below m.below)).mono ?_
      rintro e w1 ⟨rfl, ht, hk⟩
      have HB := Lib.hid ((Kept1.of_below (b := t) m.below).trans hk)
      have hlt256 : n < 256 ^ size := by
        rw [pow_two_int] at h1
        have e1 := Int.emod_lt_of_pos n (show (0 : Int) < 256 ^ size from Int.pow_pos (by omega))
        have e2 := Int.mul_ediv_add_emod n (256 ^ size)
        rw [h1] at e2
        omega
      have hun : unsM st n size = putM st ⟨(numB n.toNat size).toArray⟩ := if_pos ⟨h0, hlt256⟩
      have HUN := Lib.hid hun
      simp only [if_true] at ht
      cases st with
      | none =>
        have HT := Lib.hid ht
        clear ht hk hun
        go_wp2_with fail
        go_end0
        rw [HUN.out]
        exact ⟨rfl, HT.out, HB.out⟩
      | some b =>
        have N := outNumber_any w1 t T (some b) n.toNat size (by omega) hs ht
        rw [show ((n.toNat : Nat) : Int) = n by omega] at N
        have HN := Lib.hid N
        clear ht hk hun N
        go_wp2_with fail
        refine HN.out.mono ?_
        rintro e w2 ⟨rfl, ht, hk⟩
        have HT := Lib.hid ht
        have HB2 := Lib.hid (HB.out.trans hk)
        clear ht hk
        go_wp2_with fail
        go_end0
        rw [HUN.out]
        exact ⟨rfl, HT.out, HB2.out⟩
    · have hb1 : (n / 2 ^ (8 * size) == 0) = false := by simpa using h1
      refine wp_region_quiet_tailB 13 (by kernel_rfl) (by kernel_rfl) ?_
      simp only [List.take_succ_cons, List.take_zero, List.drop_succ_cons, List.drop_zero]
      iterate 13 (go_big_quiet_step (fail))
      refine wpQuiet_nil ?_
      intro m
      go_wp2_with fail
      refine (must_any m.wr t T st false (H.out.below m.below)).mono ?_
      rintro e w1 ⟨rfl, ht, hk⟩
      have HB := Lib.hid ((Kept1.of_below (b := t) m.below).trans hk)
      have HT := Lib.hid ht
      clear ht hk
      have hun : unsM st n size = none := if_neg (fun hh => h1 (by rw [pow_two_int]; exact Int.ediv_eq_zero_of_lt h0 hh.2))
      have HUN := Lib.hid hun
      clear hun
      go_wp2_with fail
      go_end0
      rw [HUN.out]
      exact ⟨rfl, HT.out, HB.out⟩
  · refine wp_region_quiet_tailB 13 (by kernel_rfl) (by kernel_rfl) ?_
    simp only [List.take_succ_cons, List.take_zero, List.drop_succ_cons, List.drop_zero]
    iterate 13 (go_big_quiet_step (fail))
    refine wpQuiet_nil ?_
    intro m
    go_wp2_with fail
    refine (must_any m.wr t T st false (H.out.below m.below)).mono ?_
    rintro e w1 ⟨rfl, ht, hk⟩
    have HB := Lib.hid ((Kept1.of_below (b := t) m.below).trans hk)
    have HT := Lib.hid ht
    clear ht hk
    have hun : unsM st n size = none := if_neg (fun hh => absurd hh.1 (by omega))
    have HUN := Lib.hid hun
    clear hun
    go_wp2_with fail
    go_end0
    rw [HUN.out]
    exact ⟨rfl, HT.out, HB.out⟩
set_option maxHeartbeats 1000000 in
theorem outU8_any (w : World) (t : Nat) (T : TypeId) (st : Option ByteArray) (n : Int) (hn : n < 2 ^ 63) (h : Tape w t T st) :
    Calls Try.prog 30 #[.pointer (some ⟨t, 0, none⟩), .int .i64 n] w fun e w' => e = .returned (.tuple #[]) ∧ Tape w' t T (unsM st n 1) ∧ Kept1 t w w' := by
  have N := Lib.hid (unsigned_any w t T st n 1 hn (by omega) h)
  clear h
  go_enter Try.func30, Try.ntmps30
  go_wp2_with fail
  refine N.out.mono ?_
  rintro e w2 ⟨rfl, ht, hk⟩
  have HT := Lib.hid ht
  have HK := Lib.hid hk
  clear ht hk N
  go_wp2_with fail
  go_end0
  exact ⟨rfl, HT.out, HK.out⟩
set_option maxHeartbeats 1000000 in
theorem outU16_any (w : World) (t : Nat) (T : TypeId) (st : Option ByteArray) (n : Int) (hn : n < 2 ^ 63) (h : Tape w t T st) :
    Calls Try.prog 31 #[.pointer (some ⟨t, 0, none⟩), .int .i64 n] w fun e w' => e = .returned (.tuple #[]) ∧ Tape w' t T (unsM st n 2) ∧ Kept1 t w w' := by
  have N := Lib.hid (unsigned_any w t T st n 2 hn (by omega) h)
  clear h
  go_enter Try.func31, Try.ntmps31
  go_wp2_with fail
  refine N.out.mono ?_
  rintro e w2 ⟨rfl, ht, hk⟩
  have HT := Lib.hid ht
  have HK := Lib.hid hk
  clear ht hk N
  go_wp2_with fail
  go_end0
  exact ⟨rfl, HT.out, HK.out⟩
set_option maxHeartbeats 1000000 in
theorem outU32_any (w : World) (t : Nat) (T : TypeId) (st : Option ByteArray) (n : Int) (hn : n < 2 ^ 63) (h : Tape w t T st) :
    Calls Try.prog 32 #[.pointer (some ⟨t, 0, none⟩), .int .i64 n] w fun e w' => e = .returned (.tuple #[]) ∧ Tape w' t T (unsM st n 4) ∧ Kept1 t w w' := by
  have N := Lib.hid (unsigned_any w t T st n 4 hn (by omega) h)
  clear h
  go_enter Try.func32, Try.ntmps32
  go_wp2_with fail
  refine N.out.mono ?_
  rintro e w2 ⟨rfl, ht, hk⟩
  have HT := Lib.hid ht
  have HK := Lib.hid hk
  clear ht hk N
  go_wp2_with fail
  go_end0
  exact ⟨rfl, HT.out, HK.out⟩
set_option maxHeartbeats 1000000 in
theorem outI64_any (w : World) (t : Nat) (T : TypeId) (st : Option ByteArray) (n : Int) (h : Tape w t T st) :
    Calls Try.prog 33 #[.pointer (some ⟨t, 0, none⟩), .int .i64 n] w fun e w' => e = .returned (.tuple #[]) ∧ Tape w' t T (putM st ⟨(numB (n % 18446744073709551616).toNat 8).toArray⟩) ∧ Kept1 t w w' := by
  have N := outNumber_any w t T st (n % 18446744073709551616).toNat 8 (by omega) (by omega) h
  rw [show (((n % 18446744073709551616).toNat : Nat) : Int) = n % 18446744073709551616 by omega] at N
  have HN := Lib.hid N
  clear h N
  go_enter Try.func33, Try.ntmps33
  go_wp2_with fail
  refine HN.out.mono ?_
  rintro e w2 ⟨rfl, ht, hk⟩
  have HT := Lib.hid ht
  have HK := Lib.hid hk
  clear ht hk HN
  go_wp2_with fail
  go_end0
  exact ⟨rfl, HT.out, HK.out⟩
set_option maxHeartbeats 1000000 in
theorem outFlag_any (w : World) (t : Nat) (T : TypeId) (st : Option ByteArray) (b : Bool) (h : Tape w t T st) :
    Calls Try.prog 34 #[.pointer (some ⟨t, 0, none⟩), .bool b] w fun e w' => e = .returned (.tuple #[]) ∧ Tape w' t T (unsM st (if b then 1 else 0) 1) ∧ Kept1 t w w' := by
  have N := Lib.hid (outU8_any w t T st (if b then 1 else 0) (by split <;> decide) h)
  clear h
  go_enter Try.func34, Try.ntmps34
  cases b
  all_goals
    go_wp2_with fail
    refine N.out.mono ?_
    rintro e w2 ⟨rfl, ht, hk⟩
    have HT := Lib.hid ht
    have HK := Lib.hid hk
    clear ht hk N
    go_wp2_with fail
    go_end0
    exact ⟨rfl, HT.out, HK.out⟩
/-- a text is written with its length ahead -/
def textM (st : Option ByteArray) (s : ByteArray) : Option ByteArray := putM (unsM st s.size 2) s
set_option maxHeartbeats 1000000 in
theorem outText_any (w : World) (t : Nat) (T : TypeId) (st : Option ByteArray) (s : ByteArray) (hs : s.size ≤ maxLen) (h : Tape w t T st) :
    Calls Try.prog 35 #[.pointer (some ⟨t, 0, none⟩), .string s] w fun e w' => e = .returned (.tuple #[]) ∧ Tape w' t T (textM st s) ∧ Kept1 t w w' := by
  have hs' := hs
  unfold maxLen at hs'
  have N := Lib.hid (outU16_any w t T st s.size (by omega) h)
  have HS := Lib.hid hs
  clear h hs
  go_enter Try.func35, Try.ntmps35
  go_wp2_with fail
  refine N.out.mono ?_
  rintro e w2 ⟨rfl, ht, hk⟩
  have P := Lib.hid (put_any w2 t T _ s HS.out ht)
  have HK := Lib.hid hk
  clear ht hk N
  go_wp2_with fail
  refine P.out.mono ?_
  rintro e w3 ⟨rfl, ht, hk⟩
  have HT := Lib.hid ht
  have HK2 := Lib.hid (HK.out.trans hk)
  clear ht hk P
  go_wp2_with fail
  go_end0
  exact ⟨rfl, HT.out, HK2.out⟩
end Go.Proofs.Ytebadbnlihbecaa
