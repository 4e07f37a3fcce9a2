/- P3.2: numbers, truths and texts, read. -/
import Derived.Test.YtebadbnlihbecaaCWords
namespace Go.Proofs.Ytebadbnlihbecaa
open Go.RowKit

theorem takeM_le (st : Option ByteArray) (n : Nat) : (takeM st n).1.size ≤ n := by
  cases st with
  | none => exact Nat.zero_le _
  | some s =>
    by_cases h : (0 : Int) ≤ n ∧ (n : Int) ≤ s.size
    · rw [takeM_yes h]; simp; omega
    · rw [takeM_no h]; exact Nat.zero_le _
theorem numM_lt (st : Option ByteArray) (size : Nat) : (numM st size).1 < 256 ^ size := by
  have h := numU_lt (takeM st size).1.toList
  have h2 := takeM_le st size
  have e : (takeM st size).1.toList.length = (takeM st size).1.size := by simp [ByteArray.toList_eq]
  rw [e] at h
  exact Nat.lt_of_lt_of_le h (Nat.pow_le_pow_right (by omega) h2)
theorem numM_none (size : Nat) : numM none size = (0, none) := by simp [numM, takeM, numU, ByteArray.toList_eq]
set_option maxHeartbeats 1000000 in
theorem inU8_any (w : World) (t : Nat) (T : TypeId) (st : Option ByteArray) (h : Tape w t T st) :
    Calls Try.prog 16 #[.pointer (some ⟨t, 0, none⟩)] w fun e w' => e = .returned (.int .i64 (numM st 1).1) ∧ Tape w' t T (numM st 1).2 ∧ Kept1 t w w' := by
  have N := Lib.hid (inNumber_any w t T st 1 (by omega) h)
  have hlt := numM_lt st 1
  generalize numM st 1 = r at *
  clear h
  go_enter Try.func16, Try.ntmps16
  go_wp2_with fail
  refine N.out.mono ?_
  rintro e w2 ⟨rfl, ht, hk⟩
  have HT := Lib.hid ht
  have HK := Lib.hid hk
  clear ht hk N
  go_wp2_with fail
  go_ret
  exact ⟨rfl, HT.out, HK.out⟩
set_option maxHeartbeats 1000000 in
theorem inU16_any (w : World) (t : Nat) (T : TypeId) (st : Option ByteArray) (h : Tape w t T st) :
    Calls Try.prog 17 #[.pointer (some ⟨t, 0, none⟩)] w fun e w' => e = .returned (.int .i64 (numM st 2).1) ∧ Tape w' t T (numM st 2).2 ∧ Kept1 t w w' := by
  have N := Lib.hid (inNumber_any w t T st 2 (by omega) h)
  have hlt := numM_lt st 2
  generalize numM st 2 = r at *
  clear h
  go_enter Try.func17, Try.ntmps17
  go_wp2_with fail
  refine N.out.mono ?_
  rintro e w2 ⟨rfl, ht, hk⟩
  have HT := Lib.hid ht
  have HK := Lib.hid hk
  clear ht hk N
  go_wp2_with fail
  go_ret
  exact ⟨rfl, HT.out, HK.out⟩
set_option maxHeartbeats 1000000 in
theorem inU32_any (w : World) (t : Nat) (T : TypeId) (st : Option ByteArray) (h : Tape w t T st) :
    Calls Try.prog 18 #[.pointer (some ⟨t, 0, none⟩)] w fun e w' => e = .returned (.int .i64 (numM st 4).1) ∧ Tape w' t T (numM st 4).2 ∧ Kept1 t w w' := by
  have N := Lib.hid (inNumber_any w t T st 4 (by omega) h)
  have hlt := numM_lt st 4
  generalize numM st 4 = r at *
  clear h
  go_enter Try.func18, Try.ntmps18
  go_wp2_with fail
  refine N.out.mono ?_
  rintro e w2 ⟨rfl, ht, hk⟩
  have HT := Lib.hid ht
  have HK := Lib.hid hk
  clear ht hk N
  go_wp2_with fail
  go_ret
  exact ⟨rfl, HT.out, HK.out⟩
set_option maxHeartbeats 1000000 in
theorem inI64_any (w : World) (t : Nat) (T : TypeId) (st : Option ByteArray) (h : Tape w t T st) :
    Calls Try.prog 19 #[.pointer (some ⟨t, 0, none⟩)] w fun e w' => e = .returned (.int .i64 (wrap64 (numM st 8).1)) ∧ Tape w' t T (numM st 8).2 ∧ Kept1 t w w' := by
  have N := Lib.hid (inNumber_any w t T st 8 (by omega) h)
  generalize numM st 8 = r at *
  clear h
  go_enter Try.func19, Try.ntmps19
  go_wp2_with fail
  refine N.out.mono ?_
  rintro e w2 ⟨rfl, ht, hk⟩
  have HT := Lib.hid ht
  have HK := Lib.hid hk
  clear ht hk N
  go_wp2_with fail
  go_ret
  exact ⟨rfl, HT.out, HK.out⟩
/-- a truth is read -/
def flagM (st : Option ByteArray) : Bool × Option ByteArray := if (numM st 1).1 ≤ 1 then ((numM st 1).1 == 1 && (numM st 1).2.isSome, (numM st 1).2) else (false, none)
set_option maxHeartbeats 1000000 in
theorem inFlag_any (w : World) (t : Nat) (T : TypeId) (st : Option ByteArray) (h : Tape w t T st) :
    Calls Try.prog 20 #[.pointer (some ⟨t, 0, none⟩)] w fun e w' => e = .returned (.bool (flagM st).1) ∧ Tape w' t T (flagM st).2 ∧ Kept1 t w w' := by
  have N := Lib.hid (inU8_any w t T st h)
  have hlt := numM_lt st 1
  obtain ⟨⟨n, st'⟩, hr⟩ : ∃ r, numM st 1 = r := ⟨_, rfl⟩
  have E : Hid (flagM st = if n ≤ 1 then (n == 1 && st'.isSome, st') else (false, none)) := Lib.hid (by unfold flagM; rw [hr])
  generalize flagM st = F at *
  rw [hr] at hlt N
  dsimp only at hlt N
  clear hr
  clear h
  go_enter Try.func20, Try.ntmps20
  go_wp2_with fail
  refine N.out.mono ?_
  rintro e w2 ⟨rfl, ht, hk⟩
  have hl2 := ht.lt
  have HT := Lib.hid ht
  have HK := Lib.hid hk
  clear ht hk N
  obtain ⟨b, hb⟩ : ∃ b, decide ((n : Int) ≤ 1) = b := ⟨_, rfl⟩
  have hbn : decide (n ≤ 1) = b := by rw [← hb]; congr 1; exact propext ⟨fun h => by omega, fun h => by omega⟩
  go_wp2_with fail
  refine (must_any w2 t T st' b HT.out).mono ?_
  rintro e w3 ⟨rfl, ht, hk⟩
  have HT3 := Lib.hid ht
  have HK3 := Lib.hid (HK.out.trans hk)
  have HN := Lib.hid hbn
  clear ht hk HT HK hb hbn hl2
  cases b
  · go_wp2_with fail
    go_ret
    rw [E.out, if_neg (of_decide_eq_false HN.out)]
    exact ⟨rfl, HT3.out, HK3.out⟩
  · cases st' with
    | none =>
      go_wp2_with fail
      go_ret
      rw [E.out, if_pos (of_decide_eq_true HN.out)]
      exact ⟨by simp, HT3.out, HK3.out⟩
    | some s =>
      obtain ⟨c, hc⟩ : ∃ c, (n == 1) = c := ⟨_, rfl⟩
      have hci : ((n : Int) == 1) = c := by
        rw [← hc, Bool.eq_iff_iff]
        simp
        omega
      have HC := Lib.hid hc
      clear hc
      go_wp2_with fail
      go_ret
      rw [E.out, if_pos (of_decide_eq_true HN.out), HC.out]
      exact ⟨by simp, HT3.out, HK3.out⟩
/-- a text of at most so many bytes is read -/
def inTextM (st : Option ByteArray) (most : Int) : ByteArray × Option ByteArray :=
  if ((numM st 2).1 : Int) ≤ min most 4096 then takeM (numM st 2).2 (numM st 2).1 else (⟨#[]⟩, none)
set_option maxHeartbeats 1000000 in
theorem inText_any (w : World) (t : Nat) (T : TypeId) (st : Option ByteArray) (most : Int) (h : Tape w t T st) :
    Calls Try.prog 21 #[.pointer (some ⟨t, 0, none⟩), .int .i64 most] w fun e w' => e = .returned (.string (inTextM st most).1) ∧ Tape w' t T (inTextM st most).2 ∧ Kept1 t w w' := by
  have N := Lib.hid (inU16_any w t T st h)
  have hlt := numM_lt st 2
  obtain ⟨⟨n, st'⟩, hr⟩ : ∃ r, numM st 2 = r := ⟨_, rfl⟩
  have E : Hid (inTextM st most = if (n : Int) ≤ min most 4096 then takeM st' n else (⟨#[]⟩, none)) := Lib.hid (by unfold inTextM; rw [hr])
  generalize inTextM st most = F at *
  rw [hr] at hlt N
  dsimp only at hlt N
  clear hr
  clear h
  go_enter Try.func21, Try.ntmps21
  go_wp2_with fail
  refine N.out.mono ?_
  rintro e w2 ⟨rfl, ht, hk⟩
  have hl2 := ht.lt
  have HT := Lib.hid ht
  have HK := Lib.hid hk
  clear ht hk N
  have key : ∀ M : Int, min most 4096 = M → ∀ b, decide ((n : Int) ≤ M) = b → Hid ((b = true → F = takeM st' n) ∧ (b = false → F = (⟨#[]⟩, none))) := fun M hM b hb => Lib.hid (by
    rw [E.out, hM]
    exact ⟨fun h => if_pos (of_decide_eq_true (by rw [hb, h])), fun h => if_neg (of_decide_eq_false (by rw [hb, h]))⟩)
  by_cases hm : most ≤ 4096
  · obtain ⟨b, hb⟩ : ∃ b, decide ((n : Int) ≤ most) = b := ⟨_, rfl⟩
    have K := key most (by omega) b hb
    clear key E
    go_wp2_with fail
    refine (must_any w2 t T st' b HT.out).mono ?_
    rintro e w3 ⟨rfl, ht, hk⟩
    have HT3 := Lib.hid ht
    have HK3 := Lib.hid (HK.out.trans hk)
    clear ht hk HT HK hb hl2
    cases b
    · go_wp2_with fail
      go_ret
      rw [K.out.2 (by trivial)]
      exact ⟨rfl, HT3.out, HK3.out⟩
    · have TK := Lib.hid (take_any w3 t T st' n HT3.out)
      cases st' with
      | none =>
        go_wp2_with fail
        go_ret
        rw [K.out.1 (by trivial)]
        exact ⟨rfl, HT3.out, HK3.out⟩
      | some s =>
        go_wp2_with fail
        refine TK.out.mono ?_
        rintro e w4 ⟨rfl, ht, hk⟩
        have HT4 := Lib.hid ht
        have HK4 := Lib.hid (HK3.out.trans hk)
        clear ht hk TK
        go_wp2_with fail
        go_ret
        rw [K.out.1 (by trivial)]
        exact ⟨rfl, HT4.out, HK4.out⟩
  · obtain ⟨b, hb⟩ : ∃ b, decide ((n : Int) ≤ 4096) = b := ⟨_, rfl⟩
    have K := key 4096 (by omega) b hb
    have hm' : 4096 < most := by omega
    clear key E
    go_wp2_with fail
    refine (must_any w2 t T st' b HT.out).mono ?_
    rintro e w3 ⟨rfl, ht, hk⟩
    have HT3 := Lib.hid ht
    have HK3 := Lib.hid (HK.out.trans hk)
    clear ht hk HT HK hb hl2
    cases b
    · go_wp2_with fail
      go_ret
      rw [K.out.2 (by trivial)]
      exact ⟨rfl, HT3.out, HK3.out⟩
    · have TK := Lib.hid (take_any w3 t T st' n HT3.out)
      cases st' with
      | none =>
        go_wp2_with fail
        go_ret
        rw [K.out.1 (by trivial)]
        exact ⟨rfl, HT3.out, HK3.out⟩
      | some s =>
        go_wp2_with fail
        refine TK.out.mono ?_
        rintro e w4 ⟨rfl, ht, hk⟩
        have HT4 := Lib.hid ht
        have HK4 := Lib.hid (HK3.out.trans hk)
        clear ht hk TK
        go_wp2_with fail
        go_ret
        rw [K.out.1 (by trivial)]
        exact ⟨rfl, HT4.out, HK4.out⟩
/-- whether all is read, and nothing went wrong -/
def overM (st : Option ByteArray) : Bool := st.isSome && (tapeB st).toList.isEmpty
set_option maxHeartbeats 1000000 in
theorem over_any (w : World) (t : Nat) (T : TypeId) (st : Option ByteArray) (h : Tape w t T st) :
    Calls Try.prog 15 #[.pointer (some ⟨t, 0, none⟩)] w fun e w' => e = .returned (.bool (overM st)) ∧ w = w' := by
  have c0 := h.c0
  have c1 := h.c1
  have hlt := h.lt
  clear h
  go_enter Try.func15, Try.ntmps15
  cases st with
  | none =>
    go_wp2_with fail
    go_ret
    exact ⟨rfl, rfl⟩
  | some s =>
    go_wp2_with fail
    go_ret
    exact ⟨rfl, rfl⟩
end Go.Proofs.Ytebadbnlihbecaa
