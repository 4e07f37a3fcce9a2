/- The reference's letters, digits, words, signs. -/
import Derived.Test.YtcmnfbjlhdfmgaaDoorLForm2
import Derived.Test.YtcmnfbjlhdfmgaaDoorLLexM
namespace Go.Proofs.YtcmnfbjlhdfmgaaDoor
open Go.RowKit

set_option maxRecDepth 100000 in
theorem letter_any (w : World) (b : UInt8) : Calls Tryd.prog 39 #[.int .u8 (b.toNat : Int)] w fun e w' => e = .returned (.bool (letB b)) ∧ w = w' := by
  have e : letB b = (decide ((97 : Int) ≤ (b.toNat : Int)) && decide ((b.toNat : Int) ≤ 122)) := by rw [letB, ← dint, ← dint]; rfl
  rw [e]
  obtain ⟨b1, e1⟩ : ∃ x, decide ((97 : Int) ≤ (b.toNat : Int)) = x := ⟨_, rfl⟩
  obtain ⟨b2, e2⟩ : ∃ x, decide ((b.toNat : Int) ≤ 122) = x := ⟨_, rfl⟩
  rw [e1, e2]
  cases b1 <;> cases b2 <;>
  ( go_enter Tryd.func39, Tryd.ntmps39
    go_wp2
    go_ret
    exact ⟨rfl, rfl⟩)
set_option maxRecDepth 100000 in
theorem digit_any (w : World) (b : UInt8) : Calls Tryd.prog 40 #[.int .u8 (b.toNat : Int)] w fun e w' => e = .returned (.bool (digB b)) ∧ w = w' := by
  have e : digB b = (decide ((48 : Int) ≤ (b.toNat : Int)) && decide ((b.toNat : Int) ≤ 57)) := by rw [digB, ← dint, ← dint]; rfl
  rw [e]
  obtain ⟨b1, e1⟩ : ∃ x, decide ((48 : Int) ≤ (b.toNat : Int)) = x := ⟨_, rfl⟩
  obtain ⟨b2, e2⟩ : ∃ x, decide ((b.toNat : Int) ≤ 57) = x := ⟨_, rfl⟩
  rw [e1, e2]
  cases b1 <;> cases b2 <;>
  ( go_enter Tryd.func40, Tryd.ntmps40
    go_wp2
    go_ret
    exact ⟨rfl, rfl⟩)
/-- a byte that may stand there in a word -/
def okAt (i : Nat) (c : UInt8) : Bool := if i = 0 then letB c else innB c
set_option maxRecDepth 100000 in
theorem word_bad {l : List UInt8} {i : Nat} {c : UInt8} (h : l[i]? = some c) (hb : okAt i c = false) : wordB l = false := by
  cases l with
  | nil => simp at h
  | cons a r =>
    have e : wordB (a :: r) = (decide ((a :: r).length ≤ 64) && (letB a && decide (runN innB (a :: r) = (a :: r).length))) := rfl
    rw [e]
    cases i with
    | zero =>
      obtain rfl : a = c := by simpa using h
      have : letB a = false := by simpa [okAt] using hb
      rw [this]; simp
    | succ i =>
      have h2 : innB c = false := by simpa [okAt] using hb
      have : ¬ runN innB (a :: r) = (a :: r).length := fun hh => by
        have := (runN_eq innB _).1 hh
        have := List.all_eq_true.1 this c (List.mem_of_getElem? h)
        rw [h2] at this; cases this
      rw [decide_eq_false this]; simp
set_option maxRecDepth 100000 in
theorem word_good {l : List UInt8} (h : ∀ i c, l[i]? = some c → okAt i c = true) : wordB l = (decide (0 < l.length) && decide (l.length ≤ 64)) := by
  cases l with
  | nil => rfl
  | cons a r =>
    have e : wordB (a :: r) = (decide ((a :: r).length ≤ 64) && (letB a && decide (runN innB (a :: r) = (a :: r).length))) := rfl
    rw [e]
    have h1 : letB a = true := by have := h 0 a rfl; simpa [okAt] using this
    have h2 : runN innB (a :: r) = (a :: r).length := (runN_eq innB _).2 (List.all_eq_true.2 fun c hc => by
      obtain ⟨i, hi⟩ := List.getElem?_of_mem hc
      have := h i c hi
      unfold okAt at this
      split at this
      · simp [innB, this]
      · exact this)
    rw [h1, decide_eq_true h2]
    simp
set_option maxRecDepth 100000 in
set_option maxHeartbeats 4000000 in
theorem word_any (w : World) (l : List UInt8) (hl : l.length ≤ 1000000) : Calls Tryd.prog 26 #[.string (st l)] w fun e w' => e = .returned (.bool (wordB l)) ∧ w = w' := by
  have hsz := size_st l
  have hix : ∀ (w : World) (k : Nat) (c : UInt8), l[k]? = some c → (Instr.index 9 (.string (st l)) (.int .i64 (k : Int))).run Tryd.prog w = .ok (.int .u8 (c.toNat : Int)) w := fun w k c h => run_index_st w l k c h
  have HI := Lib.hid hix
  have HBad : Hid (∀ (i : Nat) (c : UInt8), l[i]? = some c → okAt i c = false → wordB l = false) := Lib.hid fun i c => word_bad
  have HGood : Hid ((∀ (i : Nat) (c : UInt8), l[i]? = some c → okAt i c = true) → wordB l = (decide (0 < l.length) && decide (l.length ≤ 64))) := Lib.hid word_good
  obtain ⟨X, hX⟩ : ∃ X, wordB l = X := ⟨_, rfl⟩
  rw [hX] at HBad HGood ⊢
  obtain ⟨s, hs⟩ : ∃ s, st l = s := ⟨_, rfl⟩
  rw [hs] at hsz HI ⊢
  clear hix hX hs
  go_enter Tryd.func26, Tryd.ntmps26
  go_wp2_with fail
  go_loopw [3] (fun i wr => ∃ k : Nat, k ≤ l.length ∧ i = .int .i64 (k : Int) ∧ Hid (∀ j c, j < k → l[j]? = some c → okAt j c = true) ∧ w = wr) (fun i _ => l.length - (intOf i).toNat)
  case atStart => exact ⟨0, by omega, rfl, Lib.hid fun j c h => by omega, rfl⟩
  case round =>
    obtain ⟨k, hk, rfl, HOk, rfl⟩ := hrel
    by_cases hlt : k < l.length
    · have hd : decide ((k : Int) < (l.length : Int)) = true := by simp; omega
      have hget : l[k]? = some l[k] := List.getElem?_eq_getElem hlt
      have hix := HI.out w k _ hget
      have HG : Hid (l[k]? = some l[k]) := Lib.hid hget
      clear hget
      generalize l[k] = c at *
      have HL := Lib.hid (letter_any w c)
      have HD := Lib.hid (digit_any w c)
      have d95 := deqi c.toNat 95
      have HEq : Hid (okAt k c = if k = 0 then letB c else (letB c || (digB c || decide (c.toNat = 95)))) := Lib.hid rfl
      obtain ⟨b1, hb1⟩ : ∃ b, letB c = b := ⟨_, rfl⟩
      obtain ⟨b2, hb2⟩ : ∃ b, digB c = b := ⟨_, rfl⟩
      obtain ⟨b3, hb3⟩ : ∃ b, decide (c.toNat = 95) = b := ⟨_, rfl⟩
      rw [hb1] at HL HEq
      rw [hb2] at HD HEq
      rw [hb3] at d95 HEq
      have d95 : ((c.toNat : Int) == 95) = b3 := d95
      have hstep : okAt k c = true → Hid (∀ j x, j < k + 1 → l[j]? = some x → okAt j x = true) := fun h => Lib.hid fun j x hj hx => by
        rcases Nat.lt_or_ge j k with h2 | h2
        · exact HOk.out j x h2 hx
        · obtain rfl : j = k := by omega
          rw [HG.out] at hx
          obtain rfl := Option.some.inj hx
          exact h
      have HStep := Lib.hid hstep
      have HBd : Hid (okAt k c = false → X = false) := Lib.hid fun h => HBad.out _ _ HG.out h
      clear hb1 hb2 hb3 hstep
      go_wp2_with fail
      refine HL.out.mono ?_
      rintro e w' ⟨rfl, rfl⟩
      cases b1 with
      | true =>
        have hok : okAt k c = true := by rw [HEq.out]; simp
        have hs := HStep.out hok
        clear hok
        go_wp2_with fail
        go_roundw
        case rel => exact ⟨k + 1, by omega, by go_num, hs, by first | rfl | trivial⟩
        case measure => simp [intOf]; omega
      | false =>
        by_cases hk0 : k = 0
        · have hbad : okAt k c = false := by rw [HEq.out, if_pos hk0]
          have hX := HBd.out hbad
          subst hX
          subst hk0
          clear hbad
          go_wp2_with fail
          go_ret
          exact ⟨rfl, by first | rfl | trivial⟩
        · have hk0' : ((k : Int) == 0) = false := by rw [beq_eq_false_iff_ne]; omega
          have hEq := HEq.out
          rw [if_neg hk0] at hEq
          have HEq2 := Lib.hid hEq
          clear hEq hk0
          go_wp2_with fail
          refine HD.out.mono ?_
          rintro e w' ⟨rfl, rfl⟩
          cases b2 with
          | true =>
            have hok : okAt k c = true := by rw [HEq2.out]; rfl
            have hs := HStep.out hok
            clear hok
            go_wp2_with fail
            go_roundw
            case rel => exact ⟨k + 1, by omega, by go_num, hs, by first | rfl | trivial⟩
            case measure => simp [intOf]; omega
          | false =>
            cases b3 with
            | true =>
              have hok : okAt k c = true := by rw [HEq2.out]; rfl
              have hs := HStep.out hok
              clear hok
              go_wp2_with fail
              go_roundw
              case rel => exact ⟨k + 1, by omega, by go_num, hs, by first | rfl | trivial⟩
              case measure => simp [intOf]; omega
            | false =>
              have hbad : okAt k c = false := by rw [HEq2.out]; rfl
              have hX := HBd.out hbad
              subst hX
              clear hbad
              go_wp2_with fail
              go_ret
              exact ⟨rfl, by first | rfl | trivial⟩
    · have hd : decide ((k : Int) < (l.length : Int)) = false := by simp; omega
      obtain rfl : k = l.length := by omega
      have hX := HGood.out fun i c hi => HOk.out i c (List.getElem?_eq_some_iff.1 hi).1 hi
      clear HGood HBad
      by_cases h0 : 0 < l.length
      · rw [decide_eq_true h0] at hX
        have d0 : decide ((0 : Int) < (l.length : Int)) = true := decide_eq_true (by omega)
        have d0' : decide (0 < l.length) = true := decide_eq_true h0
        by_cases h64 : l.length ≤ 64
        · rw [decide_eq_true h64] at hX
          have d64 : decide ((l.length : Int) ≤ 64) = true := by simp; omega
          subst hX
          clear h64
          go_wp2_with fail
          go_ret
          exact ⟨rfl, by first | rfl | trivial⟩
        · rw [decide_eq_false h64] at hX
          have d64 : decide ((l.length : Int) ≤ 64) = false := by simp; omega
          subst hX
          clear h64
          go_wp2_with fail
          go_ret
          exact ⟨rfl, by first | rfl | trivial⟩
      · rw [decide_eq_false h0] at hX
        have d0 : decide ((0 : Int) < (l.length : Int)) = false := decide_eq_false (by omega)
        have d0' : decide (0 < l.length) = false := decide_eq_false h0
        have hX2 : X = false := hX
        subst hX2
        clear hX
        go_wp2_with fail
        go_ret
        exact ⟨rfl, by first | rfl | trivial⟩
end Go.Proofs.YtcmnfbjlhdfmgaaDoor
