/- What the reference says of a beginning is what the program says: plain lists alone. -/
import Derived.Test.YtcmnfbjlhdfmgaaDoorLRefOne
import Derived.Test.YtcmnfbjlhdfmgaaDoorLGlue
namespace Go.Proofs.YtcmnfbjlhdfmgaaDoor
open Go.RowKit

set_option maxRecDepth 100000 in
theorem parse_num (M : Nat) (hM : 9999999999999999999 ≤ M) (l : List UInt8) : ∀ (acc : Nat), l.all digB = true → (acc + 1) * 10 ^ l.length ≤ 10 ^ 19 → Lib.parseUintM M acc l = .ok (numL acc l) := by
  induction l with
  | nil => intro acc _ _; rw [numL_nil]; rfl
  | cons c l ih =>
    intro acc h h2
    simp only [List.all_cons, Bool.and_eq_true] at h
    have hd := h.1
    simp only [digB, Bool.and_eq_true, decide_eq_true_eq] at hd
    rw [List.length_cons, Nat.pow_succ, Nat.mul_comm (10 ^ l.length) 10, ← Nat.mul_assoc] at h2
    have hp : 0 < 10 ^ l.length := Nat.pow_pos (by omega)
    have e19 : (10 : Nat) ^ 19 = 10000000000000000000 := by decide
    have h3 : (acc + 1) * 10 ≤ 10 ^ 19 := Nat.le_trans (Nat.le_mul_of_pos_right _ hp) h2
    rw [e19] at h3
    rw [numL_cons, Lib.parseUintM, if_pos hd, if_neg (by omega), if_neg (by omega)]
    refine ih _ h.2 (Nat.le_trans (Nat.mul_le_mul_right _ ?_) h2)
    omega
set_option maxRecDepth 100000 in
theorem parse_int {l : List UInt8} (hne : l ≠ []) (h : l.all digB = true) (h19 : l.length ≤ 19) : Lib.parseIntB 64 l = if 9223372036854775808 ≤ numL 0 l then .range else .ok (numL 0 l : Int) := by
  have hp := parse_num (2 ^ 64 - 1) (by omega) l 0 h (by rw [Nat.zero_add, Nat.one_mul]; exact Nat.pow_le_pow_right (by omega) h19)
  cases l with
  | nil => exact absurd rfl hne
  | cons c l =>
    simp only [List.all_cons, Bool.and_eq_true, digB, decide_eq_true_eq] at h
    simp only [Lib.parseIntB]
    rw [if_neg (by omega)]
    unfold Lib.parseUintB
    rw [if_neg hne, hp]
    dsimp only
    by_cases hb : 9223372036854775808 ≤ numL 0 (c :: l)
    · rw [if_pos ⟨by omega, by omega⟩, if_pos hb]
    · rw [if_neg (by omega), if_neg (by omega), if_neg (by omega), if_neg hb]
set_option maxRecDepth 100000 in
theorem sign_head {c : UInt8} {q : List UInt8} (h : signB (c :: q) = true) : letB c = false ∧ digB c = false := by
  have hs := (signB_mem _).1 h
  have key : ∀ s ∈ signsR, (match s with | [] => true | c :: _ => !letB c && !digB c) = true := by decide
  have := key _ hs
  simpa using this
set_option maxRecDepth 100000 in
theorem word_head {c : UInt8} {q : List UInt8} (h : letB c = false) : wordB (c :: q) = false := by
  have e : wordB (c :: q) = (decide ((c :: q).length ≤ 64) && (letB c && decide (runN innB (c :: q) = (c :: q).length))) := rfl
  rw [e, h]; simp
set_option maxRecDepth 100000 in
theorem val_head {c : UInt8} {q : List UInt8} (m : Nat) (h : digB c = false) : valOk (c :: q) m = false := by
  unfold valOk
  rw [List.all_cons, h]; simp
set_option maxRecDepth 100000 in
theorem let_dig {c : UInt8} (h : letB c = true) : digB c = false ∧ c.toNat ≠ 64 ∧ c.toNat ≠ 34 ∧ innB c = true := by
  have h2 := h
  simp only [letB, Bool.and_eq_true, decide_eq_true_eq] at h2
  refine ⟨?_, by omega, by omega, by unfold innB; rw [h]; rfl⟩
  unfold digB
  rw [decide_eq_false (by omega : ¬ c.toNat ≤ 57), Bool.and_false]
/-- what is asked of a beginning -/
structure Same1 (c : UInt8) (r : List UInt8) : Prop where
  none : lenR c r = 0 → formB (firstM (c :: r)).1 = false
  quote : ∀ q, (c :: r).take (lenR c r) = c :: q → c.toNat = 34 → ∃ l, q = l ++ [34]
  ok : ∀ q, (c :: r).take (lenR c r) = c :: q → (oneC c q).2 = formB (firstM (c :: r)).1
  tok : ∀ q, (c :: r).take (lenR c r) = c :: q → (oneC c q).2 = true → (oneC c q).1 = (firstM (c :: r)).1 ∧ lenR c r = (firstM (c :: r)).2
set_option maxRecDepth 100000 in
theorem form_no : formB noTk = false := rfl
set_option maxRecDepth 100000 in
theorem same_word {c : UInt8} (r : List UInt8) (h : letB c = true) : Same1 c r := by
  obtain ⟨hd, h64, h34, hin⟩ := let_dig h
  have hL : lenR c r = 1 + runN innB r := by unfold lenR; rw [if_pos h]
  have hk : runN innB (c :: r) = 1 + runN innB r := by rw [runN_cons, if_pos hin, Nat.add_comm]
  have hF : firstM (c :: r) = wordM (c :: r) := by unfold firstM; dsimp only; rw [if_pos h]
  have hP : ∀ q, (c :: r).take (lenR c r) = c :: q → firstM (c :: r) = (⟨1, c :: q, 0⟩, lenR c r) ∧ formB ⟨1, c :: q, 0⟩ = wordB (c :: q) := fun q e => by
    rw [hF]; unfold wordM; rw [hk, ← hL, e]
    refine ⟨rfl, ?_⟩
    unfold formB
    rw [if_pos rfl]; rfl
  refine ⟨fun h0 => by omega, fun q e h => absurd h h34, fun q e => ?_, fun q e ho => ?_⟩
  · rw [(hP q e).1, (hP q e).2]
    unfold oneC
    cases hw : wordB (c :: q)
    · rw [if_neg (by decide), val_head _ hd, if_neg (by decide), if_neg h64, if_neg h34]
      cases hs : signB (c :: q)
      · rfl
      · rw [(sign_head hs).1] at h; cases h
    · rw [if_pos rfl]
  · rw [(hP q e).1]
    unfold oneC at ho ⊢
    cases hw : wordB (c :: q)
    · rw [hw, if_neg (by decide), val_head _ hd, if_neg (by decide), if_neg h64, if_neg h34] at ho
      dsimp only at ho
      rw [(sign_head ho).1] at h; cases h
    · rw [if_pos rfl]; exact ⟨rfl, rfl⟩
set_option maxRecDepth 100000 in
theorem digM_next {l : List UInt8} (h : ∃ d, l[runN digB l]? = some d ∧ (letB d = true ∨ d.toNat = 95)) : digM l = (0, 0) := by
  unfold digM
  dsimp only
  rw [if_pos (.inr h)]
set_option maxRecDepth 100000 in
theorem digM_val {l : List UInt8} (h : ¬ ∃ d, l[runN digB l]? = some d ∧ (letB d = true ∨ d.toNat = 95)) :
    digM l = if valOk (l.take (runN digB l)) 9223372036854775807 then (((numL 0 (l.take (runN digB l)) : Nat) : Int), runN digB l) else (0, 0) := by
  have hall := runN_all digB l
  have hlen : (l.take (runN digB l)).length = runN digB l := by rw [List.length_take]; have := runN_le digB l; omega
  unfold valOk
  rw [hall, hlen]
  by_cases h19 : 19 < runN digB l
  · rw [decide_eq_false (by omega : ¬ runN digB l ≤ 19)]
    unfold digM
    dsimp only
    rw [if_pos (.inl h19)]; rfl
  · rw [decide_eq_true (by omega : runN digB l ≤ 19)]
    have hn : ¬ (19 < runN digB l ∨ ∃ c, l[runN digB l]? = some c ∧ (letB c = true ∨ c.toNat = 95)) := fun hh => hh.elim h19 h
    by_cases h0 : 0 < runN digB l
    · have hp := parse_int (l := l.take (runN digB l)) (by intro e; rw [e] at hlen; simp at hlen; omega) hall (by omega)
      rw [decide_eq_true h0]
      by_cases hb : numL 0 (l.take (runN digB l)) ≤ 9223372036854775807
      · rw [if_neg (by omega)] at hp
        rw [decide_eq_true hb, digM_ok hn hp]; rfl
      · rw [if_pos (by omega)] at hp
        rw [decide_eq_false hb, digM_bad hn (by rw [hp]; intro u e; cases e)]; rfl
    · rw [decide_eq_false h0]
      have e0 : runN digB l = 0 := by omega
      rw [digM_bad hn (by rw [e0, List.take_zero]; intro u e; cases e)]; rfl
set_option maxRecDepth 100000 in
theorem same_dig {c : UInt8} (r : List UInt8) (hl : letB c = false) (h : digB c = true) : Same1 c r := by
  have h2 := h
  simp only [digB, Bool.and_eq_true, decide_eq_true_eq] at h2
  have h64 : c.toNat ≠ 64 := by omega
  have h34 : c.toNat ≠ 34 := by omega
  have hk : runN digB (c :: r) = runN digB r + 1 := by rw [runN_cons, if_pos h]
  have hF : firstM (c :: r) = numM1 (c :: r) := by unfold firstM; dsimp only; rw [if_neg (by rw [hl]; decide), if_pos h]
  have hne : ∀ q, ¬ signB (c :: q) = true := fun q hs => by have := (sign_head hs).2; rw [h] at this; cases this
  by_cases hnx : ∃ d, r[runN digB r]? = some d ∧ (letB d = true ∨ d.toNat = 95)
  · have hL : lenR c r = 0 := by unfold lenR; rw [if_neg (by rw [hl]; decide), h, Bool.true_or, if_pos rfl, if_pos hnx]
    have hd : digM (c :: r) = (0, 0) := digM_next (by rw [hk]; simpa using hnx)
    refine ⟨fun _ => by rw [hF]; unfold numM1; rw [hd]; rfl, fun q e => ?_, fun q e => ?_, fun q e => ?_⟩ <;>
    ( rw [hL, List.take_zero] at e; cases e)
  · have hL : lenR c r = 1 + runN digB r := by unfold lenR; rw [if_neg (by rw [hl]; decide), h, Bool.true_or, if_pos rfl, if_neg hnx]
    have hd := digM_val (l := c :: r) (by rw [hk]; simpa using hnx)
    have hkL : runN digB (c :: r) = lenR c r := by omega
    refine ⟨fun h0 => by omega, fun q e h => absurd h h34, fun q e => ?_, fun q e ho => ?_⟩
    · rw [hkL, e] at hd
      rw [hF]
      unfold oneC numM1
      rw [word_head hl, if_neg (by decide)]
      cases hv : valOk (c :: q) 9223372036854775807
      · rw [hv, if_neg (by decide)] at hd
        rw [if_neg (by decide), if_neg h64, if_neg h34, hd]
        dsimp only
        rw [if_pos rfl]
        cases hs : signB (c :: q)
        · rfl
        · exact absurd hs (hne q)
      · rw [hv, if_pos rfl] at hd
        rw [if_pos rfl, hd]
        dsimp only
        rw [if_neg (by omega)]
        show true = formB ⟨2, [], _⟩
        unfold formB
        dsimp only
        rw [if_neg (by omega), if_pos rfl]
        simp
    · rw [hkL, e] at hd
      rw [hF]
      unfold oneC at ho ⊢
      unfold numM1
      rw [word_head hl, if_neg (by decide)] at ho ⊢
      cases hv : valOk (c :: q) 9223372036854775807
      · rw [hv, if_neg (by decide), if_neg h64, if_neg h34] at ho
        exact absurd ho (hne q)
      · rw [hv, if_pos rfl] at hd
        rw [if_pos rfl, hd]
        dsimp only
        rw [if_neg (by omega)]
        exact ⟨rfl, rfl⟩
set_option maxRecDepth 100000 in
theorem same_time {c : UInt8} (r : List UInt8) (h : c.toNat = 64) : Same1 c r := by
  have hl : letB c = false := by unfold letB; rw [h]; rfl
  have hg : digB c = false := by unfold digB; rw [h]; rfl
  have h34 : c.toNat ≠ 34 := by omega
  have hF : firstM (c :: r) = timeM (c :: r) := by unfold firstM; dsimp only; rw [if_neg (by rw [hl]; decide), if_neg (by rw [hg]; decide), if_neg h34, if_pos h]
  by_cases hnx : ∃ d, r[runN digB r]? = some d ∧ (letB d = true ∨ d.toNat = 95)
  · have hL : lenR c r = 0 := by unfold lenR; rw [if_neg (by rw [hl]; decide), hg, Bool.false_or, if_pos (decide_eq_true h), if_pos hnx]
    have hd : digM r = (0, 0) := digM_next hnx
    refine ⟨fun _ => by rw [hF]; unfold timeM; rw [List.drop_succ_cons, List.drop_zero, hd]; rfl, fun q e => ?_, fun q e => ?_, fun q e => ?_⟩ <;>
    ( rw [hL, List.take_zero] at e; cases e)
  · have hL : lenR c r = 1 + runN digB r := by unfold lenR; rw [if_neg (by rw [hl]; decide), hg, Bool.false_or, if_pos (decide_eq_true h), if_neg hnx]
    have hd := digM_val hnx
    have hq : ∀ q, (c :: r).take (lenR c r) = c :: q → r.take (runN digB r) = q := fun q e => by
      rw [hL, Nat.add_comm, List.take_succ_cons] at e
      exact (List.cons.inj e).2
    have hmo : ∀ q, valOk q 1099511627776 = (valOk q 9223372036854775807 && decide (numL 0 q ≤ 1099511627776)) := fun q => by
      unfold valOk
      by_cases hb : numL 0 q ≤ 1099511627776
      · rw [decide_eq_true hb, decide_eq_true (by omega : numL 0 q ≤ 9223372036854775807)]; simp
      · rw [decide_eq_false hb]; simp
    have hpos : ∀ q, valOk q 9223372036854775807 = true → r.take (runN digB r) = q → runN digB r ≠ 0 := fun q hv e h0 => by
      rw [h0, List.take_zero] at e
      subst e
      cases hv
    refine ⟨fun h0 => by omega, fun q e h => absurd h h34, fun q e => ?_, fun q e ho => ?_⟩
    · have e2 := hq q e
      rw [e2] at hd
      rw [hF]
      unfold oneC timeM
      rw [word_head hl, if_neg (by decide), val_head _ hg, if_neg (by decide), if_pos h, List.drop_succ_cons, List.drop_zero]
      dsimp only
      rw [hmo]
      cases hv : valOk q 9223372036854775807
      · rw [hv, if_neg (by decide)] at hd
        rw [hd]
        rfl
      · have h0 := hpos q hv e2
        rw [hv, if_pos rfl] at hd
        rw [hd]
        dsimp only
        rw [if_neg h0]
        show _ = formB ⟨4, [], _⟩
        unfold formB
        dsimp only
        rw [if_neg (by omega), if_neg (by omega), if_neg (by omega), if_pos rfl]
        simp
        omega
    · have e2 := hq q e
      rw [e2] at hd
      rw [hF]
      unfold oneC at ho ⊢
      unfold timeM
      rw [word_head hl, if_neg (by decide), val_head _ hg, if_neg (by decide), if_pos h] at ho ⊢
      rw [List.drop_succ_cons, List.drop_zero]
      dsimp only at ho ⊢
      rw [hmo, Bool.and_eq_true] at ho
      have h0 := hpos q ho.1 e2
      rw [ho.1, if_pos rfl] at hd
      rw [hd]
      dsimp only
      rw [if_neg h0]
      exact ⟨rfl, hL⟩
end Go.Proofs.YtcmnfbjlhdfmgaaDoor
