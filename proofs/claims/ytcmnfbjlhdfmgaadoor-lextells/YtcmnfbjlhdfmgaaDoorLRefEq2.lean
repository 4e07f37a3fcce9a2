/- What the reference says of a text is what the program says: plain lists alone. -/
import Derived.Test.YtcmnfbjlhdfmgaaDoorLRefEq
namespace Go.Proofs.YtcmnfbjlhdfmgaaDoor
open Go.RowKit

set_option maxRecDepth 100000 in
theorem inM_q : ∀ (f : Nat) (l : List UInt8), l.length ≤ f → ∀ x m, inM l = some (x, m) → m = qlen l + 1
  | _, [], _, x, m, h => by rw [inM_nil] at h; cases h
  | 0, c :: l, hl, _, _, _ => by simp at hl
  | f + 1, c :: l, hl, x, m, h => by
    simp only [List.length_cons] at hl
    by_cases h1 : c.toNat = 34
    · rw [inM_quote _ _ h1] at h
      rw [qlen_quote _ _ h1]
      cases h; rfl
    · by_cases h2 : c.toNat = 92
      · cases l with
        | nil => rw [inM_end _ h2] at h; cases h
        | cons d l =>
          rw [inM_esc _ _ _ h2] at h
          rw [qlen_esc _ _ _ h2]
          simp only [List.length_cons] at hl
          split at h
          · obtain ⟨y, hy, e⟩ := Option.map_eq_some_iff.1 h
            have := inM_q f l (by omega) y.1 y.2 hy
            have e2 := (Prod.mk.inj e).2
            omega
          · cases h
      · rw [inM_plain _ _ h1 h2] at h
        rw [qlen_plain _ _ h1 h2]
        obtain ⟨y, hy, e⟩ := Option.map_eq_some_iff.1 h
        have := inM_q f l (by omega) y.1 y.2 hy
        have e2 := (Prod.mk.inj e).2
        omega
set_option maxRecDepth 100000 in
theorem pla_iff (c : UInt8) (h : c.toNat ≠ 34) : (c.toNat = 34 ∨ c.toNat < 32 ∨ 126 < c.toNat) ↔ plaB c = false := by
  unfold plaB
  rw [Bool.and_eq_false_iff, decide_eq_false_iff_not, decide_eq_false_iff_not]
  omega
set_option maxRecDepth 100000 in
theorem mrk_pla {c : UInt8} (h : mrkB c = true) : plaB c = true := by
  unfold mrkB at h
  unfold plaB
  simp only [Bool.or_eq_true, decide_eq_true_eq] at h
  rw [Bool.and_eq_true, decide_eq_true_eq, decide_eq_true_eq]
  omega
/-- an inner text, as the program reads it -/
def innM (l : List UInt8) : Option (List UInt8) := match inM l with
  | none => none
  | some x => if x.1.all plaB then some x.1 else none
set_option maxRecDepth 100000 in
theorem innM_none {l : List UInt8} (h : inM l = none) : innM l = none := by unfold innM; rw [h]
set_option maxRecDepth 100000 in
theorem innM_some {l : List UInt8} {x : List UInt8 × Nat} (h : inM l = some x) : innM l = if x.1.all plaB then some x.1 else none := by unfold innM; rw [h]
set_option maxRecDepth 100000 in
theorem inner_same : ∀ (f : Nat) (l : List UInt8), l.length ≤ f → qlen l < l.length → (∃ c, l[qlen l]? = some c ∧ c.toNat = 34) ∧ innerB (l.take (qlen l)) = innM l
  | _, [], _, h => by simp at h
  | 0, c :: l, hl, _ => by simp at hl
  | f + 1, c :: l, hl, h => by
    simp only [List.length_cons] at hl
    by_cases h1 : c.toNat = 34
    · rw [qlen_quote _ _ h1]
      refine ⟨⟨c, rfl, h1⟩, ?_⟩
      rw [innM_some (inM_quote _ _ h1), List.take_zero, innerB_nil]; rfl
    · by_cases h2 : c.toNat = 92
      · cases l with
        | nil => rw [qlen_end _ h2] at h; simp at h
        | cons d l =>
          simp only [List.length_cons] at hl
          rw [qlen_esc _ _ _ h2] at h ⊢
          simp only [List.length_cons] at h
          obtain ⟨h3, h4⟩ := inner_same f l (by omega) (by omega)
          refine ⟨by simpa using h3, ?_⟩
          rw [List.take_succ_cons, List.take_succ_cons, innerB_esc _ _ _ h2, h4]
          have he := inM_esc c d l h2
          by_cases hm : mrkB d = true
          · rw [if_pos hm] at he ⊢
            cases hi : inM l with
            | none => rw [hi] at he; rw [innM_none he, innM_none hi]; rfl
            | some x =>
              rw [hi] at he
              rw [innM_some he, innM_some hi]
              dsimp only
              rw [List.all_cons, mrk_pla hm, Bool.true_and]
              split <;> rfl
          · rw [if_neg hm] at he ⊢
            rw [innM_none he]
      · rw [qlen_plain _ _ h1 h2] at h ⊢
        simp only [List.length_cons] at h
        obtain ⟨h3, h4⟩ := inner_same f l (by omega) (by omega)
        refine ⟨by simpa using h3, ?_⟩
        rw [List.take_succ_cons]
        have he := inM_plain c l h1 h2
        by_cases hp : plaB c = true
        · rw [innerB_plain _ _ (fun hh => by rw [(pla_iff c h1).1 hh] at hp; cases hp) h2, h4]
          cases hi : inM l with
          | none => rw [hi] at he; rw [innM_none he, innM_none hi]; rfl
          | some x =>
            rw [hi] at he
            rw [innM_some he, innM_some hi]
            dsimp only
            rw [List.all_cons, hp, Bool.true_and]
            split <;> rfl
        · have hp' : plaB c = false := by simpa using hp
          rw [innerB_bad _ _ ((pla_iff c h1).2 hp')]
          cases hi : inM l with
          | none => rw [hi] at he; rw [innM_none he]
          | some x =>
            rw [hi] at he
            rw [innM_some he]
            dsimp only
            rw [List.all_cons, hp', Bool.false_and]; rfl
set_option maxRecDepth 100000 in
theorem same_text {c : UInt8} (r : List UInt8) (h : c.toNat = 34) : Same1 c r := by
  have hl : letB c = false := by unfold letB; rw [h]; rfl
  have hg : digB c = false := by unfold digB; rw [h]; rfl
  have h64 : c.toNat ≠ 64 := by omega
  have hF : firstM (c :: r) = textM1 (c :: r) := by unfold firstM; dsimp only; rw [if_neg (by rw [hl]; decide), if_neg (by rw [hg]; decide), if_pos h]
  have hL0 : lenR c r = if 1 + r.length < 2 + qlen r then 0 else 2 + qlen r := by
    unfold lenR
    rw [if_neg (by rw [hl]; decide), hg, Bool.false_or, if_neg (by simpa using h64), if_pos h]
  have hT : textM1 (c :: r) = match inM r with | some (x, n) => (⟨3, x, 0⟩, n + 1) | none => (noTk, 0) := by unfold textM1; rw [List.drop_succ_cons, List.drop_zero]; rfl
  by_cases hq : qlen r < r.length
  · rw [if_neg (by omega)] at hL0
    obtain ⟨⟨d, hd, hd34⟩, hin⟩ := inner_same r.length r (Nat.le_refl _) hq
    have hqq : ∀ q, (c :: r).take (lenR c r) = c :: q → q = r.take (qlen r) ++ [d] := fun q e => by
      rw [hL0, show 2 + qlen r = (qlen r + 1) + 1 by omega, List.take_succ_cons] at e
      have e2 := (List.cons.inj e).2
      rw [← e2, List.take_add_one, hd]; rfl
    have hd' : d = 34 := by
      have : d = UInt8.ofNat d.toNat := by simp
      rw [this, hd34]; rfl
    have hval : ∀ q, (c :: r).take (lenR c r) = c :: q → (oneC c q) = (⟨3, (bodyP (r.take (qlen r))).1, 0⟩, (bodyP (r.take (qlen r))).2) := fun q e => by
      unfold oneC
      rw [word_head hl, if_neg (by decide), val_head _ hg, if_neg (by decide), if_neg h64, if_pos h, hqq q e, List.dropLast_concat]
    have hform : ∀ x : List UInt8, formB ⟨3, x, 0⟩ = textB x := fun x => by
      unfold formB
      dsimp only
      rw [if_neg (by omega), if_neg (by omega), if_pos rfl]; rfl
    have htx : ∀ x : List UInt8, textB x = (decide (x.length ≤ 64) && x.all plaB) := fun x => by
      unfold textB
      congr 1
      cases ha : x.all plaB
      · rw [decide_eq_false]
        intro hh
        rw [(runN_eq plaB x).1 hh] at ha; cases ha
      · rw [decide_eq_true ((runN_eq plaB x).2 ha)]
    refine ⟨fun h0 => by omega, fun q e _ => ⟨r.take (qlen r), by rw [hqq q e, hd']⟩, fun q e => ?_, fun q e ho => ?_⟩
    · rw [hval q e, hF, hT]
      cases hi : inM r with
      | none => rw [innM_none hi] at hin; rw [bodyP_none hin]; rfl
      | some x =>
        rw [innM_some hi] at hin
        obtain ⟨x, m⟩ := x
        dsimp only at hin ⊢
        rw [hform, htx]
        cases ha : x.all plaB
        · rw [ha, if_neg (by decide)] at hin
          rw [bodyP_none hin, Bool.and_false]
        · rw [ha, if_pos rfl] at hin
          rw [bodyP_some hin, Bool.and_true]
    · rw [hval q e] at ho ⊢
      rw [hF, hT]
      cases hi : inM r with
      | none => rw [innM_none hi] at hin; rw [bodyP_none hin] at ho; cases ho
      | some x =>
        rw [innM_some hi] at hin
        obtain ⟨x, m⟩ := x
        have hm := inM_q r.length r (Nat.le_refl _) x m hi
        dsimp only at hin ⊢
        cases ha : x.all plaB
        · rw [ha, if_neg (by decide)] at hin
          rw [bodyP_none hin] at ho; cases ho
        · rw [ha, if_pos rfl] at hin
          rw [bodyP_some hin]
          exact ⟨rfl, by omega⟩
  · rw [if_pos (by omega)] at hL0
    have hno : inM r = none := by
      cases hi : inM r with
      | none => rfl
      | some x =>
        have h1 := inM_q r.length r (Nat.le_refl _) x.1 x.2 hi
        have h2 := (inM_le r.length r (Nat.le_refl _) x.1 x.2 hi).1
        omega
    refine ⟨fun _ => by rw [hF, hT, hno]; rfl, fun q e => ?_, fun q e => ?_, fun q e => ?_⟩ <;>
    ( rw [hL0, List.take_zero] at e; cases e)
end Go.Proofs.YtcmnfbjlhdfmgaaDoor
