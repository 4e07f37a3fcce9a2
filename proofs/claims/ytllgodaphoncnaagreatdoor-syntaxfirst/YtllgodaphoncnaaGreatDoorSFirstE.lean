/- P8.1: what is ahead of the place that is told is not to blame. -/
import Derived.Test.YtllgodaphoncnaaGreatDoorSFirstM
import Derived.Test.YtllgodaphoncnaaGreatDoorSSize
namespace Go.Proofs.YtllgodaphoncnaaGreatDoor

set_option maxRecDepth 100000 in
theorem stop_at (p : PS) : (stopP p).at' = p.at' := by unfold stopP failP; split <;> rfl
set_option maxRecDepth 100000 in
theorem stop_none {p : PS} (h : p.err = none) : (stopP p).err = some (2, p.at') := by simp [stopP, failP, h]
set_option maxRecDepth 100000 in
theorem stop_some {p : PS} {x : Int × Nat} (h : p.err = some x) : (stopP p).err = some x := by simp [stopP, failP, h]
set_option maxRecDepth 100000 in
/-- the place that is told is among the tokens, and what is ahead of it is not to blame -/
theorem first_ok {T : List Tk} (hT : T.length ≤ 600) (h2 : (parseM T).2.2 = 2) : (parseM T).2.1 ≤ T.length ∧ (∀ t, T[(parseM T).2.1]? = some t → t.k = 5 → t.s = kOpen → False) →
    ((parseM (T.take (parseM T).2.1)).2.2 = 2 ∧ (parseM (T.take (parseM T).2.1)).2.1 = (parseM T).2.1) ∨ (parseM (T.take (parseM T).2.1)).2.2 = 11 ∨ (parseM (T.take (parseM T).2.1)).2.2 = 0 := by
  rintro ⟨hle, hno⟩
  obtain ⟨K, hK⟩ : ∃ K, (parseM T).2.1 = K := ⟨_, rfl⟩
  rw [hK] at hle hno ⊢
  have hl : (T.take K).length = K := by simp only [List.length_take]; omega
  have hs := expr_sim (T := T) (K := K) .ors (p := ⟨0, none⟩) rfl (Nat.zero_le _)
  have e2 : parseM (T.take K) = (match (if (exprP (T.take K) .ors ⟨0, none⟩).2.at' < K then stopP (exprP (T.take K) .ors ⟨0, none⟩).2 else (exprP (T.take K) .ors ⟨0, none⟩).2).err with
      | some e => (noTr, e.2, e.1)
      | none => if 12 < depthT (exprP (T.take K) .ors ⟨0, none⟩).1 then (noTr, 0, 11) else ((exprP (T.take K) .ors ⟨0, none⟩).1, 0, 0)) := by
    unfold parseM; rw [hl, if_neg (by omega)]; rfl
  have e1 : parseM T = (match (if (exprP T .ors ⟨0, none⟩).2.at' < T.length then stopP (exprP T .ors ⟨0, none⟩).2 else (exprP T .ors ⟨0, none⟩).2).err with
      | some e => (noTr, e.2, e.1)
      | none => if 12 < depthT (exprP T .ors ⟨0, none⟩).1 then (noTr, 0, 11) else ((exprP T .ors ⟨0, none⟩).1, 0, 0)) := by
    unfold parseM; rw [if_neg (by omega)]; rfl
  generalize exprP (T.take K) .ors ⟨0, none⟩ = y at *
  generalize exprP T .ors ⟨0, none⟩ = x at *
  have key : (y.2.err = some (2, K)) ∨ (y.2.err = none ∧ y.2.at' = K) := by
    cases hx : x.2.err with
    | some e =>
      have e3 : parseM T = (noTr, e.2, e.1) := by
        rw [e1]
        split
        · rename_i z hz
          split at hz
          · rw [stop_some hx] at hz; obtain rfl := Option.some.inj hz; rfl
          · rw [hx] at hz; obtain rfl := Option.some.inj hz; rfl
        · rename_i hz
          split at hz
          · rw [stop_some hx] at hz; cases hz
          · rw [hx] at hz; cases hz
      rw [e3] at hK h2
      simp only at hK h2
      rcases hs with ⟨h1, -, -⟩ | ⟨-, h1⟩ | h1
      · rw [hx] at h1; cases h1
      · exact .inl h1
      · exfalso
        rcases h1 with ⟨h1, -⟩ | ⟨e', pl, h1, h3⟩
        · rw [hx] at h1; cases h1
        · rw [hx] at h1
          obtain rfl := Option.some.inj h1
          rcases h3 with h3 | ⟨t, h3, h4, h5⟩
          · exact h3 hK
          · exact hno t h3 h4 h5
    | none =>
      have hlt : x.2.at' < T.length := by
        rcases Nat.lt_or_ge x.2.at' T.length with h | h
        · exact h
        · exfalso
          rw [e1, if_neg (by omega), hx] at h2
          simp only at h2
          split at h2 <;> simp at h2
      have e3 : parseM T = (noTr, x.2.at', 2) := by
        rw [e1, if_pos hlt, stop_none hx]
      rw [e3] at hK
      simp only at hK
      rcases hs with ⟨-, -, h1⟩ | ⟨h1, -⟩ | h1
      · rw [h1]; exact .inr ⟨hx, hK⟩
      · rw [hx] at h1; cases h1
      · exfalso
        rcases h1 with ⟨-, h1⟩ | ⟨e', pl, h1, -⟩
        · omega
        · rw [hx] at h1; cases h1
  rw [e2]
  rcases key with h1 | ⟨h1, h3⟩
  · have e4 : (if y.2.at' < K then stopP y.2 else y.2).err = some (2, K) := by
      split
      · exact stop_some h1
      · exact h1
    rw [e4]
    exact .inl ⟨rfl, rfl⟩
  · rw [if_neg (by omega), h1]
    simp only
    split
    · exact .inr (.inl rfl)
    · exact .inr (.inr rfl)
set_option maxRecDepth 100000 in
/-- what comes of parsing: an error and a place among the tokens -/
theorem parse_like {T : List Tk} (hT : T.length ≤ 600) : (parseM T).2.1 ≤ T.length ∧ ((parseM T).2.2 = 2 ∨ ((parseM T).2.2 = 11 ∨ (parseM T).2.2 = 0) ∧ (parseM T).2.1 = 0) := by
  have ha := (adv_expr (T := T) .ors ⟨0, none⟩)
  have hl := ha.len (Nat.zero_le _)
  have hp := ha.place rfl
  have e1 : parseM T = (match (if (exprP T .ors ⟨0, none⟩).2.at' < T.length then stopP (exprP T .ors ⟨0, none⟩).2 else (exprP T .ors ⟨0, none⟩).2).err with
      | some e => (noTr, e.2, e.1)
      | none => if 12 < depthT (exprP T .ors ⟨0, none⟩).1 then (noTr, 0, 11) else ((exprP T .ors ⟨0, none⟩).1, 0, 0)) := by
    unfold parseM; rw [if_neg (by omega)]; rfl
  rw [e1]
  generalize exprP T .ors ⟨0, none⟩ = x at *
  split
  · rename_i z hz
    have hz2 : z.2 ≤ T.length ∧ z.1 = 2 := by
      split at hz
      · cases hx : x.2.err with
        | some e =>
          rw [stop_some hx] at hz
          obtain rfl := Option.some.inj hz
          obtain ⟨-, h1, h2⟩ := hp e.1 e.2 hx
          exact ⟨h1 (Nat.zero_le _), h2⟩
        | none =>
          rw [stop_none hx] at hz
          obtain rfl := Option.some.inj hz
          exact ⟨hl, rfl⟩
      · obtain ⟨-, h1, h2⟩ := hp z.1 z.2 hz
        exact ⟨h1 (Nat.zero_le _), h2⟩
    exact ⟨hz2.1, .inl hz2.2⟩
  · split
    · exact ⟨Nat.zero_le _, .inr ⟨.inl rfl, rfl⟩⟩
    · exact ⟨Nat.zero_le _, .inr ⟨.inr rfl, rfl⟩⟩
end Go.Proofs.YtllgodaphoncnaaGreatDoor
