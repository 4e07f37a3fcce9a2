/- P3.1: what is written: bytes, numbers. -/
import Derived.Test.YtebadbnlihbecaaCIn
namespace Go.Proofs.Ytebadbnlihbecaa
open Go.RowKit

/-- what there is room for is written -/
def putM : Option ByteArray → ByteArray → Option ByteArray
  | none, _ => none
  | some s, m => if s.size + m.size ≤ 4096 then some (s ++ m) else none
theorem room_any (w : World) (t : Nat) (T : TypeId) (st : Option ByteArray) (h : Tape w t T st) :
    Calls Try.prog 51 #[.pointer (some ⟨t, 0, none⟩)] w fun e w' => e = .returned (.int .i64 (4096 - ((tapeB st).size : Int))) ∧ w = w' := by
  have c0 := h.c0
  have hlt := h.lt
  have hsz : (tapeB st).size ≤ maxLen := by cases st with
    | none => exact Nat.zero_le _
    | some s => exact h.size s rfl
  unfold maxLen at hsz
  clear h
  go_enter Try.func51, Try.ntmps51
  go_wp2_with fail
  go_ret
  exact ⟨rfl, rfl⟩
set_option maxRecDepth 100000 in
set_option maxHeartbeats 1000000 in
theorem put_any (w : World) (t : Nat) (T : TypeId) (st : Option ByteArray) (s : ByteArray) (_hs : s.size ≤ maxLen) (h : Tape w t T st) :
    Calls Try.prog 50 #[.pointer (some ⟨t, 0, none⟩), .string s] w fun e w' => e = .returned (.tuple #[]) ∧ Tape w' t T (putM st s) ∧ Kept1 t w w' := by
  have hlt := h.lt
  have H := Lib.hid h
  have R : Hid (∀ m : Bl w, Calls Try.prog 51 #[.pointer (some ⟨t, 0, none⟩)] m.wr fun e w' => e = .returned (.int .i64 (4096 - ((tapeB st).size : Int))) ∧ m.wr = w') := Lib.hid (fun m => room_any m.wr t T st (h.below m.below))
  clear h
  go_enter Try.func50, Try.ntmps50
  go_wp2_with fail
  by_cases hle : (s.size : Int) ≤ 4096 - (tapeB st).size
  · refine wp_region_quiet_tailB 8 (by kernel_rfl) (by kernel_rfl) ?_
    simp only [List.take_succ_cons, List.take_zero, List.drop_succ_cons, List.drop_zero]
    iterate 8 (go_big_quiet_step ((go_at_call 51; with_reducible exact Calls.quiet_b (.mono (R.out _) fun _ _ ⟨he, hw⟩ => ⟨he, hw ▸ Below.refl _ _⟩))))
    refine wpQuiet_nil ?_
    intro m
    go_wp2_with fail
    refine (must_any m.wr t T st true (H.out.below m.below)).mono ?_
    rintro e w1 ⟨rfl, ht, hk⟩
    have HB := Lib.hid ((Kept1.of_below (b := t) m.below).trans hk)
    clear hk R
    cases st with
    | none =>
      have HT := Lib.hid ht
      clear ht
      go_wp2_with fail
      go_end0
      exact ⟨rfl, HT.out, HB.out⟩
    | some b =>
      have d0 := ht.c0
      have df := ht.fz
      have dl := ht.lt
      have HT := Lib.hid ht
      clear ht
      have e1 : tapeB (some b) = b := rfl
      simp only [if_true, e1] at d0 df dl hle HT
      have e2 : putM (some b) s = some (b ++ s) := if_pos (by omega)
      go_wp2_with fail
      go_end0
      rw [e2]
      exact ⟨rfl, HT.out.set0 _ (by unfold maxLen; simp; omega), HB.out.setCell ⟨t, 0, none⟩ (.inl rfl) _⟩
  · refine wp_region_quiet_tailB 8 (by kernel_rfl) (by kernel_rfl) ?_
    simp only [List.take_succ_cons, List.take_zero, List.drop_succ_cons, List.drop_zero]
    iterate 8 (go_big_quiet_step ((go_at_call 51; with_reducible exact Calls.quiet_b (.mono (R.out _) fun _ _ ⟨he, hw⟩ => ⟨he, hw ▸ Below.refl _ _⟩))))
    refine wpQuiet_nil ?_
    intro m
    go_wp2_with fail
    refine (must_any m.wr t T st false (H.out.below m.below)).mono ?_
    rintro e w1 ⟨rfl, ht, hk⟩
    have HB := Lib.hid ((Kept1.of_below (b := t) m.below).trans hk)
    have HT := Lib.hid ht
    clear hk R ht
    have e2 : putM st s = none := by
      cases st with
      | none => rfl
      | some b => exact if_neg (by have : tapeB (some b) = b := rfl; rw [this] at hle; omega)
    go_wp2_with fail
    go_end0
    rw [e2]
    exact ⟨rfl, HT.out, HB.out⟩
end Go.Proofs.Ytebadbnlihbecaa
