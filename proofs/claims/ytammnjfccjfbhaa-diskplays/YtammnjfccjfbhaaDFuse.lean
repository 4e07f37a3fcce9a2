/- The fuse. -/
import Derived.Test.YtammnjfccjfbhaaDAt
namespace Go.Proofs.Ytammnjfccjfbhaa
open Go.RowKit

theorem fuse_gone (w : World) (N d gs : Nat) (v : Value) (s : DSt) (h : DAt w N d gs v s) (hg : s.gone = true) (n : Int) :
    Calls Try.prog 15 #[.pointer (some ⟨d, 0, none⟩), .int .i64 n] w fun e w' => e = .returned (.tuple #[]) ∧ w = w' := by
  obtain ⟨c0, c1, c2, c3⟩ := h.cell
  rw [hg] at c3
  clear h c0 c1 c2 hg
  go_enter Try.func15, Try.ntmps15
  go_wp2_with fail
  refine bodyPost_ret (results_none rfl _ _ _) rfl ?_
  exact ⟨rfl, rfl⟩
theorem fuse_any (w : World) (N d gs : Nat) (v : Value) (s : DSt) (h : DAt w N d gs v s) (hg : s.gone = false) (n : Int) :
    Calls Try.prog 15 #[.pointer (some ⟨d, 0, none⟩), .int .i64 n] w fun e w' => e = .returned (.tuple #[]) ∧ DAt w' N d gs v { s with fuse := max n 0, gone := n == 0 } ∧ Kept1 d w w' := by
  obtain ⟨c0, c1, c2, c3⟩ := h.cell
  have f2 := h.frozen 2
  have f3 := h.frozen 3
  rw [hg] at c3
  have key : ∀ m : Int, m = max n 0 → DAt ((w.setCell ⟨d, 2, none⟩ (.int .i64 m)).setCell ⟨d, 3, none⟩ (.bool (n == 0))) N d gs v { s with fuse := max n 0, gone := n == 0 } := fun m hm => by
    subst hm
    exact h.turn (((Kept1.refl d w).setCell _ (.inl rfl) _).setCell _ (.inl rfl) _) (heap_set (heap_set h.blk 2 _) 3 _) rfl (.inl ⟨rfl, rfl⟩)
  have Key := Lib.hid key
  clear h c0 c1 hg key
  go_enter Try.func15, Try.ntmps15
  go_wp2_with fail
  all_goals
    go_end0
    exact ⟨rfl, Key.out _ (by omega), ((Kept1.refl d w).setCell _ (.inl rfl) _).setCell _ (.inl rfl) _⟩

/-- the state behind a write's burning -/
def DSt.burnt (s : DSt) : DSt := if 0 < s.fuse then { s with fuse := s.fuse - 1, gone := s.fuse - 1 == 0 } else s
theorem burn_any (w : World) (N d gs : Nat) (v : Value) (s : DSt) (h : DAt w N d gs v s) (hf : s.fuse ≤ 9223372036854775807) :
    Calls Try.prog 24 #[.pointer (some ⟨d, 0, none⟩)] w fun e w' => e = .returned (.tuple #[]) ∧ DAt w' N d gs v s.burnt ∧ Kept1 d w w' := by
  obtain ⟨c0, c1, c2, c3⟩ := h.cell
  have f2 := h.frozen 2
  have f3 := h.frozen 3
  unfold DSt.burnt
  by_cases hp : 0 < s.fuse
  · have hd : decide (0 < s.fuse) = true := by simpa using hp
    rw [if_pos hp]
    have key := h.turn (v' := v) (s' := { s with fuse := s.fuse - 1, gone := s.fuse - 1 == 0 }) (((Kept1.refl d w).setCell ⟨d, 2, none⟩ (.inl rfl) (.int .i64 (s.fuse - 1))).setCell ⟨d, 3, none⟩ (.inl rfl) (.bool (s.fuse - 1 == 0)))
      (heap_set (heap_set h.blk 2 _) 3 _) rfl (.inl ⟨rfl, rfl⟩)
    have Key := Lib.hid key
    clear h c0 c1 key
    generalize s.gone = go at *
    generalize s.fuse = fu at *
    go_enter Try.func24, Try.ntmps24
    go_wp2_with fail
    go_end0
    exact ⟨rfl, Key.out, ((Kept1.refl d w).setCell _ (.inl rfl) _).setCell _ (.inl rfl) _⟩
  · have hd : decide (0 < s.fuse) = false := by simpa using hp
    rw [if_neg hp]
    have Key := Lib.hid h
    clear h c0 c1
    go_enter Try.func24, Try.ntmps24
    go_wp2_with fail
    go_end0
    exact ⟨rfl, Key.out, Kept1.refl d w⟩
end Go.Proofs.Ytammnjfccjfbhaa
