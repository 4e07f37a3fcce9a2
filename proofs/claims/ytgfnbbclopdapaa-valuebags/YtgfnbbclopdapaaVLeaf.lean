/- The small functions of package value, each by its contract. -/
import Derived.Test.YtgfnbbclopdapaaProg
import Derived.WalkKit
import Derived.WalkSpells
import Derived.WalkLawsBesides
import Derived.WalkSmall
import Derived.Lib.Hide
import Derived.Deep.QuietTactic
import Derived.BigQuiet
namespace Go.Proofs.Ytgfnbbclopdapaa
open Go.RowKit

/-- a value as it is passed: its kind, its number, its text, its list -/
abbrev V (k i : Int) (s : ByteArray) (a : Option Addr) (n c : Nat) : Value := .agg #[.int .i64 k, .int .i64 i, .string s, .slice a n c]
theorem ret_bool {a b : Bool} (h : a = b) : Ending.returned (.bool a) = .returned (.bool b) := by rw [h]
theorem ret_int {k : IntKind} {a b : Int} (h : a = b) : Ending.returned (.int k a) = .returned (.int k b) := by rw [h]

/-- may a time have this number? -/
def timeB (n : Int) : Bool := decide (0 ≤ n) && decide (n ≤ 1099511627776)
theorem isTime_any (n : Int) (w : World) :
    Calls Try.prog 50 #[.int .i64 n] w fun e w' => e = .returned (.bool (timeB n)) ∧ w = w' := by
  go_enter Try.func50, Try.ntmps50
  go_wp2
  all_goals
    go_ret
    exact ⟨ret_bool (by simp [timeB, *]; try omega), rfl⟩

theorem number_any (n : Int) (w : World) :
    Calls Try.prog 29 #[.int .i64 n] w fun e w' => e = .returned (V 2 n ⟨#[]⟩ none 0 0) ∧ Below w.heap.size w w' := by
  go_enter Try.func29, Try.ntmps29
  go_wp2
  exact bodyPost_ret (v := V 2 n ⟨#[]⟩ none 0 0) (by simp [results, Try.results29, go_sem]) rfl ⟨rfl, (Below.refl _ _).alloc (Nat.le_refl _) _⟩

theorem truth_any (b : Bool) (w : World) :
    Calls Try.prog 28 #[.bool b] w fun e w' => e = .returned (V 1 (if b then 1 else 0) ⟨#[]⟩ none 0 0) ∧ Below w.heap.size w w' := by
  cases b
  · go_enter Try.func28, Try.ntmps28
    go_wp2
    exact bodyPost_ret (v := V 1 0 ⟨#[]⟩ none 0 0) (by simp [results, Try.results28, go_sem]) rfl ⟨rfl, (Below.refl _ _).alloc (Nat.le_refl _) _⟩
  · go_enter Try.func28, Try.ntmps28
    go_wp2
    exact bodyPost_ret (v := V 1 1 ⟨#[]⟩ none 0 0) (by simp [results, Try.results28, go_sem]) rfl ⟨rfl, (Below.refl _ _).alloc (Nat.le_refl _) _⟩

/-- the first 64 bytes of a text, as the model cuts it -/
theorem text_any (s : ByteArray) (hs : s.size ≤ maxLen) (w : World) :
    Calls Try.prog 30 #[.string s] w fun e w' => e = .returned (V 3 0 (s.extract 0 (min s.size 64)) none 0 0) ∧ Below w.heap.size w w' := by
  unfold maxLen at hs
  by_cases h : 64 < s.size
  · rw [show min s.size 64 = 64 by omega]
    go_enter Try.func30, Try.ntmps30
    go_wp2
    exact bodyPost_ret (v := V 3 0 (s.extract 0 64) none 0 0) (by simp [results, Try.results30, go_sem]) rfl ⟨rfl, (Below.refl _ _).alloc (Nat.le_refl _) _⟩
  · rw [show min s.size 64 = s.size by omega, ByteArray.extract_zero_size]
    go_enter Try.func30, Try.ntmps30
    go_wp2
    exact bodyPost_ret (v := V 3 0 s none 0 0) (by simp [results, Try.results30, go_sem]) rfl ⟨rfl, (Below.refl _ _).alloc (Nat.le_refl _) _⟩

theorem sum_any (a b : Int) (w : World) :
    Calls Try.prog 42 #[.int .i64 a, .int .i64 b] w fun e w' => e = .returned (.tuple #[.int .i64 (wrap64 (a + b)), .bool (decide (a < wrap64 (a + b)) == decide (0 < b))]) ∧ w = w' := by
  go_enter Try.func42, Try.ntmps42
  go_wp2
  go_ret2
  exact ⟨rfl, rfl⟩

/-- is a value that is no bag formed? -/
def aloneB (k i : Int) (s : ByteArray) (n : Nat) : Bool :=
  if 0 < n then false else if k == 0 then i == 0 && s.toList.isEmpty else if k == 1 then (i == 0 || i == 1) && s.toList.isEmpty else if k == 2 then s.toList.isEmpty
  else if k == 3 then i == 0 && decide ((s.size : Int) ≤ 64) else if k == 4 then timeB i && s.toList.isEmpty else false
set_option maxHeartbeats 400000 in
theorem alone_any (k i : Int) (s : ByteArray) (a : Option Addr) (n c : Nat) (w : World) (hs : s.size ≤ maxLen) :
    Calls Try.prog 32 #[V k i s a n c] w fun e w' => e = .returned (.bool (aloneB k i s n)) ∧ Below w.heap.size w w' := by
  have hs' := hs
  unfold maxLen at hs'
  clear hs
  go_enter Try.func32, Try.ntmps32
  go_wp2_with (go_at_call 50; refine (isTime_any _ _).mono ?_; rintro e w' ⟨rfl, rfl⟩)
  all_goals
    go_ret
    exact ⟨ret_bool (by simp [aloneB, *]), (Below.refl _ _).alloc (Nat.le_refl _) _⟩
/-- a value that is no bag -/
theorem formed_one (k i : Int) (s : ByteArray) (a : Option Addr) (n c : Nat) (w : World) (hs : s.size ≤ maxLen) (hk : (k == 5) = false) :
    Calls Try.prog 11 #[V k i s a n c] w fun e w' => e = .returned (.bool (aloneB k i s n)) ∧ Below w.heap.size w w' := by
  go_enter Try.func11, Try.ntmps11
  go_wp2_with (go_at_call 32; refine (alone_any _ _ _ _ _ _ _ hs).mono ?_; rintro e w' ⟨rfl, hb⟩)
  go_ret
  exact ⟨rfl, ((Below.refl _ _).alloc (Nat.le_refl _) _).trans (hb.mono (by simp))⟩
theorem bcell {W w1 : World} (hb : Below W.heap.size W w1) : (∀ b o, b < W.heap.size → w1.cell? ⟨b, o, none⟩ = W.cell? ⟨b, o, none⟩) ∧ (∀ b o, b < W.heap.size → w1.frozen? ⟨b, o, none⟩ = W.frozen? ⟨b, o, none⟩) :=
  ⟨fun b o h => hb.cell (p := ⟨b, o, none⟩) h, fun b o h => hb.frozen (p := ⟨b, o, none⟩) h⟩
theorem below_set4 {m : Nat} {a w : World} (h : Below m a w) (g : Nat) (hg : m ≤ g) (x y z u : Value) :
    Below m a ((((w.setCell ⟨g, 0, none⟩ x).setCell ⟨g, 1, none⟩ y).setCell ⟨g, 2, none⟩ z).setCell ⟨g, 3, none⟩ u) := (((h.setCell hg _).setCell hg _).setCell hg _).setCell hg _
theorem newNumber_any (n : Int) (w : World) :
    Calls Try.prog 41 #[.int .i64 n, .bool true] w fun e w' => e = .returned (.tuple #[V 2 n ⟨#[]⟩ none 0 0, .int .i64 0]) ∧ Below w.heap.size w w' := by
  go_enter Try.func41, Try.ntmps41
  go_wp2_with (go_at_call 29; refine (number_any _ _).mono ?_; rintro e w' ⟨rfl, hb⟩; obtain ⟨hc, hf⟩ := bcell hb)
  exact bodyPost_ret (v := .tuple #[V 2 n ⟨#[]⟩ none 0 0, .int .i64 0]) (by simp [results, Try.results41, go_sem, hc]) rfl ⟨rfl, below_set4 (((Below.refl _ _).alloc (Nat.le_refl _) _).trans (hb.mono (by simp))) _ (Nat.le_refl _) _ _ _ _⟩
theorem newNumber_over (n : Int) (w : World) :
    Calls Try.prog 41 #[.int .i64 n, .bool false] w fun e w' => e = .returned (.tuple #[V 0 0 ⟨#[]⟩ none 0 0, .int .i64 7]) ∧ Below w.heap.size w w' := by
  go_enter Try.func41, Try.ntmps41
  go_wp2
  exact bodyPost_ret (v := .tuple #[V 0 0 ⟨#[]⟩ none 0 0, .int .i64 7]) (by simp [results, Try.results41, go_sem]) rfl ⟨rfl, (Below.refl _ _).alloc (Nat.le_refl _) _⟩
end Go.Proofs.Ytgfnbbclopdapaa
