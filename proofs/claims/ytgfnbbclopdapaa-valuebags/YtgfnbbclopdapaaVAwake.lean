/- What a program that does nothing doesn't answer. -/
import Derived.Test.YtgfnbbclopdapaaVAdd
namespace Go.Proofs.Ytgfnbbclopdapaa
open Go.RowKit

theorem addR_23 : addR true true 2 2 2 3 = (2, 5, 0) := by decide +kernel
theorem aloneNum (n : Int) : aloneB 2 n ⟨#[]⟩ 0 = true := by
  rw [aloneB, if_neg (by omega), if_neg (by decide), if_neg (by decide), if_pos (by decide)]
  decide +kernel
theorem formedNum (n : Int) (w : World) : FormedIs w (V 2 n ⟨#[]⟩ none 0 0) true := by
  have h := formedIs_one 2 n ⟨#[]⟩ none 0 0 w (by decide) rfl
  rwa [aloneNum] at h
set_option maxHeartbeats 400000 in
theorem awake_any (w : World) : Calls Try.prog 9 #[] w fun e w' => e = .returned (.bool true) ∧ Below w.heap.size w w' := by
  go_enter Try.func9, Try.ntmps9
  go_wp2_with fail
  refine (number_any _ _).mono ?_
  rintro e w1 ⟨rfl, h1⟩
  have H1 := Lib.hid h1
  clear h1
  go_wp2_with fail
  refine (number_any _ _).mono ?_
  rintro e w2 ⟨rfl, h2⟩
  have H2 := Lib.hid (H1.out.trans (h2.mono H1.out.size))
  clear h2
  go_wp2_with fail
  refine (add_any 2 2 ⟨#[]⟩ none 0 0 2 3 ⟨#[]⟩ none 0 0 true true w2 (formedNum 2 w2) (formedNum 3 w2)).mono ?_
  rw [addR_23]
  rintro e w3 ⟨rfl, h3⟩
  have H3 := Lib.hid (H2.out.trans (h3.mono H2.out.size))
  clear h3 H1 H2
  go_wp2_with fail
  refine (formed_one 2 5 ⟨#[]⟩ none 0 0 _ (by decide) rfl).mono ?_
  rintro e w4 ⟨rfl, h4⟩
  rw [show aloneB 2 5 ⟨#[]⟩ 0 = true by decide +kernel]
  have H4 := Lib.hid ((H3.out.alloc H3.out.size _).trans (h4.mono (Nat.le_trans H3.out.size (by simp))))
  clear h4
  go_wp2_with fail
  go_ret
  exact ⟨rfl, H4.out⟩
end Go.Proofs.Ytgfnbbclopdapaa
