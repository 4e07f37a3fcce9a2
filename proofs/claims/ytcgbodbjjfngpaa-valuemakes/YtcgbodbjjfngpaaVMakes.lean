/- P2.1: truths, numbers and texts are formed, and what they are made of: the walk of the law. -/
import Derived.Test.YtcgbodbjjfngpaaVAwake
import Derived.Test.YtcgbodbjjfngpaaMem
import Derived.Test.YtcgbodbjjfngpaaQTail
namespace Go.Proofs.Ytcgbodbjjfngpaa
open Go.RowKit

/-- three new blocks -/
theorem three {w W : World} {a b c : Obj} (h : ((w.alloc a).alloc b).alloc c = W) : W.heap[w.heap.size]? = some a ∧ W.heap[w.heap.size + 1]? = some b ∧ W.heap[w.heap.size + 1 + 1]? = some c := by
  subst h
  refine ⟨?_, ?_, ?_⟩
  · rw [Below.heap_alloc _ _ _ (by simp; omega), Below.heap_alloc _ _ _ (by simp)]; exact heap_alloc_new _ _
  · rw [Below.heap_alloc _ _ _ (by simp)]; have := heap_alloc_new (w.alloc a) b; rwa [World.size_alloc] at this
  · have := heap_alloc_new ((w.alloc a).alloc b) c; rwa [World.size_alloc, World.size_alloc] at this
/-- a block of four cells, in every world in which it is as it was -/
theorem cells4 {W : World} {g : Nat} {x y z u : Value} {t : TypeId} {fr : Nat × Nat} (h : W.heap[g]? = some (.cells #[x, y, z, u] t fr)) (m : Bl W) :
    m.wr.cell? ⟨g, 0, none⟩ = some x ∧ m.wr.cell? ⟨g, 1, none⟩ = some y ∧ m.wr.cell? ⟨g, 2, none⟩ = some z ∧ m.wr.cell? ⟨g, 3, none⟩ = some u := by
  have hm := (m.below.block g (lt_block h)).trans h
  exact ⟨cell_block hm 0, cell_block hm 1, cell_block hm 2, cell_block hm 3⟩
theorem aloneTruth (b : Bool) : aloneB 1 (if b then 1 else 0) ⟨#[]⟩ 0 = true := by cases b <;> decide +kernel
theorem aloneText (s : ByteArray) : aloneB 3 0 (s.extract 0 (min s.size 64)) 0 = true := by
  rw [aloneB, if_neg (by omega), if_neg (by decide), if_neg (by decide), if_neg (by decide), if_pos (by decide)]
  simp; omega
set_option maxHeartbeats 400000 in
theorem makes_long (b : Bool) (n : Int) (s : ByteArray) (w : World) (hs : s.size ≤ maxLen) (hl : 200 < s.size) :
    Calls Try.prog 8 #[.bool b, .int .i64 n, .string s] w fun e w' => e = .returned (.bool true) ∧ Below w.heap.size w w' := by
  unfold maxLen at hs
  go_enter Try.func8, Try.ntmps8
  go_wp2_with fail
  refine (awake_any _).mono ?_
  rintro e w1 ⟨rfl, h1⟩
  have H1 := Lib.hid h1
  clear h1
  go_wp2_with fail
  refine (awake_any _).mono ?_
  rintro e w2 ⟨rfl, h2⟩
  have H2 := Lib.hid (H1.out.trans (h2.mono H1.out.size))
  clear h2
  go_wp2_with fail
  go_ret
  exact ⟨rfl, H2.out⟩
theorem truth_B (b : Bool) : ∃ B : Int, (B == 1) = b ∧ aloneB 1 B ⟨#[]⟩ 0 = true ∧ ∀ w, Calls Try.prog 28 #[.bool b] w fun e w' => e = .returned (V 1 B ⟨#[]⟩ none 0 0) ∧ Below w.heap.size w w' := by
  cases b
  · exact ⟨0, rfl, aloneTruth false, truth_any false⟩
  · exact ⟨1, rfl, aloneTruth true, truth_any true⟩
/-- a value that is formed, by a fact -/
theorem formed_yes (k i : Int) (s : ByteArray) (a : Option Addr) (n c : Nat) (w : World) (hs : s.size ≤ maxLen) (hk : (k == 5) = false) (hf : aloneB k i s n = true) :
    Calls Try.prog 11 #[V k i s a n c] w fun e w' => e = .returned (.bool true) ∧ Below w.heap.size w w' := by
  have h := formed_one k i s a n c w hs hk
  rwa [hf] at h
set_option maxRecDepth 100000 in
set_option maxHeartbeats 4000000 in
theorem makes_short (b : Bool) (n : Int) (s : ByteArray) (w : World) (hl : s.size ≤ 200) :
    Calls Try.prog 8 #[.bool b, .int .i64 n, .string s] w fun e w' => e = .returned (.bool true) ∧ Below w.heap.size w w' := by
  have hm : s.size ≤ maxLen := by unfold maxLen; omega
  have Htx := Lib.hid (text_any s hm)
  have hx := aloneText s
  have hmx : (s.extract 0 (min s.size 64)).size ≤ maxLen := by unfold maxLen; simp; omega
  clear hm
  by_cases h64 : 64 < s.size
  all_goals
    first | (rw [show min s.size 64 = 64 by omega] at hx hmx Htx) | (rw [show min s.size 64 = s.size by omega, ByteArray.extract_zero_size] at hx hmx Htx)
    have HM := Lib.hid hmx
    have HX := Lib.hid hx
    clear hmx hx
    obtain ⟨B, hB, hB1, htr⟩ := truth_B b
    have HTr := Lib.hid htr
    have HB1 := Lib.hid hB1
    have HBb := Lib.hid hB
    clear htr hB1 hB
    all_goals
      go_enter Try.func8, Try.ntmps8
      go_wp2_with fail
      refine (awake_any _).mono ?_
      rintro e w1 ⟨rfl, h1⟩
      have H1 := Lib.hid h1
      clear h1
      go_wp2_with fail
      refine (HTr.out _).mono ?_
      rintro e w2 ⟨rfl, h2⟩
      have H2 := Lib.hid (H1.out.trans (h2.mono H1.out.size))
      clear h2
      go_wp2_with fail
      refine (number_any _ _).mono ?_
      rintro e w3 ⟨rfl, h3⟩
      have H3 := Lib.hid (H2.out.trans (h3.mono H2.out.size))
      clear h3
      go_wp2_with fail
      refine (Htx.out _).mono ?_
      rintro e w4 ⟨rfl, h4⟩
      have H4 := Lib.hid (H3.out.trans (h4.mono H3.out.size))
      clear h4 H1 H2 H3 Htx
      go_wp2_with fail
      have hsz4 := H4.out.size
      generalize hW : World.alloc _ _ = W
      have hb0 : Below w.heap.size w W := by rw [← hW]; exact ((H4.out.alloc hsz4 _).alloc (Nat.le_trans hsz4 (by simp)) _).alloc (Nat.le_trans hsz4 (by simp; omega)) _
      obtain ⟨g1, g2, g3⟩ := three hW
      have p10 := fun m : Bl W => (cells4 g1 m).1
      have p11 := fun m : Bl W => (cells4 g1 m).2.1
      have p12 := fun m : Bl W => (cells4 g1 m).2.2.1
      have p13 := fun m : Bl W => (cells4 g1 m).2.2.2
      have p20 := fun m : Bl W => (cells4 g2 m).1
      have p21 := fun m : Bl W => (cells4 g2 m).2.1
      have p22 := fun m : Bl W => (cells4 g2 m).2.2.1
      have p23 := fun m : Bl W => (cells4 g2 m).2.2.2
      have p30 := fun m : Bl W => (cells4 g3 m).1
      have p31 := fun m : Bl W => (cells4 g3 m).2.1
      have p32 := fun m : Bl W => (cells4 g3 m).2.2.1
      have p33 := fun m : Bl W => (cells4 g3 m).2.2.2
      clear g1 g2 g3 hW
      have hBb := HBb.out
      have F1 := Lib.hid (fun W => formed_yes 1 B ⟨#[]⟩ none 0 0 W (by decide) rfl HB1.out)
      have F2 := Lib.hid (fun W => formed_yes 2 n ⟨#[]⟩ none 0 0 W (by decide) rfl (aloneNum n))
      have F3 := Lib.hid (fun W => formed_yes 3 0 _ none 0 0 W HM.out rfl HX.out)
      refine wp_region_quiet_tailB 48 (by kernel_rfl) (by kernel_rfl) ?_
      simp only [List.take_succ_cons, List.take_zero, List.drop_succ_cons, List.drop_zero]
      iterate 48 (go_big_quiet_step ((go_at_call 11; first | with_reducible exact Calls.quiet_b (F1.out _) | with_reducible exact Calls.quiet_b (F2.out _) | with_reducible exact Calls.quiet_b (F3.out _))))
      refine wpQuiet_nil ?_
      intro m
      have hbm : Below w.heap.size w m.wr := hb0.trans (m.below.mono hb0.size)
      have HB := Lib.hid hbm
      clear hbm p10 p11 p12 p13 p20 p21 p22 p23 p30 p31 p32 p33
      go_wp2_with fail
      go_ret
      exact ⟨rfl, HB.out⟩
end Go.Proofs.Ytcgbodbjjfngpaa
