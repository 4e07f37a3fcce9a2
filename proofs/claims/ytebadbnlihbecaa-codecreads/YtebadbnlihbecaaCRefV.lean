/- The reference's values: bytes of those that are no bag, and of bags. -/
import Derived.Test.YtebadbnlihbecaaCRef
namespace Go.Proofs.Ytebadbnlihbecaa
open Go.RowKit

theorem OwnB.next {w : World} {base : Nat} {v : Value} {l : List UInt8} (h : OwnB w base v l) (o : Obj) : OwnB (w.alloc o) base v l := h.on fun _ _ hg => Below.heap_alloc _ _ _ hg
theorem empty_of {s : ByteArray} (h : s.toList.isEmpty = true) : tb s = [] := by rw [toList_tb] at h; simpa using h
theorem numB_one (n : Nat) : numB n 1 = [UInt8.ofNat n] := by rw [numB_succ]; simp [numB]
theorem plainB0 (x : Val) (h : x.k = 0) : plainB x = [0] := by simp [plainB, tailB, h, numB_one]
theorem plainB1 (x : Val) (h : x.k = 1) (hi : x.i = 0 ∨ x.i = 1) : plainB x = [1, UInt8.ofNat x.i.toNat] := by
  rcases hi with hi | hi <;> simp [plainB, tailB, h, hi, numB_one]
theorem plainB2 (x : Val) (h : x.k = 2) : plainB x = [2] ++ numB (x.i % 18446744073709551616).toNat 8 := by simp [plainB, tailB, h, numB_one]
theorem plainB3 (x : Val) (h : x.k = 3) : plainB x = [3] ++ numB x.s.size 2 ++ tb x.s := by simp [plainB, tailB, h, numB_one]
theorem plainB4 (x : Val) (h : x.k = 4) : plainB x = [4] ++ numB (x.i % 18446744073709551616).toNat 8 := by simp [plainB, tailB, h, numB_one]
theorem own_at {w : World} {base g : Nat} {b : UInt8} (hg : w.heap[g]? = some (.cells #[B b] 5 (0, 0))) (hb : base ≤ g) : OwnB w base (.slice (some ⟨g, 0, none⟩) 1 1) [b] :=
  ⟨⟨by simp, .inr ⟨g, 1, _, rfl, hb, hg, Nat.le_refl _, by decide, by simp, by simp⟩⟩⟩
theorem heap2 (w : World) (o1 o2 : Obj) : ((w.alloc o1).alloc o2).heap[w.heap.size + 1]? = some o2 := by
  have := heap_alloc_new (w.alloc o1) o2
  rwa [World.size_alloc] at this
theorem heap3 (w : World) (o1 o2 o3 : Obj) : (((w.alloc o1).alloc o2).alloc o3).heap[w.heap.size + 1 + 1]? = some o3 := by
  have := heap_alloc_new ((w.alloc o1).alloc o2) o3
  rwa [World.size_alloc, World.size_alloc] at this
theorem heap23 (w : World) (o1 o2 o3 : Obj) : (((w.alloc o1).alloc o2).alloc o3).heap[w.heap.size + 1]? = some o2 :=
  (Below.heap_alloc _ _ _ (lt_block (heap2 w o1 o2))).trans (heap2 w o1 o2)
theorem below2 (w : World) (o1 o2 : Obj) : Below w.heap.size w ((w.alloc o1).alloc o2) := ((Below.refl _ _).alloc (Nat.le_refl _) _).alloc (by simp only [World.size_alloc]; omega) _
theorem below3 (w : World) (o1 o2 o3 : Obj) : Below w.heap.size w (((w.alloc o1).alloc o2).alloc o3) := (below2 w o1 o2).alloc (by simp only [World.size_alloc]; omega) _

set_option maxRecDepth 100000 in
set_option maxHeartbeats 2000000 in
theorem refPlain_any (w : World) (x : Val) (ha : x.alone = true) (h1 : -9223372036854775808 ≤ x.i) (h2 : x.i ≤ 9223372036854775807) :
    Calls Try.prog 28 #[.agg #[.int .i64 x.k, .int .i64 x.i, .string x.s, .slice x.a x.n x.c]] w fun e w' => ∃ v, e = .returned v ∧ OwnB w' w.heap.size v (plainB x) ∧ Below w.heap.size w w' := by
  have hk := alone_kind ha
  obtain ⟨k, i, s, a, n, c⟩ := x
  unfold Val.alone aloneB at ha
  dsimp only at ha hk h1 h2 ⊢
  split at ha
  · cases ha
  rcases hk with rfl | rfl | rfl | rfl | rfl
  · simp only [BEq.rfl, if_true, Bool.and_eq_true, beq_iff_eq] at ha
    obtain ⟨rfl, _⟩ := ha
    go_enter Try.func28, Try.ntmps28
    go_wp2_with fail
    go_ret
    rw [plainB0 _ rfl]
    exact ⟨_, rfl, own_at (b := 0) (heap2 _ _ _) (by omega), below2 _ _ _⟩
  · simp at ha
    have HI := ha.1
    have HB := Lib.hid (plainB1 ⟨1, i, s, a, n, c⟩ rfl ha.1)
    dsimp only at HB
    clear ha
    go_enter Try.func28, Try.ntmps28
    rcases HI with rfl | rfl
    · go_wp2_with (at_builtin; refine append_b rfl (.tmp 13) (.tmp 17) rfl w.heap.size [1] [0] _ rfl (own_at (heap23 _ _ _ _) (by omega)) _ rfl (own_at (base := 0) (b := 0) (heap3 _ _ _ _) (by omega)).src (by simp) (by decide) (by simp only [World.size_alloc]; omega) [1, 0] rfl ?_)
      intro v3 w3 hown hb3
      have HO := Lib.hid hown
      have HBB := Lib.hid ((below3 w _ _ _).trans hb3)
      obtain ⟨va, vc, rfl⟩ := hown.shape
      clear hown hb3
      go_wp2_with fail
      go_ret
      exact ⟨_, rfl, by rw [HB.out]; exact HO.out, HBB.out⟩
    · go_wp2_with (at_builtin; refine append_b rfl (.tmp 13) (.tmp 17) rfl w.heap.size [1] [1] _ rfl (own_at (heap23 _ _ _ _) (by omega)) _ rfl (own_at (base := 0) (b := 1) (heap3 _ _ _ _) (by omega)).src (by simp) (by decide) (by simp only [World.size_alloc]; omega) [1, 1] rfl ?_)
      intro v3 w3 hown hb3
      have HO := Lib.hid hown
      have HBB := Lib.hid ((below3 w _ _ _).trans hb3)
      obtain ⟨va, vc, rfl⟩ := hown.shape
      clear hown hb3
      go_wp2_with fail
      go_ret
      exact ⟨_, rfl, by rw [HB.out]; exact HO.out, HBB.out⟩
  · have HB := Lib.hid (plainB2 ⟨2, i, s, a, n, c⟩ rfl)
    dsimp only at HB
    obtain ⟨q, hq⟩ : ∃ q : Nat, (i % 18446744073709551616).toNat = q := ⟨_, rfl⟩
    have hq64 : q < 2 ^ 64 := by omega
    have hqi : i % 18446744073709551616 = (q : Int) := by omega
    have hw : IntKind.u64.wrap i = (q : Int) := by rw [← hqi]; rfl
    have NN := Lib.hid (fun W => refNumber_any W q 8 hq64 (by omega) (by omega))
    rw [hq] at HB
    clear ha hq hqi
    go_enter Try.func28, Try.ntmps28
    go_wp2_with fail
    obtain ⟨W1, hW1⟩ : ∃ W1, (w.alloc (.cells #[.int .i64 2, .int .i64 i, .string s, .slice a n c] 33)).alloc (.cells #[.int .u8 2] 5) = W1 := ⟨_, rfl⟩
    have hO1 : OwnB W1 w.heap.size (.slice (some ⟨w.heap.size + 1, 0, none⟩) 1 1) [2] := by rw [← hW1]; exact own_at (b := 2) (heap2 w _ _) (by omega)
    have hB1 : Below w.heap.size w W1 := by rw [← hW1]; exact below2 w _ _
    have HO1 := Lib.hid hO1
    have HB1 := Lib.hid hB1
    rw [hW1]
    clear hO1 hB1 hW1
    refine (NN.out W1).mono ?_
    rintro e w2 ⟨v2, rfl, hv2, hb2⟩
    have HO2 := Lib.hid (HO1.out.below hb2)
    have HB2 := Lib.hid (HB1.out.trans (hb2.mono HB1.out.size))
    have HS2 := Lib.hid hv2.src
    have hl2 : w.heap.size ≤ w2.heap.size := HB2.out.size
    obtain ⟨va, vc, rfl⟩ := hv2.shape
    clear hv2 hb2 HO1 HB1 NN
    go_wp2_with (at_builtin; refine append_b rfl (.tmp 22) (.tmp 26) rfl w.heap.size [2] (numB q 8) _ rfl HO2.out _ rfl HS2.out (by intro h; have := numB_length q 8; rw [h] at this; cases this) (by rw [numB_length]; decide) hl2 ([2] ++ numB q 8) rfl ?_)
    intro v3 w3 hown hb3
    have HO3 := Lib.hid hown
    have HB3 := Lib.hid (HB2.out.trans hb3)
    obtain ⟨va3, vc3, rfl⟩ := hown.shape
    clear hown hb3
    go_wp2_with fail
    go_ret
    exact ⟨_, rfl, by rw [HB.out]; exact HO3.out, HB3.out⟩
  · simp at ha
    have hs64 := ha.2
    have HB := Lib.hid (plainB3 ⟨3, i, s, a, n, c⟩ rfl)
    dsimp only at HB
    have NN := Lib.hid (fun W => refNumber_any W s.size 2 (by omega) (by omega) (by omega))
    have hne : ∀ q, numB q 2 ≠ [] := fun q h => by have := numB_length q 2; rw [h] at this; cases this
    have HN := Lib.hid hne
    have HN2 := Lib.hid (numB_length s.size 2)
    clear ha hne
    go_enter Try.func28, Try.ntmps28
    go_wp2_with fail
    obtain ⟨W1, hW1⟩ : ∃ W1, (w.alloc (.cells #[.int .i64 3, .int .i64 i, .string s, .slice a n c] 33)).alloc (.cells #[.int .u8 3] 5) = W1 := ⟨_, rfl⟩
    have hO1 : OwnB W1 (w.heap.size + 1) (.slice (some ⟨w.heap.size + 1, 0, none⟩) 1 1) [3] := by rw [← hW1]; exact own_at (b := 3) (heap2 w _ _) (by omega)
    have hB1 : Below w.heap.size w W1 := by rw [← hW1]; exact below2 w _ _
    have hX1 : W1.heap[w.heap.size]? = some (.cells #[.int .i64 3, .int .i64 i, .string s, .slice a n c] 33 (0, 0)) := by rw [← hW1]; exact (Below.heap_alloc _ _ _ (lt_block (heap_alloc_new w _))).trans (heap_alloc_new w _)
    have HO1 := Lib.hid hO1
    have HB1 := Lib.hid hB1
    have HX1 := Lib.hid hX1
    rw [hW1]
    clear hO1 hB1 hW1 hX1
    refine (NN.out W1).mono ?_
    rintro e w2 ⟨v2, rfl, hv2, hb2⟩
    have HO2 := Lib.hid (HO1.out.below hb2)
    have HB2 := Lib.hid (HB1.out.trans (hb2.mono HB1.out.size))
    have HX2 := Lib.hid ((hb2.block _ (lt_block HX1.out)).trans HX1.out)
    have HS2 := Lib.hid hv2.src
    have hl2 : w.heap.size + 1 ≤ w2.heap.size := lt_block HX2.out
    obtain ⟨va, vc, rfl⟩ := hv2.shape
    clear hv2 hb2 HO1 HB1 HX1 NN
    go_wp2_with (at_builtin; refine append_b rfl (.tmp 30) (.tmp 35) rfl (w.heap.size + 1) [3] (numB s.size 2) _ rfl HO2.out _ rfl HS2.out (HN.out _) (by rw [HN2.out]; decide) hl2 ([3] ++ numB s.size 2) rfl ?_)
    intro v3 w3 hown hb3
    have HO3 := Lib.hid hown
    have HB3 := Lib.hid (HB2.out.trans (hb3.mono (by omega)))
    have hx3 := (hb3.block _ (Nat.lt_succ_self _)).trans HX2.out
    have c2 : w3.cell? ⟨w.heap.size, 2, none⟩ = some (.string s) := cell_block hx3 2
    have hl3 : w.heap.size + 1 ≤ w3.heap.size := lt_block hx3
    clear hown hb3 hx3 HO2 HB2 HX2 HS2 hl2
    go_wp2_with (at_builtin; go_loud (refine append_s rfl (.tmp 37) (.tmp 39) rfl (w.heap.size + 1) (3 :: numB s.size 2) _ rfl HO3.out s rfl (by rw [List.length_cons, HN2.out]; omega) hl3 ([3] ++ numB s.size 2 ++ tb s) rfl ?_))
    intro v4 w4 hown hb4
    have HO4 := Lib.hid hown
    have HB4 := Lib.hid (HB3.out.trans (hb4.mono (by omega)))
    obtain ⟨va4, vc4, rfl⟩ := hown.shape
    clear hown hb4
    go_wp2_with fail
    go_ret
    exact ⟨_, rfl, by rw [HB.out]; exact HO4.out.mono (by omega), HB4.out⟩
  · have HB := Lib.hid (plainB4 ⟨4, i, s, a, n, c⟩ rfl)
    dsimp only at HB
    obtain ⟨q, hq⟩ : ∃ q : Nat, (i % 18446744073709551616).toNat = q := ⟨_, rfl⟩
    have hq64 : q < 2 ^ 64 := by omega
    have hqi : i % 18446744073709551616 = (q : Int) := by omega
    have hw : IntKind.u64.wrap i = (q : Int) := by rw [← hqi]; rfl
    have NN := Lib.hid (fun W => refNumber_any W q 8 hq64 (by omega) (by omega))
    rw [hq] at HB
    clear ha hq hqi
    go_enter Try.func28, Try.ntmps28
    go_wp2_with fail
    obtain ⟨W1, hW1⟩ : ∃ W1, (w.alloc (.cells #[.int .i64 4, .int .i64 i, .string s, .slice a n c] 33)).alloc (.cells #[.int .u8 4] 5) = W1 := ⟨_, rfl⟩
    have hO1 : OwnB W1 w.heap.size (.slice (some ⟨w.heap.size + 1, 0, none⟩) 1 1) [4] := by rw [← hW1]; exact own_at (b := 4) (heap2 w _ _) (by omega)
    have hB1 : Below w.heap.size w W1 := by rw [← hW1]; exact below2 w _ _
    have HO1 := Lib.hid hO1
    have HB1 := Lib.hid hB1
    rw [hW1]
    clear hO1 hB1 hW1
    refine (NN.out W1).mono ?_
    rintro e w2 ⟨v2, rfl, hv2, hb2⟩
    have HO2 := Lib.hid (HO1.out.below hb2)
    have HB2 := Lib.hid (HB1.out.trans (hb2.mono HB1.out.size))
    have HS2 := Lib.hid hv2.src
    have hl2 : w.heap.size ≤ w2.heap.size := HB2.out.size
    obtain ⟨va, vc, rfl⟩ := hv2.shape
    clear hv2 hb2 HO1 HB1 NN
    go_wp2_with (at_builtin; refine append_b rfl (.tmp 22) (.tmp 26) rfl w.heap.size [4] (numB q 8) _ rfl HO2.out _ rfl HS2.out (by intro h; have := numB_length q 8; rw [h] at this; cases this) (by rw [numB_length]; decide) hl2 ([4] ++ numB q 8) rfl ?_)
    intro v3 w3 hown hb3
    have HO3 := Lib.hid hown
    have HB3 := Lib.hid (HB2.out.trans hb3)
    obtain ⟨va3, vc3, rfl⟩ := hown.shape
    clear hown hb3
    go_wp2_with fail
    go_ret
    exact ⟨_, rfl, by rw [HB.out]; exact HO3.out, HB3.out⟩
end Go.Proofs.Ytebadbnlihbecaa
