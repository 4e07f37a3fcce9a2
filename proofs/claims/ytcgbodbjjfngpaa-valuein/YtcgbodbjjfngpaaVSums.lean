/- Sums and differences, as the document has them. -/
import Derived.Test.YtcgbodbjjfngpaaVWide
import Derived.Test.YtcgbodbjjfngpaaVList
namespace Go.Proofs.Ytcgbodbjjfngpaa
open Go.RowKit

/-- does a number fit into 64 bits? as the document tells -/
def okW (z : Int) : Bool := hiW (wrap64 (loW z)) == hiW z && loW (wrap64 (loW z)) == loW z
theorem okW_is (z : Int) (h1 : -170141183460469231731687303715884105728 ≤ z) (h2 : z < 170141183460469231731687303715884105728) : okW z = decide (-9223372036854775808 ≤ z ∧ z ≤ 9223372036854775807) := by
  unfold okW hiW loW wrap64
  rw [Bool.eq_iff_iff]
  simp only [Bool.and_eq_true, beq_iff_eq, decide_eq_true_eq]
  omega
theorem nW_is (z : Int) : wrap64 (loW z) = wrap64 z := by unfold loW wrap64; omega
/-- a sum's answer, as the document has it: the kind, the number, the error -/
def sumsR (k1 i1 k2 i2 : Int) (minus : Bool) : Int × Int × Int :=
  let z := if minus then i1 + -i2 else i1 + i2
  if (k1 == 4 && k2 == 2) = true then (if (!okW z || (decide (wrap64 (loW z) < 0) || decide (1099511627776 < wrap64 (loW z)))) = true then (0, 0, 7) else (4, wrap64 (loW z), 0))
  else if (k1 == 2 && k2 == 2 || (minus && k1 == 4 && k2 == 4)) = true then (if (!okW z) = true then (0, 0, 7) else (2, wrap64 (loW z), 0)) else (0, 0, 6)

/-- three new blocks -/
theorem three {w W : World} {a b c : Obj} (h : ((w.alloc a).alloc b).alloc c = W) : W.heap[w.heap.size]? = some a ∧ W.heap[w.heap.size + 1]? = some b ∧ W.heap[w.heap.size + 1 + 1]? = some c := by
  subst h
  refine ⟨?_, ?_, ?_⟩
  · rw [Below.heap_alloc _ _ _ (by simp; omega), Below.heap_alloc _ _ _ (by simp)]; exact heap_alloc_new _ _
  · rw [Below.heap_alloc _ _ _ (by simp)]; have := heap_alloc_new (w.alloc a) b; rwa [World.size_alloc] at this
  · have := heap_alloc_new ((w.alloc a).alloc b) c; rwa [World.size_alloc, World.size_alloc] at this
theorem alloc_block {w W : World} {o : Obj} {g : Nat} {O : Obj} (hW : w.alloc o = W) (h : w.heap[g]? = some O) : W.heap[g]? = some O := by
  subst hW; rw [Below.heap_alloc _ _ _ (lt_block h)]; exact h
/-- the same, of the number and whether it fits -/
def sumsK (k1 k2 n : Int) (ok minus : Bool) : Int × Int × Int :=
  if (k1 == 4 && k2 == 2) = true then (if (!ok || (decide (n < 0) || decide (1099511627776 < n))) = true then (0, 0, 7) else (4, n, 0))
  else if (k1 == 2 && k2 == 2 || (minus && k1 == 4 && k2 == 4)) = true then (if (!ok) = true then (0, 0, 7) else (2, n, 0)) else (0, 0, 6)
theorem set2_other {w : World} {g k : Nat} {x y : Value} (h : k ≠ g) : ((w.setCell ⟨g, 0, none⟩ x).setCell ⟨g, 1, none⟩ y).heap[k]? = w.heap[k]? := by
  rw [Below.heap_setCell _ _ _ _ h, Below.heap_setCell _ _ _ _ h]
theorem set2_same {w : World} {g : Nat} {a b : Value} {t : TypeId} (h : w.heap[g]? = some (.cells #[a, b] t (0, 0))) (x y : Value) : ((w.setCell ⟨g, 0, none⟩ x).setCell ⟨g, 1, none⟩ y).heap[g]? = some (.cells #[x, y] t (0, 0)) := by
  have h1 := heap_setCell_same w g 0 _ t x h
  have h2 := heap_setCell_same _ g 1 _ t y h1
  simpa using h2
theorem below_cells {W w1 : World} (hb : Below W.heap.size W w1) {g : Nat} {C : Array Value} {t : TypeId} {fr : Nat × Nat} (h : W.heap[g]? = some (.cells C t fr)) : w1.heap[g]? = some (.cells C t fr) := (hb.block g (lt_block h)).trans h
set_option maxHeartbeats 2000000 in
theorem sums_plain (x y : Val) (w : World) (hx1 : -9223372036854775808 ≤ x.i) (hx2 : x.i ≤ 9223372036854775807) (hy1 : -9223372036854775808 ≤ y.i) (hy2 : y.i ≤ 9223372036854775807) :
    Calls Try.prog 22 #[x.v, y.v, .bool false] w (AddPost (sumsR x.k x.i y.k y.i false) w) := by
  unfold Val.v
  have HOx := Lib.hid (fun W => of_any x.i W hx1 hx2)
  have HOy := Lib.hid (fun W => of_any y.i W hy1 hy2)
  have HPl := Lib.hid (fun W => plus_any x.i (y.i) W)
  obtain ⟨n, hn⟩ : ∃ n, wrap64 (loW (x.i + y.i)) = n := ⟨_, rfl⟩
  obtain ⟨ok, hok⟩ : ∃ ok, okW (x.i + y.i) = ok := ⟨_, rfl⟩
  have HFi : Hid (∀ W, Calls Try.prog 24 #[Wd (hiW (x.i + y.i)) (loW (x.i + y.i))] W fun e w' => e = .returned (.tuple #[.int .i64 n, .bool ok]) ∧ Below W.heap.size W w') := Lib.hid (by
    intro W; rw [← hn, ← hok]; exact fits_any _ W)
  have HR : Hid (sumsR x.k x.i y.k y.i false = sumsK x.k y.k n ok false) := Lib.hid (by rw [← hn, ← hok]; rfl)
  rw [HR.out]
  clear hn hok hx1 hx2 hy1 hy2 HR
  go_enter Try.func22, Try.ntmps22
  go_wp2_with fail
  generalize hW : World.alloc _ _ = W0 at *
  have h0 : Below w.heap.size w W0 := by rw [← hW]; exact (((Below.refl _ _).alloc (Nat.le_refl _) _).alloc (by simp) _).alloc (by simp; omega) _
  obtain ⟨g1, g2, g3⟩ := three hW
  clear hW
  refine (HOy.out _).mono ?_
  rintro e w1 ⟨rfl, hb1⟩
  have h01 := h0.trans (hb1.mono h0.size)
  replace g1 := below_cells hb1 g1
  replace g2 := below_cells hb1 g2
  replace g3 := below_cells hb1 g3
  clear hb1 h0
  have hlt1 := lt_block g3
  generalize hyl : loW y.i = yl at *
  generalize hyh : hiW y.i = yh at *
  have G1 := Lib.hid g1
  have G2 := Lib.hid g2
  have G3 := Lib.hid g3
  have H01 := Lib.hid h01
  clear g1 g2 g3 h01 hyl hyh
  go_wp2_with fail
  generalize hW : World.alloc _ _ = W2 at *
  have h02 : Below w.heap.size w W2 := by rw [← hW]; exact H01.out.alloc H01.out.size _
  have g4 : W2.heap[w1.heap.size]? = some (.cells #[.int .i64 yh, .int .u64 yl] 41 (0, 0)) := by rw [← hW]; exact heap_alloc_new _ _
  have g1 := alloc_block hW G1.out
  have g2 := alloc_block hW G2.out
  have g3 := alloc_block hW G3.out
  clear hW G1 G2 G3 H01
  have p1 := fun m : Bl W2 => cell_block ((m.below.block _ (lt_block g1)).trans g1) 1
  have q0 := fun m : Bl W2 => cell_block ((m.below.block _ (lt_block g4)).trans g4) 0
  have q1 := fun m : Bl W2 => cell_block ((m.below.block _ (lt_block g4)).trans g4) 1
  simp only [List.getElem?_toArray, List.getElem?_cons_zero, List.getElem?_cons_succ] at p1 q0 q1
  have G1 := Lib.hid g1
  have G2 := Lib.hid g2
  have G3 := Lib.hid g3
  have H02 := Lib.hid h02
  clear g1 g2 g3 g4 h02
  refine wp_region_quietB (by kernel_rfl) (by kernel_rfl) ?_
  iterate 11 (go_big_quiet_step ((first | (go_at_call 46; with_reducible exact Calls.quiet_b (HOx.out _)) | (go_at_call 48; with_reducible exact Calls.quiet_b (HPl.out _)) | (go_at_call 24; with_reducible exact Calls.quiet_b (HFi.out _)))))
  refine wpQuiet_nil ?_
  intro m
  have hb : Below w.heap.size w m.wr := H02.out.trans (m.below.mono H02.out.size)
  have g1 := below_cells m.below G1.out
  have g2 := below_cells m.below G2.out
  have g3 := below_cells m.below G3.out
  clear p1 q0 q1 G1 G2 G3 H02 HOx HOy HPl HFi
  generalize m.wr = W5 at *
  have c10 := cell_block g1 0
  have c20 := cell_block g2 0
  have c30 := cell_block g3 0
  have c31 := cell_block g3 1
  have c32 := cell_block g3 2
  have c33 := cell_block g3 3
  simp only [List.getElem?_toArray, List.getElem?_cons_zero, List.getElem?_cons_succ] at c10 c20 c30 c31 c32 c33
  have f0 := frozen_of_row W5 _ 0 _ _ g3
  have f1 := frozen_of_row W5 _ 1 _ _ g3
  have f2 := frozen_of_row W5 _ 2 _ _ g3
  have f3 := frozen_of_row W5 _ 3 _ _ g3
  have HB := Lib.hid hb
  clear hb g1 g2 g3 m
  by_cases hx2 : x.k = 2
  · by_cases hy2 : y.k = 2
    · cases ok
      · go_wp2
        exact bodyPost_ret (v := R3 (0, 0, 7)) (by simp [results, Try.results22, go_sem, c30, c31, c32, c33]) rfl ⟨by simp [sumsK, hx2, hy2], below_set4 HB.out _ (by omega) _ _ _ _⟩
      · go_wp2
        exact bodyPost_ret (v := R3 (2, n, 0)) (by simp [results, Try.results22, go_sem, c30, c31, c32, c33]) rfl ⟨by simp [sumsK, hx2, hy2], below_set4 HB.out _ (by omega) _ _ _ _⟩
    · go_wp2
      exact bodyPost_ret (v := R3 (0, 0, 6)) (by simp [results, Try.results22, go_sem, c30, c31, c32, c33]) rfl ⟨by simp [sumsK, hx2, hy2], below_set4 HB.out _ (by omega) _ _ _ _⟩
  · by_cases hx4 : x.k = 4
    · by_cases hy2 : y.k = 2
      · cases ok
        · go_wp2
          exact bodyPost_ret (v := R3 (0, 0, 7)) (by simp [results, Try.results22, go_sem, c30, c31, c32, c33]) rfl ⟨by simp [sumsK, hx4, hy2], below_set4 HB.out _ (by omega) _ _ _ _⟩
        · by_cases hn0 : n < 0
          · go_wp2
            exact bodyPost_ret (v := R3 (0, 0, 7)) (by simp [results, Try.results22, go_sem, c30, c31, c32, c33]) rfl ⟨by simp [sumsK, hx4, hy2, hn0], below_set4 HB.out _ (by omega) _ _ _ _⟩
          · by_cases hnm : 1099511627776 < n
            · go_wp2
              exact bodyPost_ret (v := R3 (0, 0, 7)) (by simp [results, Try.results22, go_sem, c30, c31, c32, c33]) rfl ⟨by simp [sumsK, hnm], below_set4 HB.out _ (by omega) _ _ _ _⟩
            · go_wp2
              exact bodyPost_ret (v := R3 (4, n, 0)) (by simp [results, Try.results22, go_sem, c30, c31, c32, c33]) rfl ⟨by simp [sumsK, show ¬ (n < 0 ∨ 1099511627776 < n) by omega], below_set4 HB.out _ (by omega) _ _ _ _⟩
      · go_wp2
        exact bodyPost_ret (v := R3 (0, 0, 6)) (by simp [results, Try.results22, go_sem, c30, c31, c32, c33]) rfl ⟨by simp [sumsK, hx4, hy2], below_set4 HB.out _ (by omega) _ _ _ _⟩
    · go_wp2
      exact bodyPost_ret (v := R3 (0, 0, 6)) (by simp [results, Try.results22, go_sem, c30, c31, c32, c33]) rfl ⟨by simp [sumsK, hx2, hx4], below_set4 HB.out _ (by omega) _ _ _ _⟩
set_option maxHeartbeats 2000000 in
theorem sums_minus (x y : Val) (w : World) (hx1 : -9223372036854775808 ≤ x.i) (hx2 : x.i ≤ 9223372036854775807) (hy1 : -9223372036854775808 ≤ y.i) (hy2 : y.i ≤ 9223372036854775807) :
    Calls Try.prog 22 #[x.v, y.v, .bool true] w (AddPost (sumsR x.k x.i y.k y.i true) w) := by
  unfold Val.v
  have HOx := Lib.hid (fun W => of_any x.i W hx1 hx2)
  have HOy := Lib.hid (fun W => of_any y.i W hy1 hy2)
  have HMi := Lib.hid (fun W => minus_any y.i W)
  have HPl := Lib.hid (fun W => plus_any x.i (-y.i) W)
  obtain ⟨n, hn⟩ : ∃ n, wrap64 (loW (x.i + -y.i)) = n := ⟨_, rfl⟩
  obtain ⟨ok, hok⟩ : ∃ ok, okW (x.i + -y.i) = ok := ⟨_, rfl⟩
  have HFi : Hid (∀ W, Calls Try.prog 24 #[Wd (hiW (x.i + -y.i)) (loW (x.i + -y.i))] W fun e w' => e = .returned (.tuple #[.int .i64 n, .bool ok]) ∧ Below W.heap.size W w') := Lib.hid (by
    intro W; rw [← hn, ← hok]; exact fits_any _ W)
  have HR : Hid (sumsR x.k x.i y.k y.i true = sumsK x.k y.k n ok true) := Lib.hid (by rw [← hn, ← hok]; rfl)
  rw [HR.out]
  clear hn hok hx1 hx2 hy1 hy2 HR
  go_enter Try.func22, Try.ntmps22
  go_wp2_with fail
  generalize hW : World.alloc _ _ = W0 at *
  have h0 : Below w.heap.size w W0 := by rw [← hW]; exact (((Below.refl _ _).alloc (Nat.le_refl _) _).alloc (by simp) _).alloc (by simp; omega) _
  obtain ⟨g1, g2, g3⟩ := three hW
  clear hW
  refine (HOy.out _).mono ?_
  rintro e w1 ⟨rfl, hb1⟩
  have h01 := h0.trans (hb1.mono h0.size)
  replace g1 := below_cells hb1 g1
  replace g2 := below_cells hb1 g2
  replace g3 := below_cells hb1 g3
  clear hb1 h0
  have hlt1 := lt_block g3
  generalize hyl : loW y.i = yl at *
  generalize hyh : hiW y.i = yh at *
  have G1 := Lib.hid g1
  have G2 := Lib.hid g2
  have G3 := Lib.hid g3
  have H01 := Lib.hid h01
  clear g1 g2 g3 h01 hyl hyh
  go_wp2_with fail
  generalize hW : World.alloc _ _ = W2 at *
  have h02 : Below w.heap.size w W2 := by rw [← hW]; exact H01.out.alloc H01.out.size _
  have g4 : W2.heap[w1.heap.size]? = some (.cells #[.int .i64 yh, .int .u64 yl] 41 (0, 0)) := by rw [← hW]; exact heap_alloc_new _ _
  have g1 := alloc_block hW G1.out
  have g2 := alloc_block hW G2.out
  have g3 := alloc_block hW G3.out
  clear hW G1 G2 G3 H01
  refine (HMi.out _).mono ?_
  rintro e w3 ⟨rfl, hb3⟩
  replace h02 := h02.trans (hb3.mono h02.size)
  replace g1 := below_cells hb3 g1
  replace g2 := below_cells hb3 g2
  replace g3 := below_cells hb3 g3
  replace g4 := below_cells hb3 g4
  have d0 := cell_block g4 0
  have d1 := cell_block g4 1
  simp only [List.getElem?_toArray, List.getElem?_cons_zero, List.getElem?_cons_succ] at d0 d1
  have e0 := frozen_of_row w3 _ 0 _ _ g4
  have e1 := frozen_of_row w3 _ 1 _ _ g4
  clear hb3
  generalize loW (-y.i) = zl at *
  generalize hiW (-y.i) = zh at *
  have G1 := Lib.hid g1
  have G2 := Lib.hid g2
  have G3 := Lib.hid g3
  have G4 := Lib.hid g4
  have H02 := Lib.hid h02
  clear g1 g2 g3 g4 h02
  go_wp2_with fail
  generalize hW : World.setCell _ _ _ = W3
  have h02 : Below w.heap.size w W3 := by rw [← hW]; exact below_set2 H02.out _ (by omega) _ _
  have g1 : W3.heap[w.heap.size]? = some (.cells #[.int .i64 x.k, .int .i64 x.i, .string x.s, .slice x.a x.n x.c] 24 (0, 0)) := by rw [← hW, set2_other (by omega)]; exact G1.out
  have g2 : W3.heap[w.heap.size + 1]? = some (.cells #[.int .i64 y.k, .int .i64 y.i, .string y.s, .slice y.a y.n y.c] 24 (0, 0)) := by rw [← hW, set2_other (by omega)]; exact G2.out
  have g3 : W3.heap[w.heap.size + 1 + 1]? = some (.cells #[.int .i64 0, .int .i64 0, .string ⟨#[]⟩, .slice none 0 0] 24 (0, 0)) := by rw [← hW, set2_other (by omega)]; exact G3.out
  have g4 : W3.heap[w1.heap.size]? = some (.cells #[.int .i64 zh, .int .u64 zl] 41 (0, 0)) := by rw [← hW]; exact set2_same G4.out _ _
  clear hW G1 G2 G3 G4 H02 d0 d1 e0 e1
  have p1 := fun m : Bl W3 => cell_block ((m.below.block _ (lt_block g1)).trans g1) 1
  have q0 := fun m : Bl W3 => cell_block ((m.below.block _ (lt_block g4)).trans g4) 0
  have q1 := fun m : Bl W3 => cell_block ((m.below.block _ (lt_block g4)).trans g4) 1
  simp only [List.getElem?_toArray, List.getElem?_cons_zero, List.getElem?_cons_succ] at p1 q0 q1
  have G1 := Lib.hid g1
  have G2 := Lib.hid g2
  have G3 := Lib.hid g3
  have H02 := Lib.hid h02
  clear g1 g2 g3 g4 h02
  refine wp_region_quietB (by kernel_rfl) (by kernel_rfl) ?_
  iterate 11 (go_big_quiet_step ((first | (go_at_call 46; with_reducible exact Calls.quiet_b (HOx.out _)) | (go_at_call 48; with_reducible exact Calls.quiet_b (HPl.out _)) | (go_at_call 24; with_reducible exact Calls.quiet_b (HFi.out _)))))
  refine wpQuiet_nil ?_
  intro m
  have hb : Below w.heap.size w m.wr := H02.out.trans (m.below.mono H02.out.size)
  have g1 := below_cells m.below G1.out
  have g2 := below_cells m.below G2.out
  have g3 := below_cells m.below G3.out
  clear p1 q0 q1 G1 G2 G3 H02 HOx HOy HPl HFi
  generalize m.wr = W5 at *
  have c10 := cell_block g1 0
  have c20 := cell_block g2 0
  have c30 := cell_block g3 0
  have c31 := cell_block g3 1
  have c32 := cell_block g3 2
  have c33 := cell_block g3 3
  simp only [List.getElem?_toArray, List.getElem?_cons_zero, List.getElem?_cons_succ] at c10 c20 c30 c31 c32 c33
  have f0 := frozen_of_row W5 _ 0 _ _ g3
  have f1 := frozen_of_row W5 _ 1 _ _ g3
  have f2 := frozen_of_row W5 _ 2 _ _ g3
  have f3 := frozen_of_row W5 _ 3 _ _ g3
  have HB := Lib.hid hb
  clear hb g1 g2 g3 m
  by_cases hx2 : x.k = 2
  · by_cases hy2 : y.k = 2
    · cases ok
      · go_wp2
        exact bodyPost_ret (v := R3 (0, 0, 7)) (by simp [results, Try.results22, go_sem, c30, c31, c32, c33]) rfl ⟨by simp [sumsK, hx2, hy2], below_set4 HB.out _ (by omega) _ _ _ _⟩
      · go_wp2
        exact bodyPost_ret (v := R3 (2, n, 0)) (by simp [results, Try.results22, go_sem, c30, c31, c32, c33]) rfl ⟨by simp [sumsK, hx2, hy2], below_set4 HB.out _ (by omega) _ _ _ _⟩
    · go_wp2
      exact bodyPost_ret (v := R3 (0, 0, 6)) (by simp [results, Try.results22, go_sem, c30, c31, c32, c33]) rfl ⟨by simp [sumsK, hx2, hy2], below_set4 HB.out _ (by omega) _ _ _ _⟩
  · by_cases hx4 : x.k = 4
    · by_cases hy2 : y.k = 2
      · cases ok
        · go_wp2
          exact bodyPost_ret (v := R3 (0, 0, 7)) (by simp [results, Try.results22, go_sem, c30, c31, c32, c33]) rfl ⟨by simp [sumsK, hx4, hy2], below_set4 HB.out _ (by omega) _ _ _ _⟩
        · by_cases hn0 : n < 0
          · go_wp2
            exact bodyPost_ret (v := R3 (0, 0, 7)) (by simp [results, Try.results22, go_sem, c30, c31, c32, c33]) rfl ⟨by simp [sumsK, hx4, hy2, hn0], below_set4 HB.out _ (by omega) _ _ _ _⟩
          · by_cases hnm : 1099511627776 < n
            · go_wp2
              exact bodyPost_ret (v := R3 (0, 0, 7)) (by simp [results, Try.results22, go_sem, c30, c31, c32, c33]) rfl ⟨by simp [sumsK, hnm], below_set4 HB.out _ (by omega) _ _ _ _⟩
            · go_wp2
              exact bodyPost_ret (v := R3 (4, n, 0)) (by simp [results, Try.results22, go_sem, c30, c31, c32, c33]) rfl ⟨by simp [sumsK, show ¬ (n < 0 ∨ 1099511627776 < n) by omega], below_set4 HB.out _ (by omega) _ _ _ _⟩
      · by_cases hy4 : y.k = 4
        · cases ok
          · go_wp2
            exact bodyPost_ret (v := R3 (0, 0, 7)) (by simp [results, Try.results22, go_sem, c30, c31, c32, c33]) rfl ⟨by simp [sumsK, hx4, hy4], below_set4 HB.out _ (by omega) _ _ _ _⟩
          · go_wp2
            exact bodyPost_ret (v := R3 (2, n, 0)) (by simp [results, Try.results22, go_sem, c30, c31, c32, c33]) rfl ⟨by simp [sumsK, hx4, hy4], below_set4 HB.out _ (by omega) _ _ _ _⟩
        · go_wp2
          exact bodyPost_ret (v := R3 (0, 0, 6)) (by simp [results, Try.results22, go_sem, c30, c31, c32, c33]) rfl ⟨by simp [sumsK, hx4, hy2, hy4], below_set4 HB.out _ (by omega) _ _ _ _⟩
    · go_wp2
      exact bodyPost_ret (v := R3 (0, 0, 6)) (by simp [results, Try.results22, go_sem, c30, c31, c32, c33]) rfl ⟨by simp [sumsK, hx2, hx4], below_set4 HB.out _ (by omega) _ _ _ _⟩
end Go.Proofs.Ytcgbodbjjfngpaa
