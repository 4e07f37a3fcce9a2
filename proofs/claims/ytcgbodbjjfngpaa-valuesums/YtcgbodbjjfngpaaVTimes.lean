/- Products, as the document has them. -/
import Derived.Test.YtcgbodbjjfngpaaVSums
namespace Go.Proofs.Ytcgbodbjjfngpaa
open Go.RowKit

/-- the two numbers of the loop of Times lie in their blocks -/
structure TimesAt (w : World) (b4 b7 b8 : Nat) (s a : Int) : Prop where
  r : w.heap[b4]? = some (.cells #[.int .i64 0, .int .u64 0] 41 (0, 0))
  s : w.heap[b7]? = some (.cells #[.int .i64 (hiW s), .int .u64 (loW s)] 41 (0, 0))
  a : w.heap[b8]? = some (.cells #[.int .i64 (hiW a), .int .u64 (loW a)] 41 (0, 0))
theorem TimesAt.below {w w' : World} {b4 b7 b8 : Nat} {s a : Int} (h : TimesAt w b4 b7 b8 s a) (hb : Below w.heap.size w w') : TimesAt w' b4 b7 b8 s a := ⟨below_cells hb h.r, below_cells hb h.s, below_cells hb h.a⟩
theorem TimesAt.setS {w : World} {b4 b7 b8 : Nat} {s a : Int} (h : TimesAt w b4 b7 b8 s a) (s' : Int) (h47 : b4 ≠ b7) (h78 : b8 ≠ b7) : TimesAt ((w.setCell ⟨b7, 0, none⟩ (.int .i64 (hiW s'))).setCell ⟨b7, 1, none⟩ (.int .u64 (loW s'))) b4 b7 b8 s' a :=
  ⟨by rw [set2_other h47]; exact h.r, set2_same h.s _ _, by rw [set2_other h78]; exact h.a⟩
theorem TimesAt.setA {w : World} {b4 b7 b8 : Nat} {s a : Int} (h : TimesAt w b4 b7 b8 s a) (a' : Int) (h48 : b4 ≠ b8) (h78 : b7 ≠ b8) : TimesAt ((w.setCell ⟨b8, 0, none⟩ (.int .i64 (hiW a'))).setCell ⟨b8, 1, none⟩ (.int .u64 (loW a'))) b4 b7 b8 s a' :=
  ⟨by rw [set2_other h48]; exact h.r, by rw [set2_other h78]; exact h.s, set2_same h.a _ _⟩
theorem cells2 {W : World} {g : Nat} {x y : Value} {t : TypeId} (h : W.heap[g]? = some (.cells #[x, y] t (0, 0))) :
    W.cell? ⟨g, 0, none⟩ = some x ∧ W.cell? ⟨g, 1, none⟩ = some y ∧ W.frozen? ⟨g, 0, none⟩ = false ∧ W.frozen? ⟨g, 1, none⟩ = false := ⟨cell_block h 0, cell_block h 1, frozen_of_row W g 0 _ _ h, frozen_of_row W g 1 _ _ h⟩
theorem halve_odd (N s c : Int) (h : N % 2 = 1) : s + c + N / 2 * (c + c) = s + N * c := by
  have e : N = 2 * (N / 2) + 1 := by omega
  generalize N / 2 = k at *
  subst e
  rw [Int.mul_add, Int.add_mul, Int.one_mul, Int.mul_assoc, show (2 : Int) * (k * c) = k * c + k * c by omega]; omega
theorem halve_even (N s c : Int) (h : ¬ N % 2 = 1) : s + N / 2 * (c + c) = s + N * c := by
  have e : N = 2 * (N / 2) := by omega
  generalize N / 2 = k at *
  subst e
  rw [Int.mul_add, Int.mul_assoc, show (2 : Int) * (k * c) = k * c + k * c by omega]
set_option maxHeartbeats 2000000 in
theorem times_any (a b : Int) (w : World) (ha1 : -9223372036854775808 ≤ a) (ha2 : a ≤ 9223372036854775807) (hb1 : -9223372036854775808 ≤ b) (hb2 : b ≤ 9223372036854775807) :
    Calls Try.prog 23 #[.int .i64 a, .int .i64 b] w fun e w' => e = .returned (Wd (hiW (a * b)) (loW (a * b))) ∧ Below w.heap.size w w' := by
  have HOa := Lib.hid (fun W => of_any a W ha1 ha2)
  have HPl := Lib.hid (fun x y W => plus_any x y W)
  have HMi := Lib.hid (fun x W => minus_any x W)
  by_cases hneg : b < 0
  · have hN : bits BinOp.xor IntKind.u64 IntKind.u64.max (IntKind.u64.wrap b) = -b - 1 := by rw [IntKind.wrap_u64, not64 _ (by omega) (by omega)]; omega
    have hN0 : IntKind.u64.wrap (-b) = -b := by rw [IntKind.wrap_u64]; omega
    go_enter Try.func23, Try.ntmps23
    go_wp2_with fail
    refine (HOa.out _).mono ?_
    rintro e w1 ⟨rfl, h1⟩
    obtain ⟨hc, hf⟩ := bcell h1
    go_wp2_with fail
    clear hN hN0
    have hgr : w1.heap[w.heap.size]? = some (.cells #[.int .i64 0, .int .u64 0] 41 (0, 0)) := below_cells h1 (heap_alloc_new _ _)
    have hb1w : Below w.heap.size w w1 := ((Below.refl _ _).alloc (Nat.le_refl _) _).trans (h1.mono (by simp))
    have hlt1 := lt_block hgr
    clear hc hf h1
    generalize hW : World.alloc _ _ = W at *
    have hT : TimesAt W w.heap.size w1.heap.size (w1.heap.size + 1) 0 a := by
      refine ⟨?_, ?_, ?_⟩
      · rw [← hW, Below.heap_alloc _ _ _ (by simp; omega), Below.heap_alloc _ _ _ (by omega)]; exact hgr
      · rw [show hiW 0 = 0 by (unfold hiW wrap64; omega), show loW 0 = 0 by (unfold loW; omega), ← hW, Below.heap_alloc _ _ _ (by simp)]; exact heap_alloc_new _ _
      · rw [← hW]; have := heap_alloc_new (w1.alloc (Obj.cells #[.int .i64 0, .int .u64 0] 41)) (Obj.cells #[.int .i64 (hiW a), .int .u64 (loW a)] 41); rwa [World.size_alloc] at this
    have hbW : Below w.heap.size w W := by rw [← hW]; exact (hb1w.alloc hb1w.size _).alloc (Nat.le_trans hb1w.size (by simp)) _
    have HT := Lib.hid hT
    have HBW := Lib.hid hbW
    clear hW hT hbW hb1w hgr
    go_loopw [6] (fun n wr => ∃ (N s c : Int), 0 ≤ N ∧ N ≤ 9223372036854775808 ∧ n = .int .u64 N ∧ Hid (s + N * c = a * (-b)) ∧ Hid (TimesAt wr w.heap.size w1.heap.size (w1.heap.size + 1) s c) ∧ Hid (Below w.heap.size w wr)) (fun n _ => (intOf n).toNat)
    case atStart => exact ⟨(-b), 0, a, by omega, by omega, rfl, Lib.hid (by rw [Int.zero_add, Int.mul_comm]), HT, HBW⟩
    case round =>
      obtain ⟨N, s, c, hN1, hN2, rfl, HE, HTA, HB⟩ := hrel
      clear HT HBW
      obtain ⟨s0, s1, sf0, sf1⟩ := cells2 HTA.out.s
      obtain ⟨a0, a1, af0, af1⟩ := cells2 HTA.out.a
      have hbz := HB.out.size
      by_cases hz : N = 0
      · subst hz
        have hfin : s = a * (-b) := by have := HE.out; rwa [Int.zero_mul, Int.add_zero] at this
        obtain ⟨r0, r1, rf0, rf1⟩ := cells2 HTA.out.r
        have HF := Lib.hid hfin
        clear hfin
        have hfn : -s = a * b := by rw [HF.out, Int.mul_neg, Int.neg_neg]
        have HMs := Lib.hid (fun W => HMi.out s W)
        rw [hfn] at HMs
        clear hfn
        go_wp2_with fail
        refine (HMs.out _).mono ?_
        rintro e w2 ⟨rfl, h2⟩
        have hT2 := HTA.out.below h2
        have hB2 := HB.out.trans (h2.mono hbz)
        clear s0 s1 sf0 sf1 a0 a1 af0 af1 r0 r1 rf0 rf1
        obtain ⟨r0, r1, rf0, rf1⟩ := cells2 hT2.r
        have HB2 := Lib.hid hB2
        clear hT2 hB2 h2
        go_wp2
        exact bodyPost_ret (v := Wd (hiW (a * b)) (loW (a * b))) (by simp [results, Try.results23, go_sem, r0, r1]) rfl ⟨rfl, below_set2 HB2.out _ (Nat.le_refl _) _ _⟩
      · have hpos : 0 < N := by omega
        by_cases hodd : N % 2 = 1
        · have hodd' : (N % 2 == 1) = true := by simpa using hodd
          go_wp2_with fail
          refine (HPl.out _ _ _).mono ?_
          rintro e w2 ⟨rfl, h2⟩
          have hT2 := HTA.out.below h2
          have hB2 := HB.out.trans (h2.mono hbz)
          clear s0 s1 sf0 sf1 a0 a1 af0 af1
          obtain ⟨s0, s1, sf0, sf1⟩ := cells2 hT2.s
          obtain ⟨a0, a1, af0, af1⟩ := cells2 hT2.a
          have HT3 := Lib.hid (hT2.setS (s + c) (by omega) (by omega))
          have HB3 := Lib.hid (below_set2 hB2 w1.heap.size (by omega) (.int .i64 (hiW (s + c))) (.int .u64 (loW (s + c))))
          clear hT2 hB2 h2
          go_wp2_with fail
          clear s0 s1 sf0 sf1 a0 a1 af0 af1
          generalize hW3 : World.setCell _ _ _ = W3 at *
          clear hW3
          refine (HPl.out _ _ _).mono ?_
          rintro e w4 ⟨rfl, h4⟩
          have hT4 := HT3.out.below h4
          have hB4 := HB3.out.trans (h4.mono HB3.out.size)
          obtain ⟨a0, a1, af0, af1⟩ := cells2 hT4.a
          have HT5 := Lib.hid (hT4.setA (c + c) (by omega) (by omega))
          have HB5 := Lib.hid (below_set2 hB4 (w1.heap.size + 1) (by omega) (.int .i64 (hiW (c + c))) (.int .u64 (loW (c + c))))
          clear hT4 hB4 h4 HT3 HB3
          go_wp2_with fail
          go_roundw
          case rel => exact ⟨N / 2, s + c, c + c, by omega, by omega, rfl, Lib.hid (by rw [← HE.out]; exact halve_odd N s c hodd), HT5, HB5⟩
          case measure => simp [intOf]; omega
        · have hodd' : (N % 2 == 1) = false := by simpa using hodd
          go_wp2_with fail
          refine (HPl.out _ _ _).mono ?_
          rintro e w4 ⟨rfl, h4⟩
          have hT4 := HTA.out.below h4
          have hB4 := HB.out.trans (h4.mono hbz)
          clear s0 s1 sf0 sf1 a0 a1 af0 af1
          obtain ⟨a0, a1, af0, af1⟩ := cells2 hT4.a
          have HT5 := Lib.hid (hT4.setA (c + c) (by omega) (by omega))
          have HB5 := Lib.hid (below_set2 hB4 (w1.heap.size + 1) (by omega) (.int .i64 (hiW (c + c))) (.int .u64 (loW (c + c))))
          clear hT4 hB4 h4
          go_wp2_with fail
          go_roundw
          case rel => exact ⟨N / 2, s, c + c, by omega, by omega, rfl, Lib.hid (by rw [← HE.out]; exact halve_even N s c hodd), HT5, HB5⟩
          case measure => simp [intOf]; omega
  · go_enter Try.func23, Try.ntmps23
    go_wp2_with fail
    refine (HOa.out _).mono ?_
    rintro e w1 ⟨rfl, h1⟩
    obtain ⟨hc, hf⟩ := bcell h1
    go_wp2_with fail
    have hgr : w1.heap[w.heap.size]? = some (.cells #[.int .i64 0, .int .u64 0] 41 (0, 0)) := below_cells h1 (heap_alloc_new _ _)
    have hb1w : Below w.heap.size w w1 := ((Below.refl _ _).alloc (Nat.le_refl _) _).trans (h1.mono (by simp))
    have hlt1 := lt_block hgr
    clear hc hf h1
    generalize hW : World.alloc _ _ = W at *
    have hT : TimesAt W w.heap.size w1.heap.size (w1.heap.size + 1) 0 a := by
      refine ⟨?_, ?_, ?_⟩
      · rw [← hW, Below.heap_alloc _ _ _ (by simp; omega), Below.heap_alloc _ _ _ (by omega)]; exact hgr
      · rw [show hiW 0 = 0 by (unfold hiW wrap64; omega), show loW 0 = 0 by (unfold loW; omega), ← hW, Below.heap_alloc _ _ _ (by simp)]; exact heap_alloc_new _ _
      · rw [← hW]; have := heap_alloc_new (w1.alloc (Obj.cells #[.int .i64 0, .int .u64 0] 41)) (Obj.cells #[.int .i64 (hiW a), .int .u64 (loW a)] 41); rwa [World.size_alloc] at this
    have hbW : Below w.heap.size w W := by rw [← hW]; exact (hb1w.alloc hb1w.size _).alloc (Nat.le_trans hb1w.size (by simp)) _
    have HT := Lib.hid hT
    have HBW := Lib.hid hbW
    clear hW hT hbW hb1w hgr
    go_loopw [6] (fun n wr => ∃ (N s c : Int), 0 ≤ N ∧ N ≤ 9223372036854775808 ∧ n = .int .u64 N ∧ Hid (s + N * c = a * b) ∧ Hid (TimesAt wr w.heap.size w1.heap.size (w1.heap.size + 1) s c) ∧ Hid (Below w.heap.size w wr)) (fun n _ => (intOf n).toNat)
    case atStart => exact ⟨b, 0, a, by omega, by omega, rfl, Lib.hid (by rw [Int.zero_add, Int.mul_comm]), HT, HBW⟩
    case round =>
      obtain ⟨N, s, c, hN1, hN2, rfl, HE, HTA, HB⟩ := hrel
      clear HT HBW
      obtain ⟨s0, s1, sf0, sf1⟩ := cells2 HTA.out.s
      obtain ⟨a0, a1, af0, af1⟩ := cells2 HTA.out.a
      have hbz := HB.out.size
      by_cases hz : N = 0
      · subst hz
        have hfin : s = a * b := by have := HE.out; rwa [Int.zero_mul, Int.add_zero] at this
        obtain ⟨r0, r1, rf0, rf1⟩ := cells2 HTA.out.r
        have HF := Lib.hid hfin
        clear hfin
        go_wp2
        exact bodyPost_ret (v := Wd (hiW s) (loW s)) (by simp [results, Try.results23, go_sem, r0, r1]) rfl ⟨by rw [HF.out], below_set2 HB.out _ (Nat.le_refl _) _ _⟩
      · have hpos : 0 < N := by omega
        by_cases hodd : N % 2 = 1
        · have hodd' : (N % 2 == 1) = true := by simpa using hodd
          go_wp2_with fail
          refine (HPl.out _ _ _).mono ?_
          rintro e w2 ⟨rfl, h2⟩
          have hT2 := HTA.out.below h2
          have hB2 := HB.out.trans (h2.mono hbz)
          clear s0 s1 sf0 sf1 a0 a1 af0 af1
          obtain ⟨s0, s1, sf0, sf1⟩ := cells2 hT2.s
          obtain ⟨a0, a1, af0, af1⟩ := cells2 hT2.a
          have HT3 := Lib.hid (hT2.setS (s + c) (by omega) (by omega))
          have HB3 := Lib.hid (below_set2 hB2 w1.heap.size (by omega) (.int .i64 (hiW (s + c))) (.int .u64 (loW (s + c))))
          clear hT2 hB2 h2
          go_wp2_with fail
          clear s0 s1 sf0 sf1 a0 a1 af0 af1
          generalize hW3 : World.setCell _ _ _ = W3 at *
          clear hW3
          refine (HPl.out _ _ _).mono ?_
          rintro e w4 ⟨rfl, h4⟩
          have hT4 := HT3.out.below h4
          have hB4 := HB3.out.trans (h4.mono HB3.out.size)
          obtain ⟨a0, a1, af0, af1⟩ := cells2 hT4.a
          have HT5 := Lib.hid (hT4.setA (c + c) (by omega) (by omega))
          have HB5 := Lib.hid (below_set2 hB4 (w1.heap.size + 1) (by omega) (.int .i64 (hiW (c + c))) (.int .u64 (loW (c + c))))
          clear hT4 hB4 h4 HT3 HB3
          go_wp2_with fail
          go_roundw
          case rel => exact ⟨N / 2, s + c, c + c, by omega, by omega, rfl, Lib.hid (by rw [← HE.out]; exact halve_odd N s c hodd), HT5, HB5⟩
          case measure => simp [intOf]; omega
        · have hodd' : (N % 2 == 1) = false := by simpa using hodd
          go_wp2_with fail
          refine (HPl.out _ _ _).mono ?_
          rintro e w4 ⟨rfl, h4⟩
          have hT4 := HTA.out.below h4
          have hB4 := HB.out.trans (h4.mono hbz)
          clear s0 s1 sf0 sf1 a0 a1 af0 af1
          obtain ⟨a0, a1, af0, af1⟩ := cells2 hT4.a
          have HT5 := Lib.hid (hT4.setA (c + c) (by omega) (by omega))
          have HB5 := Lib.hid (below_set2 hB4 (w1.heap.size + 1) (by omega) (.int .i64 (hiW (c + c))) (.int .u64 (loW (c + c))))
          clear hT4 hB4 h4
          go_wp2_with fail
          go_roundw
          case rel => exact ⟨N / 2, s, c + c, by omega, by omega, rfl, Lib.hid (by rw [← HE.out]; exact halve_even N s c hodd), HT5, HB5⟩
          case measure => simp [intOf]; omega
end Go.Proofs.Ytcgbodbjjfngpaa
