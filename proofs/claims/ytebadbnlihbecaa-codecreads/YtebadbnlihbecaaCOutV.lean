/- P3.1: a value written, a bag too. -/
import Derived.Test.YtebadbnlihbecaaCVal
import Derived.Test.YtebadbnlihbecaaVRefF
namespace Go.Proofs.Ytebadbnlihbecaa
open Go.RowKit

theorem plainM_none (x : Val) : plainM none x = none := by
  unfold plainM textM
  simp only [unsM_none, putM_none]
  repeat' split
  all_goals rfl
theorem fold_none (l : List Val) : l.foldl plainM none = none := by
  induction l with
  | nil => rfl
  | cons x l ih => rw [List.foldl_cons, plainM_none]; exact ih
/-- what is written of a value -/
def valueM (st : Option ByteArray) (x : Val) (lx : List Val) : Option ByteArray :=
  if x.formed lx = true then (if x.k = 5 then lx.foldl plainM (unsM (unsM st 5 1) x.n 1) else plainM st x) else none
theorem valueM_none (x : Val) (lx : List Val) : valueM none x lx = none := by
  unfold valueM
  simp only [unsM_none, plainM_none, fold_none]
  repeat' split
  all_goals rfl
theorem kept_below {w0 w w' : World} {t : Nat} (hb : Below w0.heap.size w0 w) (h0 : w0.heap.size ≤ t) (hk : Kept1 t w w') : Below w0.heap.size w0 w' :=
  ⟨hk.os.trans hb.os, hk.tape.trans hb.tape, hk.output.trans hb.output, Nat.le_trans hb.size hk.size, fun k hk' => (hk.block k (Nat.lt_of_lt_of_le hk' hb.size) (by omega)).trans (hb.block k hk')⟩
theorem formed_small {x : Val} {l : List Val} (h : x.formed l = true) : x.k < 2 ^ 63 := by
  unfold Val.formed at h
  split at h
  · rename_i h5
    have : x.k = 5 := by simpa using h5
    omega
  · rcases alone_kind h with h | h | h | h | h <;> omega

set_option maxRecDepth 100000 in
set_option maxHeartbeats 1000000 in
theorem outValue_any (w0 w : World) (t : Nat) (T : TypeId) (st : Option ByteArray) (x : Val) (lx : List Val) (hf : Full w0 x lx) (hb : Below w0.heap.size w0 w) (h0 : w0.heap.size ≤ t) (h : Tape w t T st) :
    Calls Try.prog 37 #[.pointer (some ⟨t, 0, none⟩), V x.k x.i x.s x.a x.n x.c] w fun e w' => e = .returned (.tuple #[]) ∧ Tape w' t T (valueM st x lx) ∧ Kept1 t w w' := by
  have hlt := h.lt
  have H := Lib.hid h
  have HF := Lib.hid hf
  have HB := Lib.hid hb
  clear h hf hb
  unfold V
  go_enter Try.func37, Try.ntmps37
  go_wp2_with fail
  generalize hW : World.alloc _ _ = W0
  have hb0 : Below w.heap.size w W0 := by rw [← hW]; exact (Below.refl _ _).alloc (Nat.le_refl _) _
  have hx0 : W0.heap[w.heap.size]? = some (.cells #[.int .i64 x.k, .int .i64 x.i, .string x.s, .slice x.a x.n x.c] 33 (0, 0)) := by rw [← hW]; exact heap_alloc_new _ _
  have HT0 := Lib.hid (H.out.below hb0)
  have HX0 := Lib.hid hx0
  have HB0 := Lib.hid hb0
  have hl0 : w.heap.size < W0.heap.size := lt_block hx0
  obtain ⟨f, hfx⟩ : ∃ f, x.formed lx = f := ⟨_, rfl⟩
  have F : Hid (∀ m : Bl W0, Calls Try.prog 44 #[.agg #[.int .i64 x.k, .int .i64 x.i, .string x.s, .slice x.a x.n x.c]] m.wr fun e w' => e = .returned (.bool f) ∧ Below m.wr.heap.size m.wr w') := Lib.hid (fun m => by
    rw [← hfx]
    exact formed_any m.wr x lx (HF.out.below (HB.out.trans ((HB0.out.trans (m.below.mono HB0.out.size)).mono HB.out.size))))
  have p0 := fun m : Bl W0 => (cells4 HX0.out m).1
  have p1 := fun m : Bl W0 => (cells4 HX0.out m).2.1
  have p2 := fun m : Bl W0 => (cells4 HX0.out m).2.2.1
  have p3 := fun m : Bl W0 => (cells4 HX0.out m).2.2.2
  have HFX := Lib.hid hfx
  clear hW hb0 hx0 hfx
  refine wp_region_quiet_tailB 5 (by kernel_rfl) (by kernel_rfl) ?_
  simp only [List.take_succ_cons, List.take_zero, List.drop_succ_cons, List.drop_zero]
  iterate 5 (go_big_quiet_step ((go_at_call 44; with_reducible exact Calls.quiet_b (F.out _))))
  refine wpQuiet_nil ?_
  intro m
  clear p0 p1 p2 p3
  have hx1 := (m.below.block _ (lt_block HX0.out)).trans HX0.out
  have HX1 := Lib.hid hx1
  have HT1 := Lib.hid (HT0.out.below m.below)
  have HB1 := Lib.hid (HB0.out.trans (m.below.mono HB0.out.size))
  generalize m.wr = w1 at *
  clear m F HT0 HX0 HB0 hx1
  have M := Lib.hid (must_any w1 t T st f HT1.out)
  go_wp2_with fail
  refine M.out.mono ?_
  rintro e w2 ⟨rfl, ht, hk⟩
  have hx2 := (hk.block _ (lt_block HX1.out) (by omega)).trans HX1.out
  have HX2 := Lib.hid hx2
  have HK2 := Lib.hid (below_kept HB1.out hk)
  have HT2 := Lib.hid ht
  have hl2 : w.heap.size < w2.heap.size := lt_block hx2
  clear M hx2 ht hk HT1 HX1 HB1
  cases f
  · go_wp2_with fail
    (try simp only [Exit.inBlock, Exit.then])
    refine bodyPost_ret (results_none rfl _ _ _) rfl ?_
    refine ⟨rfl, ?_, HK2.out⟩
    rw [valueM, if_neg (by rw [HFX.out]; decide)]
    exact HT2.out
  cases st with
  | none =>
    go_wp2_with fail
    (try simp only [Exit.inBlock, Exit.then])
    refine bodyPost_ret (results_none rfl _ _ _) rfl ?_
    refine ⟨rfl, ?_, HK2.out⟩
    rw [valueM_none]
    exact HT2.out
  | some b =>
    simp only [Bool.true_and, Option.isSome_some]
    obtain ⟨x0, x1, x2, x3⟩ := cells4 HX2.out ⟨w2, Below.refl _ _⟩
    dsimp only at x0 x1 x2 x3
    by_cases h5 : x.k = 5
    · have b5 : (x.k != 5) = false := by simpa using h5
      have U := Lib.hid (outU8_any w2 t T (some b) 5 (by decide) HT2.out)
      go_wp2_with fail
      refine U.out.mono ?_
      rintro e w3 ⟨rfl, ht, hk⟩
      have hx3 := (hk.block _ (lt_block HX2.out) (by omega)).trans HX2.out
      have HX3 := Lib.hid hx3
      have HK3 := Lib.hid (HK2.out.trans hk)
      have HT3 := Lib.hid ht
      have hl3 : w.heap.size < w3.heap.size := lt_block hx3
      obtain ⟨y0, y1, y2, y3⟩ := cells4 hx3 ⟨w3, Below.refl _ _⟩
      dsimp only at y0 y1 y2 y3
      have hmost := HF.out.most
      unfold maxLen at hmost
      have hlen := HF.out.len
      obtain ⟨g, o, hL⟩ := HF.out.list
      have HL := Lib.hid hL
      clear hx3 ht hk U x0 x1 x2 x3 HT2 HX2 hL
      have U := Lib.hid (outU8_any w3 t T (unsM (some b) 5 1) x.n (by omega) HT3.out)
      go_wp2_with fail
      refine U.out.mono ?_
      rintro e w4 ⟨rfl, ht, hk⟩
      have hx4 := (hk.block _ (lt_block HX3.out) (by omega)).trans HX3.out
      have HX4 := Lib.hid hx4
      have HK4 := Lib.hid (HK3.out.trans hk)
      have HT4 := Lib.hid ht
      have hl4 : w.heap.size < w4.heap.size := lt_block hx4
      obtain ⟨x0, x1, x2, x3⟩ := cells4 hx4 ⟨w4, Below.refl _ _⟩
      dsimp only at x0 x1 x2 x3
      clear hx4 ht hk U y0 y1 y2 y3 HT3 HX3
      have AL : Hid (∀ j, (hj : j < lx.length) → lx[j].k < 2 ^ 63) := Lib.hid (by
        intro j hj
        have h1 := HFX.out
        unfold Val.formed at h1
        rw [if_pos (by simpa using h5), Bool.and_eq_true, Bool.and_eq_true] at h1
        have h2 := h1.2.2
        unfold listB at h2
        rw [Bool.and_eq_true, List.all_eq_true] at h2
        have h3 := okV_parts (h2.2 j (by simpa using hj))
        rw [getElem!_pos lx j hj] at h3
        rcases alone_kind h3.2.2 with h | h | h | h | h <;> omega)
      go_wp2_with fail
      go_loopw [29] (fun i wr => ∃ k : Nat, k ≤ x.n ∧ i = .int .i64 k ∧ Hid (Tape wr t T ((lx.take k).foldl plainM (unsM (unsM (some b) 5 1) x.n 1))) ∧ Hid (Kept1 t w wr)) (fun i _ => x.n - (intOf i).toNat)
      case atStart => exact ⟨0, by omega, rfl, HT4, HK4⟩
      case round =>
        clear x0 x1 x2 x3 HT4 HK4 HX4 HK3 hl4 hl3
        obtain ⟨k, hk, rfl, HTk, HKk⟩ := hrel
        by_cases hlt' : k < x.n
        · have hkl : k < lx.length := by omega
          have hne : lx ≠ [] := by intro e; subst e; simp at hkl
          have had := HL.out.at' hne
          obtain ⟨p0, p1, p2, p3⟩ := HL.out.cells (kept_below HB.out h0 HKk.out) k hkl ⟨wr, Below.refl _ _⟩
          dsimp only at p0 p1 p2 p3
          have hsn : (lx.take (k + 1)).foldl plainM (unsM (unsM (some b) 5 1) x.n 1) = plainM ((lx.take k).foldl plainM (unsM (unsM (some b) 5 1) x.n 1)) lx[k]! := by
            rw [List.take_succ_eq_append_getElem hkl, List.foldl_append, getElem!_pos lx k hkl]; rfl
          have HSN := Lib.hid hsn
          have hyk : lx[k]!.k < 2 ^ 63 := by rw [getElem!_pos lx k hkl]; exact AL.out k hkl
          have hys : lx[k]!.s.size ≤ maxLen := by rw [getElem!_pos lx k hkl]; exact HL.out.size _ (List.getElem_mem _)
          have hgw : g < wr.heap.size := block_lt_of_cell p0
          generalize lx[k]! = y at *
          have C : Hid (∀ W, Below wr.heap.size wr W → Calls Try.prog 52 #[.pointer (some ⟨t, 0, none⟩), .agg #[.int .i64 y.k, .int .i64 y.i, .string y.s, .slice y.a y.n y.c]] W fun e w' => e = .returned (.tuple #[]) ∧ Tape w' t T (plainM ((lx.take k).foldl plainM (unsM (unsM (some b) 5 1) x.n 1)) y) ∧ Kept1 t W w') := Lib.hid (fun W hW => outPlain_any W t T _ y hyk hys (HTk.out.below hW))
          have hlw : t < wr.heap.size := HTk.out.lt
          clear hsn hyk hys
          rw [had]
          go_wp2_with fail
          have hba : Below wr.heap.size wr (wr.alloc (.cells #[.int .i64 y.k, .int .i64 y.i, .string y.s, .slice y.a y.n y.c] 33 (0, 0))) := (Below.refl _ _).alloc (Nat.le_refl _) _
          refine (C.out _ hba).mono ?_
          rintro e w5 ⟨rfl, ht, hk5⟩
          have HT5 := Lib.hid ht
          have HK5 := Lib.hid (HKk.out.trans (below_kept hba hk5))
          clear hba ht hk5 p0 p1 p2 p3 C
          go_wp2_with fail
          go_roundw
          case rel => exact ⟨k + 1, by omega, by go_num, Lib.hid (by rw [HSN.out]; exact HT5.out), HK5⟩
          case measure => simp [intOf]; omega
        · obtain rfl : k = x.n := by omega
          go_wp2_with fail
          go_end0
          refine ⟨rfl, ?_, HKk.out⟩
          rw [valueM, if_pos HFX.out, if_pos h5]
          have := HTk.out
          rwa [← hlen, List.take_length, hlen] at this
    · have b5 : (x.k != 5) = true := by simpa using h5
      have C := Lib.hid (outPlain_any w2 t T (some b) x (formed_small HFX.out) HF.out.size HT2.out)
      go_wp2_with fail
      refine C.out.mono ?_
      rintro e w3 ⟨rfl, ht, hk⟩
      have HT3 := Lib.hid ht
      have HK3 := Lib.hid (HK2.out.trans hk)
      clear ht hk C
      go_wp2_with fail
      (try simp only [Exit.inBlock, Exit.then])
      refine bodyPost_ret (results_none rfl _ _ _) rfl ?_
      refine ⟨rfl, ?_, HK3.out⟩
      rw [valueM, if_pos HFX.out, if_neg (by simpa using b5)]
      exact HT3.out
end Go.Proofs.Ytebadbnlihbecaa
