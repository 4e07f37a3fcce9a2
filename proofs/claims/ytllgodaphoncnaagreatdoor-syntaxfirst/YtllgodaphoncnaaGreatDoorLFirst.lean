/- The first token. -/
import Derived.Test.YtllgodaphoncnaaGreatDoorLText2
namespace Go.Proofs.YtllgodaphoncnaaGreatDoor
open Go.RowKit

set_option maxRecDepth 100000 in
theorem digM_le (l : List UInt8) : (digM l).2 ≤ l.length := by
  have h := runN_le digB l
  unfold digM
  dsimp only
  split
  · exact Nat.zero_le _
  · split
    · exact h
    · exact Nat.zero_le _
set_option maxRecDepth 100000 in
set_option maxHeartbeats 4000000 in
theorem first_any (w : World) (hw : LexW w) (l : List UInt8) (h1 : l ≠ []) (hl : l.length ≤ 1000000) :
    Calls Tryz.prog 52 #[.string (st l)] w fun e w' => e = .returned (.tuple #[(firstM l).1.val, .int .i64 ((firstM l).2 : Int)]) ∧ Below w.heap.size w w' := by
  obtain ⟨c, r, hl0⟩ : ∃ c r, l = c :: r := by cases l with | nil => exact absurd rfl h1 | cons c r => exact ⟨c, r, rfl⟩
  have hlen : 1 ≤ l.length := by rw [hl0]; simp
  have hfm : firstM l = if letB c then wordM l else if digB c then numM1 l else if c.toNat = 34 then textM1 l else if c.toNat = 64 then timeM l else signM l := by rw [hl0]; rfl
  have hix : ∀ w, (Instr.index 9 (.string (st l)) (.int .i64 0)).run Tryz.prog w = .ok (.int .u8 (c.toNat : Int)) w := fun w => run_index_st w l 0 c (by rw [hl0]; rfl)
  have hb : ∀ o, Below w.heap.size w (w.alloc o) := fun o => (Below.refl _ _).alloc (Nat.le_refl _) _
  have HWd := Lib.hid (fun o => readWord_any (w.alloc o) l hl)
  have HNm := Lib.hid (fun o => readNumber_any (w.alloc o) (hw.below (hb o)) l hl)
  have HTx := Lib.hid (fun o => readText_any (w.alloc o) l hlen hl)
  have HTm := Lib.hid (fun o => readTime_any (w.alloc o) (hw.below (hb o)) l hl hlen (by have := digM_le (l.drop 1); rw [List.length_drop] at this; omega))
  have HSg := Lib.hid (fun o => readSign_any (w.alloc o) (hw.below (hb o)) l)
  have HL := Lib.hid (fun o => isLetter_any (w.alloc o) c)
  have HD := Lib.hid (fun o => isDigit_any (w.alloc o) c)
  have HB := Lib.hid hb
  rw [hfm]
  have d34 := deqi c.toNat 34
  have d64 := deqi c.toNat 64
  obtain ⟨s, hs⟩ : ∃ s, st l = s := ⟨_, rfl⟩
  rw [hs] at HWd HNm HTx HTm HSg hix
  rw [hs]
  obtain ⟨bl, hbl⟩ : ∃ b, letB c = b := ⟨_, rfl⟩
  rw [hbl] at HL
  rw [hbl]
  obtain ⟨bd, hbd⟩ : ∃ b, digB c = b := ⟨_, rfl⟩
  rw [hbd] at HD
  rw [hbd]
  clear hfm hl0 h1 hb hw hs hbl hbd
  cases bl with
  | true =>
    simp only [if_true]
    clear HNm HTx HTm HSg HD
    obtain ⟨⟨⟨tk, l1, tn⟩, m⟩, hX⟩ : ∃ X, wordM l = X := ⟨_, rfl⟩
    rw [hX] at HWd
    rw [hX]
    unfold Tk.val Tk.cells at *
    dsimp only at *
    obtain ⟨ts, hts⟩ : ∃ ts, st l1 = ts := ⟨_, rfl⟩
    rw [hts] at HWd
    rw [hts]
    clear hX hts
    go_enter Tryz.func52, Tryz.ntmps52
    go_wp2_with fail
    refine (HL.out _).mono ?_
    rintro e w' ⟨rfl, rfl⟩
    go_wp2_with fail
    refine (HWd.out _).mono ?_
    rintro e w2 ⟨rfl, hb2⟩
    have HB2 := Lib.hid ((HB.out _).trans (hb2.mono (by simp)))
    have HG2 := Lib.hid ((hb2.block w.heap.size (by simp)).trans (heap_alloc_new w _))
    clear hb2 HWd
    go_wp2_with (refine store_tok rfl (.tmp 2) (.tmp 12) rfl rfl w.heap.size rfl tk ts tn rfl HG2.out ?_)
    intro w3 hg3 hk3
    have HG3 := Lib.hid hg3
    have HB3 := Lib.hid (Kept1.mono HB2.out hk3 (Nat.le_refl _))
    clear hg3 hk3
    go_wp2_with fail
    exact bodyPost_ret (results_cell_slot Tryz.results52 _ _ (w.heap.size) 41 #[.int .i64 tk, .string ts, .int .i64 tn] (0, 0) _ rfl (HG3.out) Tryz.underlying41 rfl info_tok (.int .i64 (m : Int)) rfl) rfl ⟨rfl, HB3.out⟩
  | false =>
    simp only [Bool.false_eq_true, if_false]
    clear HWd
    cases bd with
    | true =>
      simp only [if_true]
      clear HTx HTm HSg
      obtain ⟨⟨⟨tk, l1, tn⟩, m⟩, hX⟩ : ∃ X, numM1 l = X := ⟨_, rfl⟩
      rw [hX] at HNm
      rw [hX]
      unfold Tk.val Tk.cells at *
      dsimp only at *
      obtain ⟨ts, hts⟩ : ∃ ts, st l1 = ts := ⟨_, rfl⟩
      rw [hts] at HNm
      rw [hts]
      clear hX hts
      go_enter Tryz.func52, Tryz.ntmps52
      go_wp2_with fail
      refine (HL.out _).mono ?_
      rintro e w' ⟨rfl, rfl⟩
      go_wp2_with fail
      refine (HD.out _).mono ?_
      rintro e w' ⟨rfl, rfl⟩
      go_wp2_with fail
      refine (HNm.out _).mono ?_
      rintro e w2 ⟨rfl, hb2⟩
      have HB2 := Lib.hid ((HB.out _).trans (hb2.mono (by simp)))
      have HG2 := Lib.hid ((hb2.block w.heap.size (by simp)).trans (heap_alloc_new w _))
      clear hb2 HNm
      go_wp2_with (refine store_tok rfl (.tmp 2) (.tmp 19) rfl rfl w.heap.size rfl tk ts tn rfl HG2.out ?_)
      intro w3 hg3 hk3
      have HG3 := Lib.hid hg3
      have HB3 := Lib.hid (Kept1.mono HB2.out hk3 (Nat.le_refl _))
      clear hg3 hk3
      go_wp2_with fail
      exact bodyPost_ret (results_cell_slot Tryz.results52 _ _ (w.heap.size) 41 #[.int .i64 tk, .string ts, .int .i64 tn] (0, 0) _ rfl (HG3.out) Tryz.underlying41 rfl info_tok (.int .i64 (m : Int)) rfl) rfl ⟨rfl, HB3.out⟩
    | false =>
      simp only [Bool.false_eq_true, if_false]
      clear HNm
      by_cases h34 : c.toNat = 34
      · rw [if_pos h34]
        rw [decide_eq_true h34] at d34
        have d34 : ((c.toNat : Int) == 34) = true := d34
        clear h34 HTm HSg d64
        obtain ⟨⟨⟨tk, l1, tn⟩, m⟩, hX⟩ : ∃ X, textM1 l = X := ⟨_, rfl⟩
        rw [hX] at HTx
        rw [hX]
        unfold Tk.val Tk.cells at *
        dsimp only at *
        obtain ⟨ts, hts⟩ : ∃ ts, st l1 = ts := ⟨_, rfl⟩
        rw [hts] at HTx
        rw [hts]
        clear hX hts
        go_enter Tryz.func52, Tryz.ntmps52
        go_wp2_with fail
        refine (HL.out _).mono ?_
        rintro e w' ⟨rfl, rfl⟩
        go_wp2_with fail
        refine (HD.out _).mono ?_
        rintro e w' ⟨rfl, rfl⟩
        go_wp2_with fail
        refine (HTx.out _).mono ?_
        rintro e w2 ⟨rfl, hb2⟩
        have HB2 := Lib.hid ((HB.out _).trans (hb2.mono (by simp)))
        have HG2 := Lib.hid ((hb2.block w.heap.size (by simp)).trans (heap_alloc_new w _))
        clear hb2 HTx
        go_wp2_with (refine store_tok rfl (.tmp 2) (.tmp 26) rfl rfl w.heap.size rfl tk ts tn rfl HG2.out ?_)
        intro w3 hg3 hk3
        have HG3 := Lib.hid hg3
        have HB3 := Lib.hid (Kept1.mono HB2.out hk3 (Nat.le_refl _))
        clear hg3 hk3
        go_wp2_with fail
        exact bodyPost_ret (results_cell_slot Tryz.results52 _ _ (w.heap.size) 41 #[.int .i64 tk, .string ts, .int .i64 tn] (0, 0) _ rfl (HG3.out) Tryz.underlying41 rfl info_tok (.int .i64 (m : Int)) rfl) rfl ⟨rfl, HB3.out⟩
      · rw [if_neg h34]
        rw [decide_eq_false h34] at d34
        have d34 : ((c.toNat : Int) == 34) = false := d34
        clear h34 HTx
        by_cases h64 : c.toNat = 64
        · rw [if_pos h64]
          rw [decide_eq_true h64] at d64
          have d64 : ((c.toNat : Int) == 64) = true := d64
          clear h64 HSg
          obtain ⟨⟨⟨tk, l1, tn⟩, m⟩, hX⟩ : ∃ X, timeM l = X := ⟨_, rfl⟩
          rw [hX] at HTm
          rw [hX]
          unfold Tk.val Tk.cells at *
          dsimp only at *
          obtain ⟨ts, hts⟩ : ∃ ts, st l1 = ts := ⟨_, rfl⟩
          rw [hts] at HTm
          rw [hts]
          clear hX hts
          go_enter Tryz.func52, Tryz.ntmps52
          go_wp2_with fail
          refine (HL.out _).mono ?_
          rintro e w' ⟨rfl, rfl⟩
          go_wp2_with fail
          refine (HD.out _).mono ?_
          rintro e w' ⟨rfl, rfl⟩
          go_wp2_with fail
          refine (HTm.out _).mono ?_
          rintro e w2 ⟨rfl, hb2⟩
          have HB2 := Lib.hid ((HB.out _).trans (hb2.mono (by simp)))
          have HG2 := Lib.hid ((hb2.block w.heap.size (by simp)).trans (heap_alloc_new w _))
          clear hb2 HTm
          go_wp2_with (refine store_tok rfl (.tmp 2) (.tmp 33) rfl rfl w.heap.size rfl tk ts tn rfl HG2.out ?_)
          intro w3 hg3 hk3
          have HG3 := Lib.hid hg3
          have HB3 := Lib.hid (Kept1.mono HB2.out hk3 (Nat.le_refl _))
          clear hg3 hk3
          go_wp2_with fail
          exact bodyPost_ret (results_cell_slot Tryz.results52 _ _ (w.heap.size) 41 #[.int .i64 tk, .string ts, .int .i64 tn] (0, 0) _ rfl (HG3.out) Tryz.underlying41 rfl info_tok (.int .i64 (m : Int)) rfl) rfl ⟨rfl, HB3.out⟩
        · rw [if_neg h64]
          rw [decide_eq_false h64] at d64
          have d64 : ((c.toNat : Int) == 64) = false := d64
          clear h64 HTm
          obtain ⟨⟨⟨tk, l1, tn⟩, m⟩, hX⟩ : ∃ X, signM l = X := ⟨_, rfl⟩
          rw [hX] at HSg
          rw [hX]
          unfold Tk.val Tk.cells at *
          dsimp only at *
          obtain ⟨ts, hts⟩ : ∃ ts, st l1 = ts := ⟨_, rfl⟩
          rw [hts] at HSg
          rw [hts]
          clear hX hts
          go_enter Tryz.func52, Tryz.ntmps52
          go_wp2_with fail
          refine (HL.out _).mono ?_
          rintro e w' ⟨rfl, rfl⟩
          go_wp2_with fail
          refine (HD.out _).mono ?_
          rintro e w' ⟨rfl, rfl⟩
          go_wp2_with fail
          refine (HSg.out _).mono ?_
          rintro e w2 ⟨rfl, hb2⟩
          have HB2 := Lib.hid ((HB.out _).trans (hb2.mono (by simp)))
          have HG2 := Lib.hid ((hb2.block w.heap.size (by simp)).trans (heap_alloc_new w _))
          clear hb2 HSg
          go_wp2_with (refine store_tok rfl (.tmp 2) (.tmp 37) rfl rfl w.heap.size rfl tk ts tn rfl HG2.out ?_)
          intro w3 hg3 hk3
          have HG3 := Lib.hid hg3
          have HB3 := Lib.hid (Kept1.mono HB2.out hk3 (Nat.le_refl _))
          clear hg3 hk3
          go_wp2_with fail
          exact bodyPost_ret (results_cell_slot Tryz.results52 _ _ (w.heap.size) 41 #[.int .i64 tk, .string ts, .int .i64 tn] (0, 0) _ rfl (HG3.out) Tryz.underlying41 rfl info_tok (.int .i64 (m : Int)) rfl) rfl ⟨rfl, HB3.out⟩
end Go.Proofs.YtllgodaphoncnaaGreatDoor
