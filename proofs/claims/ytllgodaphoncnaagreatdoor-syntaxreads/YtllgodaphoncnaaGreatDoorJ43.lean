/- The first token; Blanks, line feeds and comments are passed by. -/
import Derived.Test.YtllgodaphoncnaaGreatDoorJ42
namespace Go.Proofs.YtllgodaphoncnaaGreatDoor
open Go.RowKit

set_option maxRecDepth 100000 in
theorem digM_le (l : List UInt8) : (digM l).2 ≤ l.length := by
  have h := runN_le digB l
  unfold digM
  dsimp only
  split
  · exact Nat.zero_le _
  · split
    · exact h
    · exact Nat.zero_le _
set_option maxRecDepth 100000 in
set_option maxHeartbeats 4000000 in
theorem first_any (w : World) (hw : LexW w) (l : List UInt8) (h1 : l ≠ []) (hl : l.length ≤ 1000000) :
    Calls Tryz.prog 52 #[.string (st l)] w fun e w' => e = .returned (.tuple #[(firstM l).1.val, .int .i64 ((firstM l).2 : Int)]) ∧ Below w.heap.size w w' := by
  obtain ⟨c, r, hl0⟩ : ∃ c r, l = c :: r := by cases l with | nil => exact absurd rfl h1 | cons c r => exact ⟨c, r, rfl⟩
  have hlen : 1 ≤ l.length := by rw [hl0]; simp
  have hfm : firstM l = if letB c then wordM l else if digB c then numM1 l else if c.toNat = 34 then textM1 l else if c.toNat = 64 then timeM l else signM l := by rw [hl0]; rfl
  have hix : ∀ w, (Instr.index 9 (.string (st l)) (.int .i64 0)).run Tryz.prog w = .ok (.int .u8 (c.toNat : Int)) w := fun w => run_index_st w l 0 c (by rw [hl0]; rfl)
  have hb : ∀ o, Below w.heap.size w (w.alloc o) := fun o => (Below.refl _ _).alloc (Nat.le_refl _) _
  have HWd := Lib.hid (fun o => readWord_any (w.alloc o) l hl)
  have HNm := Lib.hid (fun o => readNumber_any (w.alloc o) (hw.below (hb o)) l hl)
  have HTx := Lib.hid (fun o => readText_any (w.alloc o) l hlen hl)
  have HTm := Lib.hid (fun o => readTime_any (w.alloc o) (hw.below (hb o)) l hl hlen (by have := digM_le (l.drop 1); rw [List.length_drop] at this; omega))
  have HSg := Lib.hid (fun o => readSign_any (w.alloc o) (hw.below (hb o)) l)
  have HL := Lib.hid (fun o => isLetter_any (w.alloc o) c)
  have HD := Lib.hid (fun o => isDigit_any (w.alloc o) c)
  have HB := Lib.hid hb
  rw [hfm]
  have d34 := deqi c.toNat 34
  have d64 := deqi c.toNat 64
  obtain ⟨s, hs⟩ : ∃ s, st l = s := ⟨_, rfl⟩
  rw [hs] at HWd HNm HTx HTm HSg hix
  rw [hs]
  obtain ⟨bl, hbl⟩ : ∃ b, letB c = b := ⟨_, rfl⟩
  rw [hbl] at HL
  rw [hbl]
  obtain ⟨bd, hbd⟩ : ∃ b, digB c = b := ⟨_, rfl⟩
  rw [hbd] at HD
  rw [hbd]
  clear hfm hl0 h1 hb hw hs hbl hbd
  cases bl with
  | true =>
    simp only [if_true]
    clear HNm HTx HTm HSg HD
    obtain ⟨⟨⟨tk, l1, tn⟩, m⟩, hX⟩ : ∃ X, wordM l = X := ⟨_, rfl⟩
    rw [hX] at HWd
    rw [hX]
    unfold Tk.val Tk.cells at *
    dsimp only at *
    obtain ⟨ts, hts⟩ : ∃ ts, st l1 = ts := ⟨_, rfl⟩
    rw [hts] at HWd
    rw [hts]
    clear hX hts
    go_enter Tryz.func52, Tryz.ntmps52
    go_wp2_with fail
    refine (HL.out _).mono ?_
    rintro e w' ⟨rfl, rfl⟩
    go_wp2_with fail
    refine (HWd.out _).mono ?_
    rintro e w2 ⟨rfl, hb2⟩
    have HB2 := Lib.hid ((HB.out _).trans (hb2.mono (by simp)))
    have HG2 := Lib.hid ((hb2.block w.heap.size (by simp)).trans (heap_alloc_new w _))
    clear hb2 HWd
    go_wp2_with (refine store_tok rfl (.tmp 2) (.tmp 12) rfl rfl w.heap.size rfl tk ts tn rfl HG2.out ?_)
    intro w3 hg3 hk3
    have HG3 := Lib.hid hg3
    have HB3 := Lib.hid (Kept1.mono HB2.out hk3 (Nat.le_refl _))
    clear hg3 hk3
    go_wp2_with fail
    exact bodyPost_ret (results_cell_slot Tryz.results52 _ _ (w.heap.size) 41 #[.int .i64 tk, .string ts, .int .i64 tn] (0, 0) _ rfl (HG3.out) Tryz.underlying41 rfl info_tok (.int .i64 (m : Int)) rfl) rfl ⟨rfl, HB3.out⟩
  | false =>
    simp only [Bool.false_eq_true, if_false]
    clear HWd
    cases bd with
    | true =>
      simp only [if_true]
      clear HTx HTm HSg
      obtain ⟨⟨⟨tk, l1, tn⟩, m⟩, hX⟩ : ∃ X, numM1 l = X := ⟨_, rfl⟩
      rw [hX] at HNm
      rw [hX]
      unfold Tk.val Tk.cells at *
      dsimp only at *
      obtain ⟨ts, hts⟩ : ∃ ts, st l1 = ts := ⟨_, rfl⟩
      rw [hts] at HNm
      rw [hts]
      clear hX hts
      go_enter Tryz.func52, Tryz.ntmps52
      go_wp2_with fail
      refine (HL.out _).mono ?_
      rintro e w' ⟨rfl, rfl⟩
      go_wp2_with fail
      refine (HD.out _).mono ?_
      rintro e w' ⟨rfl, rfl⟩
      go_wp2_with fail
      refine (HNm.out _).mono ?_
      rintro e w2 ⟨rfl, hb2⟩
      have HB2 := Lib.hid ((HB.out _).trans (hb2.mono (by simp)))
      have HG2 := Lib.hid ((hb2.block w.heap.size (by simp)).trans (heap_alloc_new w _))
      clear hb2 HNm
      go_wp2_with (refine store_tok rfl (.tmp 2) (.tmp 19) rfl rfl w.heap.size rfl tk ts tn rfl HG2.out ?_)
      intro w3 hg3 hk3
      have HG3 := Lib.hid hg3
      have HB3 := Lib.hid (Kept1.mono HB2.out hk3 (Nat.le_refl _))
      clear hg3 hk3
      go_wp2_with fail
      exact bodyPost_ret (results_cell_slot Tryz.results52 _ _ (w.heap.size) 41 #[.int .i64 tk, .string ts, .int .i64 tn] (0, 0) _ rfl (HG3.out) Tryz.underlying41 rfl info_tok (.int .i64 (m : Int)) rfl) rfl ⟨rfl, HB3.out⟩
    | false =>
      simp only [Bool.false_eq_true, if_false]
      clear HNm
      by_cases h34 : c.toNat = 34
      · rw [if_pos h34]
        rw [decide_eq_true h34] at d34
        have d34 : ((c.toNat : Int) == 34) = true := d34
        clear h34 HTm HSg d64
        obtain ⟨⟨⟨tk, l1, tn⟩, m⟩, hX⟩ : ∃ X, textM1 l = X := ⟨_, rfl⟩
        rw [hX] at HTx
        rw [hX]
        unfold Tk.val Tk.cells at *
        dsimp only at *
        obtain ⟨ts, hts⟩ : ∃ ts, st l1 = ts := ⟨_, rfl⟩
        rw [hts] at HTx
        rw [hts]
        clear hX hts
        go_enter Tryz.func52, Tryz.ntmps52
        go_wp2_with fail
        refine (HL.out _).mono ?_
        rintro e w' ⟨rfl, rfl⟩
        go_wp2_with fail
        refine (HD.out _).mono ?_
        rintro e w' ⟨rfl, rfl⟩
        go_wp2_with fail
        refine (HTx.out _).mono ?_
        rintro e w2 ⟨rfl, hb2⟩
        have HB2 := Lib.hid ((HB.out _).trans (hb2.mono (by simp)))
        have HG2 := Lib.hid ((hb2.block w.heap.size (by simp)).trans (heap_alloc_new w _))
        clear hb2 HTx
        go_wp2_with (refine store_tok rfl (.tmp 2) (.tmp 26) rfl rfl w.heap.size rfl tk ts tn rfl HG2.out ?_)
        intro w3 hg3 hk3
        have HG3 := Lib.hid hg3
        have HB3 := Lib.hid (Kept1.mono HB2.out hk3 (Nat.le_refl _))
        clear hg3 hk3
        go_wp2_with fail
        exact bodyPost_ret (results_cell_slot Tryz.results52 _ _ (w.heap.size) 41 #[.int .i64 tk, .string ts, .int .i64 tn] (0, 0) _ rfl (HG3.out) Tryz.underlying41 rfl info_tok (.int .i64 (m : Int)) rfl) rfl ⟨rfl, HB3.out⟩
      · rw [if_neg h34]
        rw [decide_eq_false h34] at d34
        have d34 : ((c.toNat : Int) == 34) = false := d34
        clear h34 HTx
        by_cases h64 : c.toNat = 64
        · rw [if_pos h64]
          rw [decide_eq_true h64] at d64
          have d64 : ((c.toNat : Int) == 64) = true := d64
          clear h64 HSg
          obtain ⟨⟨⟨tk, l1, tn⟩, m⟩, hX⟩ : ∃ X, timeM l = X := ⟨_, rfl⟩
          rw [hX] at HTm
          rw [hX]
          unfold Tk.val Tk.cells at *
          dsimp only at *
          obtain ⟨ts, hts⟩ : ∃ ts, st l1 = ts := ⟨_, rfl⟩
          rw [hts] at HTm
          rw [hts]
          clear hX hts
          go_enter Tryz.func52, Tryz.ntmps52
          go_wp2_with fail
          refine (HL.out _).mono ?_
          rintro e w' ⟨rfl, rfl⟩
          go_wp2_with fail
          refine (HD.out _).mono ?_
          rintro e w' ⟨rfl, rfl⟩
          go_wp2_with fail
          refine (HTm.out _).mono ?_
          rintro e w2 ⟨rfl, hb2⟩
          have HB2 := Lib.hid ((HB.out _).trans (hb2.mono (by simp)))
          have HG2 := Lib.hid ((hb2.block w.heap.size (by simp)).trans (heap_alloc_new w _))
          clear hb2 HTm
          go_wp2_with (refine store_tok rfl (.tmp 2) (.tmp 33) rfl rfl w.heap.size rfl tk ts tn rfl HG2.out ?_)
          intro w3 hg3 hk3
          have HG3 := Lib.hid hg3
          have HB3 := Lib.hid (Kept1.mono HB2.out hk3 (Nat.le_refl _))
          clear hg3 hk3
          go_wp2_with fail
          exact bodyPost_ret (results_cell_slot Tryz.results52 _ _ (w.heap.size) 41 #[.int .i64 tk, .string ts, .int .i64 tn] (0, 0) _ rfl (HG3.out) Tryz.underlying41 rfl info_tok (.int .i64 (m : Int)) rfl) rfl ⟨rfl, HB3.out⟩
        · rw [if_neg h64]
          rw [decide_eq_false h64] at d64
          have d64 : ((c.toNat : Int) == 64) = false := d64
          clear h64 HTm
          obtain ⟨⟨⟨tk, l1, tn⟩, m⟩, hX⟩ : ∃ X, signM l = X := ⟨_, rfl⟩
          rw [hX] at HSg
          rw [hX]
          unfold Tk.val Tk.cells at *
          dsimp only at *
          obtain ⟨ts, hts⟩ : ∃ ts, st l1 = ts := ⟨_, rfl⟩
          rw [hts] at HSg
          rw [hts]
          clear hX hts
          go_enter Tryz.func52, Tryz.ntmps52
          go_wp2_with fail
          refine (HL.out _).mono ?_
          rintro e w' ⟨rfl, rfl⟩
          go_wp2_with fail
          refine (HD.out _).mono ?_
          rintro e w' ⟨rfl, rfl⟩
          go_wp2_with fail
          refine (HSg.out _).mono ?_
          rintro e w2 ⟨rfl, hb2⟩
          have HB2 := Lib.hid ((HB.out _).trans (hb2.mono (by simp)))
          have HG2 := Lib.hid ((hb2.block w.heap.size (by simp)).trans (heap_alloc_new w _))
          clear hb2 HSg
          go_wp2_with (refine store_tok rfl (.tmp 2) (.tmp 37) rfl rfl w.heap.size rfl tk ts tn rfl HG2.out ?_)
          intro w3 hg3 hk3
          have HG3 := Lib.hid hg3
          have HB3 := Lib.hid (Kept1.mono HB2.out hk3 (Nat.le_refl _))
          clear hg3 hk3
          go_wp2_with fail
          exact bodyPost_ret (results_cell_slot Tryz.results52 _ _ (w.heap.size) 41 #[.int .i64 tk, .string ts, .int .i64 tn] (0, 0) _ rfl (HG3.out) Tryz.underlying41 rfl info_tok (.int .i64 (m : Int)) rfl) rfl ⟨rfl, HB3.out⟩
end Go.Proofs.YtllgodaphoncnaaGreatDoor
namespace Go.Proofs.YtllgodaphoncnaaGreatDoor
open Go.RowKit

set_option maxRecDepth 100000 in
theorem index_cut (l : List UInt8) : (Lib.indexByte l 10 = -1 ∧ cutL l = []) ∨ ∃ k : Nat, k < l.length ∧ Lib.indexByte l 10 = (k : Int) ∧ cutL l = l.drop (k + 1) := by
  induction l with
  | nil => exact .inl ⟨rfl, rfl⟩
  | cons c l ih =>
    unfold Lib.indexByte cutL
    by_cases h : c = 10
    · subst h
      exact .inr ⟨0, by simp, by simp, by simp⟩
    · have hb : (c == 10) = false := by simpa using h
      have hn : ¬ c.toNat = 10 := fun e => h (by
        have : c.toNat = (10 : UInt8).toNat := e
        exact UInt8.toNat_inj.1 this)
      rw [if_neg hn, hb]
      rcases ih with ⟨h1, h2⟩ | ⟨k, hk, h1, h2⟩
      · left
        rw [h1]
        exact ⟨rfl, h2⟩
      · right
        refine ⟨k + 1, by simp only [List.length_cons]; omega, ?_, by rw [h2]; rfl⟩
        rw [h1]
        have : ((k : Int) == -1) = false := by rw [beq_eq_false_iff_ne]; omega
        simp [this]
set_option maxRecDepth 100000 in
set_option maxHeartbeats 1000000 in
theorem cut_lite (w : World) (l : List UInt8) (hl : l.length ≤ 1000000) :
    Calls Tryz.prog 107 #[.string (st l), .string ⟨#[10]⟩] w fun e w' => ∃ bf fd, e = .returned (.tuple #[.string bf, .string (st (cutL l)), .bool fd]) ∧ Below w.heap.size w w' := by
  have hI := Any.stringslite_Index_one lays219 (st l) 10 w
  have hd : (st l).data.toList = l := by simp [st]
  rw [hd] at hI
  have hsz := size_st l
  rcases index_cut l with ⟨h1, h2⟩ | ⟨k, hk, h1, h2⟩
  · rw [h1] at hI
    rw [h2]
    have HI := Lib.hid hI
    clear hI h1 h2 hd
    obtain ⟨s, hs⟩ : ∃ s, st l = s := ⟨_, rfl⟩
    rw [hs] at HI hsz ⊢
    clear hs
    go_enter Tryz.func107, Tryz.ntmps107
    go_wp2_with fail
    refine HI.out.mono ?_
    rintro e w' ⟨rfl, rfl⟩
    go_wp2_with fail
    exact bodyPost_ret (v := .tuple #[.string s, .string (st []), .bool false]) (by simp [results, Tryz.results107, go_sem]; rfl) rfl ⟨s, false, rfl, Below.refl _ _⟩
  · rw [h1] at hI
    rw [h2]
    have HI := Lib.hid hI
    have hhi := fun w => run_slice_hi w l k (by omega)
    have hlo := fun w => run_slice_lo w l (k + 1) (by omega)
    clear hI h1 h2 hd
    obtain ⟨s, hs⟩ : ∃ s, st l = s := ⟨_, rfl⟩
    rw [hs] at HI hsz hhi hlo ⊢
    obtain ⟨a, ha⟩ : ∃ a, st (l.take k) = a := ⟨_, rfl⟩
    rw [ha] at hhi
    obtain ⟨b, hb⟩ : ∃ b, st (l.drop (k + 1)) = b := ⟨_, rfl⟩
    rw [hb] at hlo ⊢
    have hlo : ∀ w, (Instr.sliceAt 9 (.string s) (some (.int .i64 ((k : Int) + 1))) none none).run Tryz.prog w = .ok (.string b) w := hlo
    have d : decide ((0 : Int) ≤ (k : Int)) = true := by simp
    clear hs ha hb
    go_enter Tryz.func107, Tryz.ntmps107
    go_wp2_with fail
    refine HI.out.mono ?_
    rintro e w' ⟨rfl, rfl⟩
    go_wp2_with fail
    go_quiet (fail)
    go_wp2_with fail
    exact bodyPost_ret (v := .tuple #[.string a, .string b, .bool true]) (by simp [results, Tryz.results107, go_sem]) rfl ⟨a, true, rfl, below_drewN (Below.refl _ _) _⟩
set_option maxRecDepth 100000 in
set_option maxHeartbeats 1000000 in
theorem cut_any (w : World) (l : List UInt8) (hl : l.length ≤ 1000000) :
    Calls Tryz.prog 71 #[.string (st l), .string ⟨#[10]⟩] w fun e w' => ∃ bf fd, e = .returned (.tuple #[.string bf, .string (st (cutL l)), .bool fd]) ∧ Below w.heap.size w w' := by
  have HC := Lib.hid (cut_lite w l hl)
  obtain ⟨s, hs⟩ : ∃ s, st l = s := ⟨_, rfl⟩
  rw [hs] at HC ⊢
  obtain ⟨c, hc⟩ : ∃ c, st (cutL l) = c := ⟨_, rfl⟩
  rw [hc] at HC ⊢
  clear hs hc
  go_enter Tryz.func71, Tryz.ntmps71
  go_wp2_with fail
  refine HC.out.mono ?_
  rintro e w' ⟨bf, fd, rfl, hb⟩
  have HB := Lib.hid hb
  clear hb HC
  go_wp2_with fail
  exact bodyPost_ret (v := .tuple #[.string bf, .string c, .bool fd]) (by simp [results, Tryz.results71, go_sem]) rfl ⟨bf, fd, rfl, HB.out⟩
set_option maxRecDepth 100000 in
theorem beq8 (b c : UInt8) : (b == c) = decide (b.toNat = c.toNat) := by
  by_cases h : b = c
  · subst h; simp
  · have h1 : ¬ b.toNat = c.toNat := fun e => h (UInt8.toNat_inj.1 e)
    rw [decide_eq_false h1]; simpa using h
def blkB (b : UInt8) : Bool := decide (b.toNat = 32) || decide (b.toNat = 10)
set_option maxRecDepth 100000 in
theorem trim_any (w : World) (l : List UInt8) : Calls Tryz.prog 69 #[.string (st l), .string ⟨#[32, 10]⟩] w fun e w' => e = .returned (.string (st (l.dropWhile blkB))) ∧ Below w.heap.size w w' := by
  have h := Any.strings_TrimLeft_laid lays161 (by kernel_rfl) (st l) ⟨#[32, 10]⟩ w (by decide) (ascii_of_all (by decide))
  have hd : (st l).data.toList = l := by simp [st]
  have e : Lib.trimLeftS l [32, 10] = l.dropWhile blkB := by
    unfold Lib.trimLeftS
    congr 1
    funext b
    simp only [List.contains_cons, List.contains_nil, Bool.or_false, blkB, beq8]
    rfl
  rw [hd] at h
  refine h.mono ?_
  rintro ex w' ⟨rfl, hb⟩
  refine ⟨?_, hb⟩
  show Ending.returned (.string (st (Lib.trimLeftS l [32, 10]))) = _
  rw [e]
set_option maxRecDepth 100000 in
theorem skipB_trim (l : List UInt8) : skipB false (l.dropWhile blkB) = skipB false l := by
  induction l with
  | nil => rfl
  | cons c l ih =>
    rw [List.dropWhile_cons]
    by_cases h : blkB c = true
    · rw [if_pos h, ih]
      have : c.toNat = 32 ∨ c.toNat = 10 := by simpa [blkB] using h
      rw [skipB, if_pos this]
    · rw [if_neg h]
set_option maxRecDepth 100000 in
theorem skipB_com (l : List UInt8) : skipB true l = skipB false (cutL l) := by
  induction l with
  | nil => rfl
  | cons c l ih =>
    rw [skipB, cutL]
    by_cases h : c.toNat = 10
    · rw [if_pos h, decide_eq_true h]; rfl
    · rw [if_neg h, decide_eq_false h, ← ih]; rfl
set_option maxRecDepth 100000 in
theorem skipB_hash (c : UInt8) (l : List UInt8) (h : c.toNat = 35) : skipB false (c :: l) = skipB false (cutL (c :: l)) := by
  rw [skipB, if_neg (by omega), if_pos h, skipB_com, cutL, if_neg (by omega)]
set_option maxRecDepth 100000 in
theorem skipB_stop {l : List UInt8} (h : ∀ c r, l = c :: r → blkB c = false ∧ c.toNat ≠ 35) : skipB false l = l := by
  cases l with
  | nil => rfl
  | cons c r =>
    obtain ⟨h1, h2⟩ := h c r rfl
    have h3 : ¬ (c.toNat = 32 ∨ c.toNat = 10) := by simpa [blkB] using h1
    rw [skipB, if_neg h3, if_neg h2]
set_option maxRecDepth 100000 in
theorem dropWhile_head (l : List UInt8) : ∀ c r, l.dropWhile blkB = c :: r → blkB c = false := by
  induction l with
  | nil => intro c r h; cases h
  | cons a l ih =>
    intro c r h
    rw [List.dropWhile_cons] at h
    by_cases ha : blkB a = true
    · rw [if_pos ha] at h; exact ih c r h
    · rw [if_neg ha] at h
      obtain ⟨rfl, _⟩ := List.cons.inj h
      simpa using ha
set_option maxRecDepth 100000 in
theorem dropWhile_le (l : List UInt8) : (l.dropWhile blkB).length ≤ l.length := by
  induction l with
  | nil => simp
  | cons a l ih =>
    rw [List.dropWhile_cons]
    split
    · simp; omega
    · exact Nat.le_refl _
set_option maxRecDepth 100000 in
theorem cutL_lt (l : List UInt8) (h : l ≠ []) : (cutL l).length < l.length := by
  induction l with
  | nil => exact absurd rfl h
  | cons c l ih =>
    rw [cutL]
    split
    · simp
    · by_cases hl : l = []
      · subst hl; simp [cutL]
      · have := ih hl; simp; omega
set_option maxRecDepth 100000 in
theorem prefix_hash (l : List UInt8) : ([35] : List UInt8).isPrefixOf l = true ↔ ∃ r, l = 35 :: r := by
  cases l with
  | nil => simp [List.isPrefixOf]
  | cons c r =>
    constructor
    · intro h
      have : (35 : UInt8) = c := by simpa [List.isPrefixOf] using h
      exact ⟨r, by rw [this]⟩
    · rintro ⟨r', h⟩
      obtain ⟨rfl, _⟩ := List.cons.inj h
      simp [List.isPrefixOf]
set_option maxRecDepth 100000 in
set_option maxHeartbeats 1000000 in
theorem skip_any (w : World) (l : List UInt8) (hl : l.length ≤ 1000000) :
    Calls Tryz.prog 51 #[.string (st l)] w fun e w' => e = .returned (.string (st (skipB false l))) ∧ Below w.heap.size w w' := by
  go_enter Tryz.func51, Tryz.ntmps51
  go_wp2_with fail
  go_loopw [0] (fun s wr => ∃ r : List UInt8, s = .string (st r) ∧ r.length ≤ l.length ∧ skipB false r = skipB false l ∧ Below w.heap.size w wr) (fun s _ => match s with | .string s => s.size | _ => 0)
  case atStart => exact ⟨l, rfl, Nat.le_refl _, rfl, Below.refl _ _⟩
  case round =>
    obtain ⟨r, rfl, hr, heq, hb⟩ := hrel
    have HT := Lib.hid (trim_any wr r)
    have hle := dropWhile_le r
    have hsk := skipB_trim r
    have hhd := dropWhile_head r
    rw [heq] at hsk
    have HB := Lib.hid hb
    clear hb heq
    obtain ⟨d, hd⟩ : ∃ d, r.dropWhile blkB = d := ⟨_, rfl⟩
    rw [hd] at HT hle hsk hhd
    have HSk := Lib.hid hsk
    have HHd := Lib.hid hhd
    have hsr := size_st r
    obtain ⟨s, hs⟩ : ∃ s, st r = s := ⟨_, rfl⟩
    rw [hs] at HT hsr
    rw [hs]
    clear hd hsk hhd hs
    go_wp2_with fail
    refine HT.out.mono ?_
    rintro e w2 ⟨rfl, hb2⟩
    have HB2 := Lib.hid (HB.out.trans (hb2.mono HB.out.size))
    have HP := Lib.hid (hasPrefix_any w2 d [35])
    have HC := Lib.hid (cut_any w2 d (by omega))
    have HPh := Lib.hid (prefix_hash d)
    have hsd := size_st d
    obtain ⟨sd, hsd2⟩ : ∃ s, st d = s := ⟨_, rfl⟩
    rw [hsd2] at HP HC hsd
    rw [hsd2]
    have HSd := Lib.hid hsd2
    obtain ⟨b, hbb⟩ : ∃ b, ([35] : List UInt8).isPrefixOf d = b := ⟨_, rfl⟩
    rw [hbb] at HP HPh
    clear hb2 HT hsd2 hbb
    go_wp2_with fail
    refine HP.out.mono ?_
    rintro e w' ⟨rfl, rfl⟩
    cases b with
    | true =>
      obtain ⟨r', hr'⟩ := HPh.out.1 rfl
      have hcl := cutL_lt d (by rw [hr']; simp)
      have hsc := skipB_hash 35 r' rfl
      rw [← hr'] at hsc
      have HSc := Lib.hid (hsc.symm.trans HSk.out)
      clear hr' hsc
      have hsc2 := size_st (cutL d)
      go_wp2_with fail
      refine HC.out.mono ?_
      rintro e w3 ⟨bf, fd, rfl, hb3⟩
      have HB3 := Lib.hid (HB2.out.trans (hb3.mono HB2.out.size))
      clear hb3 HC
      go_wp2_with fail
      go_roundw
      case rel => exact ⟨cutL d, rfl, by omega, HSc.out, HB3.out⟩
      case measure => simp; omega
    | false =>
      have hst := skipB_stop (l := d) fun c r' h => ⟨HHd.out c r' h, fun h35 => by
        have : (false : Bool) = true := HPh.out.2 ⟨r', by rw [h]; congr 1; exact UInt8.toNat_inj.1 h35⟩
        cases this⟩
      go_wp2_with fail
      go_ret
      exact ⟨by rw [← HSd.out, ← hst, HSk.out]; rfl, HB2.out⟩
end Go.Proofs.YtllgodaphoncnaaGreatDoor
