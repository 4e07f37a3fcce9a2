/- A text read; The first token. -/
import Derived.Test.YtllgodaphoncnaaGreatDoorJ35
namespace Go.Proofs.YtllgodaphoncnaaGreatDoor
open Go.RowKit

set_option maxRecDepth 100000 in
set_option maxHeartbeats 4000000 in
theorem readText_any (w : World) (l : List UInt8) (h1 : 1 ≤ l.length) (hl : l.length ≤ 1000000) :
    Calls Tryz.prog 76 #[.string (st l)] w fun e w' => e = .returned (.tuple #[(textM1 l).1.val, .int .i64 ((textM1 l).2 : Int)]) ∧ Below w.heap.size w w' := by
  have hsz := size_st l
  have hix : ∀ (w : World) (k : Nat) (c : UInt8), l[k]? = some c → (Instr.index 9 (.string (st l)) (.int .i64 (k : Int))).run Tryz.prog w = .ok (.int .u8 (c.toNat : Int)) w := fun w k c h => run_index_st w l k c h
  have HTs : Hid (∀ x n, inM (l.drop 1) = some (x, n) → textM1 l = (⟨3, x, 0⟩, n + 1)) := Lib.hid fun x n h => by unfold textM1; rw [h]
  have HTn : Hid (inM (l.drop 1) = none → textM1 l = (noTk, 0)) := Lib.hid fun h => by unfold textM1; rw [h]
  obtain ⟨T, hT⟩ : ∃ T, textM1 l = T := ⟨_, rfl⟩
  rw [hT] at HTs HTn ⊢
  obtain ⟨s, hs⟩ : ∃ s, st l = s := ⟨_, rfl⟩
  rw [hs] at hsz hix ⊢
  have HI := Lib.hid hix
  clear hT hs hix
  unfold Tk.val Tk.cells
  go_enter Tryz.func76, Tryz.ntmps76
  go_wp2_with fail
  generalize hW : World.alloc _ _ = W0 at *
  have R0 : TxtRel w l 1 [] (.slice none 0 0) W0 := ⟨OwnY.nil _ _, by rw [← hW]; exact heap_alloc_new _ _, by rw [← hW]; exact (Below.refl _ _).alloc (Nat.le_refl _) _, by simp, by cases inM (l.drop 1) <;> simp⟩
  clear hW
  go_loopw [4, 5] (fun v i wr => ∃ (k : Nat) (x : List UInt8), 1 ≤ k ∧ k ≤ l.length ∧ i = .int .i64 (k : Int) ∧ TxtRel w l k x v wr) (fun _ i _ => l.length - (intOf i).toNat)
  case atStart => exact ⟨1, [], by omega, by omega, rfl, R0⟩
  case round =>
    clear R0
    obtain ⟨k, x, hk1, hk, rfl, hr⟩ := hrel
    have HR := Lib.hid hr
    have HG := Lib.hid hr.blk
    have HB := Lib.hid hr.below
    have hxk := hr.len
    have hlt1 := lt_block hr.blk
    have hN1 : w.heap.size + 1 ≤ wr.heap.size := by omega
    clear hr
    by_cases hlt : k < l.length
    · have hd : decide ((k : Int) < (l.length : Int)) = true := by simp; omega
      have hget : l[k]? = some l[k] := List.getElem?_eq_getElem hlt
      have hdr : l.drop k = l[k] :: l.drop (k + 1) := List.drop_eq_getElem_cons hlt
      have hix := fun w => HI.out w k _ hget
      have HEq := HR.out.eq
      rw [hdr] at HEq
      generalize l[k] = c at *
      have d34 := deqi c.toNat 34
      have d92 := deqi c.toNat 92
      clear hget hdr
      by_cases h34 : c.toNat = 34
      · rw [decide_eq_true h34] at d34
        have d34 : ((c.toNat : Int) == 34) = true := d34
        have HE : Hid (inM (l.drop 1) = some (x, k)) := Lib.hid (by
          rw [← HEq, inM_quote _ _ h34]
          simp; omega)
        have hcv := HR.out.own.conv
        clear HEq d92 h34
        go_wp2_with (refine store_tok rfl (.tmp 2) (.tmp 18) rfl rfl w.heap.size rfl 3 (st x) 0 rfl HG.out ?_)
        intro w3 hg3 hk3
        have HG3 := Lib.hid hg3
        have HB3 := Lib.hid (Kept1.mono HB.out hk3 (Nat.le_refl _))
        clear hg3 hk3
        go_wp2_with fail
        exact bodyPost_ret (results_cell_slot Tryz.results76 _ _ (w.heap.size) 41 #[.int .i64 3, .string (st x), .int .i64 0] (0, 0) _ rfl (HG3.out) Tryz.underlying41 rfl info_tok (.int .i64 ((k : Int) + 1)) rfl) rfl ⟨by rw [HTs.out _ _ HE.out]; rfl, HB3.out⟩
      · rw [decide_eq_false h34] at d34
        have d34 : ((c.toNat : Int) == 34) = false := d34
        by_cases h92 : c.toNat = 92
        · rw [decide_eq_true h92] at d92
          have d92 : ((c.toNat : Int) == 92) = true := d92
          by_cases hlt2 : k + 1 < l.length
          · have hd2 : ((k : Int) + 1 == (l.length : Int)) = false := by simp; omega
            have hget : l[k + 1]? = some l[k + 1] := List.getElem?_eq_getElem hlt2
            have hdr : l.drop (k + 1) = l[k + 1] :: l.drop (k + 1 + 1) := List.drop_eq_getElem_cons hlt2
            have hix2 : ∀ w, (Instr.index 9 (.string s) (.int .i64 ((k : Int) + 1))).run Tryz.prog w = .ok (.int .u8 (l[k + 1].toNat : Int)) w := fun w => HI.out w (k + 1) _ hget
            rw [hdr, inM_esc _ _ _ h92] at HEq
            generalize l[k + 1] = d at *
            have HM := Lib.hid (isMarked_any wr d)
            obtain ⟨b, hb⟩ : ∃ b, mrkB d = b := ⟨_, rfl⟩
            rw [hb] at HM HEq
            have HEq := Lib.hid HEq
            clear hget hdr hb h34 h92
            go_wp2_with fail
            refine HM.out.mono ?_
            rintro e w' ⟨rfl, rfl⟩
            cases b with
            | true =>
              go_wp2_with (at_builtin; refine append_one rfl (.tmp 39) (.tmp 43) rfl (w.heap.size + 1) _ x rfl d wr.heap.size 1 rfl (heap_alloc_new _ _) (HR.out.own.below ((Below.refl _ _).alloc (Nat.le_refl _) _)) (by omega) (by simp; omega) ?_)
              intro v' w2 hown hb2
              have hlt0 : w.heap.size < wr.heap.size := hlt1
              have R2 : TxtRel w l (k + 2) (x ++ [d]) v' w2 := ⟨hown, (hb2.block w.heap.size (by omega)).trans ((Below.heap_alloc _ _ _ hlt0).trans HG.out), (HB.out.alloc (by omega) _).trans (hb2.mono (by omega)), by simp; omega, by
                rw [← HEq.out]
                simp only [if_true]
                rw [Option.map_map]
                congr 1
                funext y
                simp; omega⟩
              have HR2 := Lib.hid R2
              clear R2 hown hb2 HEq
              go_wp2_with fail
              go_roundw
              case rel => exact ⟨k + 2, _, by omega, by omega, by go_num, HR2.out⟩
              case measure => simp [intOf]; omega
            | false =>
              have HE : Hid (inM (l.drop 1) = none) := Lib.hid (by rw [← HEq.out]; rfl)
              go_wp2_with (refine store_tok rfl (.tmp 2) (.tmp 38) rfl rfl w.heap.size rfl 0 (st []) 0 rfl HG.out ?_)
              intro w3 hg3 hk3
              have HG3 := Lib.hid hg3
              have HB3 := Lib.hid (Kept1.mono HB.out hk3 (Nat.le_refl _))
              clear hg3 hk3
              go_wp2_with fail
              exact bodyPost_ret (results_cell_slot Tryz.results76 _ _ (w.heap.size) 41 #[.int .i64 0, .string (st []), .int .i64 0] (0, 0) _ rfl (HG3.out) Tryz.underlying41 rfl info_tok (.int .i64 0) rfl) rfl ⟨by rw [HTn.out HE.out]; rfl, HB3.out⟩
          · have hd2 : ((k : Int) + 1 == (l.length : Int)) = true := by simp; omega
            have hnil : l.drop (k + 1) = [] := List.drop_eq_nil_of_le (by omega)
            rw [hnil, inM_end _ h92] at HEq
            have HE : Hid (inM (l.drop 1) = none) := Lib.hid (by rw [← HEq]; rfl)
            clear HEq hnil h34 h92
            go_wp2_with (refine store_tok rfl (.tmp 2) (.tmp 38) rfl rfl w.heap.size rfl 0 (st []) 0 rfl HG.out ?_)
            intro w3 hg3 hk3
            have HG3 := Lib.hid hg3
            have HB3 := Lib.hid (Kept1.mono HB.out hk3 (Nat.le_refl _))
            clear hg3 hk3
            go_wp2_with fail
            exact bodyPost_ret (results_cell_slot Tryz.results76 _ _ (w.heap.size) 41 #[.int .i64 0, .string (st []), .int .i64 0] (0, 0) _ rfl (HG3.out) Tryz.underlying41 rfl info_tok (.int .i64 0) rfl) rfl ⟨by rw [HTn.out HE.out]; rfl, HB3.out⟩
        · rw [decide_eq_false h92] at d92
          have d92 : ((c.toNat : Int) == 92) = false := d92
          rw [inM_plain _ _ h34 h92] at HEq
          have HEq := Lib.hid HEq
          clear h34 h92
          go_wp2_with (at_builtin; refine append_one rfl (.tmp 39) (.tmp 43) rfl (w.heap.size + 1) _ x rfl c wr.heap.size 1 rfl (heap_alloc_new _ _) (HR.out.own.below ((Below.refl _ _).alloc (Nat.le_refl _) _)) (by omega) (by simp; omega) ?_)
          intro v' w2 hown hb2
          have hlt0 : w.heap.size < wr.heap.size := hlt1
          have R2 : TxtRel w l (k + 1) (x ++ [c]) v' w2 := ⟨hown, (hb2.block w.heap.size (by omega)).trans ((Below.heap_alloc _ _ _ hlt0).trans HG.out), (HB.out.alloc (by omega) _).trans (hb2.mono (by omega)), by simp; omega, by
            rw [← HEq.out]
            rw [Option.map_map]
            congr 1
            funext y
            simp; omega⟩
          have HR2 := Lib.hid R2
          clear R2 hown hb2 HEq
          go_wp2_with fail
          go_roundw
          case rel => exact ⟨k + 1, _, by omega, by omega, by go_num, HR2.out⟩
          case measure => simp [intOf]; omega
    · have hd : decide ((k : Int) < (l.length : Int)) = false := by simp; omega
      have HE : Hid (inM (l.drop 1) = none) := Lib.hid (by
        rw [← HR.out.eq, List.drop_eq_nil_of_le (by omega), inM_nil]; rfl)
      go_wp2_with (refine store_tok rfl (.tmp 2) (.tmp 45) rfl rfl w.heap.size rfl 0 (st []) 0 rfl HG.out ?_)
      intro w3 hg3 hk3
      have HG3 := Lib.hid hg3
      have HB3 := Lib.hid (Kept1.mono HB.out hk3 (Nat.le_refl _))
      clear hg3 hk3
      go_wp2_with fail
      exact bodyPost_ret (results_cell_slot Tryz.results76 _ _ (w.heap.size) 41 #[.int .i64 0, .string (st []), .int .i64 0] (0, 0) _ rfl (HG3.out) Tryz.underlying41 rfl info_tok (.int .i64 0) rfl) rfl ⟨by rw [HTn.out HE.out]; rfl, HB3.out⟩
end Go.Proofs.YtllgodaphoncnaaGreatDoor
namespace Go.Proofs.YtllgodaphoncnaaGreatDoor
open Go.RowKit

set_option maxRecDepth 100000 in
theorem digM_le (l : List UInt8) : (digM l).2 ≤ l.length := by
  have h := runN_le digB l
  unfold digM
  dsimp only
  split
  · exact Nat.zero_le _
  · split
    · exact h
    · exact Nat.zero_le _
set_option maxRecDepth 100000 in
set_option maxHeartbeats 4000000 in
theorem first_any (w : World) (hw : LexW w) (l : List UInt8) (h1 : l ≠ []) (hl : l.length ≤ 1000000) :
    Calls Tryz.prog 52 #[.string (st l)] w fun e w' => e = .returned (.tuple #[(firstM l).1.val, .int .i64 ((firstM l).2 : Int)]) ∧ Below w.heap.size w w' := by
  obtain ⟨c, r, hl0⟩ : ∃ c r, l = c :: r := by cases l with | nil => exact absurd rfl h1 | cons c r => exact ⟨c, r, rfl⟩
  have hlen : 1 ≤ l.length := by rw [hl0]; simp
  have hfm : firstM l = if letB c then wordM l else if digB c then numM1 l else if c.toNat = 34 then textM1 l else if c.toNat = 64 then timeM l else signM l := by rw [hl0]; rfl
  have hix : ∀ w, (Instr.index 9 (.string (st l)) (.int .i64 0)).run Tryz.prog w = .ok (.int .u8 (c.toNat : Int)) w := fun w => run_index_st w l 0 c (by rw [hl0]; rfl)
  have hb : ∀ o, Below w.heap.size w (w.alloc o) := fun o => (Below.refl _ _).alloc (Nat.le_refl _) _
  have HWd := Lib.hid (fun o => readWord_any (w.alloc o) l hl)
  have HNm := Lib.hid (fun o => readNumber_any (w.alloc o) (hw.below (hb o)) l hl)
  have HTx := Lib.hid (fun o => readText_any (w.alloc o) l hlen hl)
  have HTm := Lib.hid (fun o => readTime_any (w.alloc o) (hw.below (hb o)) l hl hlen (by have := digM_le (l.drop 1); rw [List.length_drop] at this; omega))
  have HSg := Lib.hid (fun o => readSign_any (w.alloc o) (hw.below (hb o)) l)
  have HL := Lib.hid (fun o => isLetter_any (w.alloc o) c)
  have HD := Lib.hid (fun o => isDigit_any (w.alloc o) c)
  have HB := Lib.hid hb
  rw [hfm]
  have d34 := deqi c.toNat 34
  have d64 := deqi c.toNat 64
  obtain ⟨s, hs⟩ : ∃ s, st l = s := ⟨_, rfl⟩
  rw [hs] at HWd HNm HTx HTm HSg hix
  rw [hs]
  obtain ⟨bl, hbl⟩ : ∃ b, letB c = b := ⟨_, rfl⟩
  rw [hbl] at HL
  rw [hbl]
  obtain ⟨bd, hbd⟩ : ∃ b, digB c = b := ⟨_, rfl⟩
  rw [hbd] at HD
  rw [hbd]
  clear hfm hl0 h1 hb hw hs hbl hbd
  cases bl with
  | true =>
    simp only [if_true]
    clear HNm HTx HTm HSg HD
    obtain ⟨⟨⟨tk, l1, tn⟩, m⟩, hX⟩ : ∃ X, wordM l = X := ⟨_, rfl⟩
    rw [hX] at HWd
    rw [hX]
    unfold Tk.val Tk.cells at *
    dsimp only at *
    obtain ⟨ts, hts⟩ : ∃ ts, st l1 = ts := ⟨_, rfl⟩
    rw [hts] at HWd
    rw [hts]
    clear hX hts
    go_enter Tryz.func52, Tryz.ntmps52
    go_wp2_with fail
    refine (HL.out _).mono ?_
    rintro e w' ⟨rfl, rfl⟩
    go_wp2_with fail
    refine (HWd.out _).mono ?_
    rintro e w2 ⟨rfl, hb2⟩
    have HB2 := Lib.hid ((HB.out _).trans (hb2.mono (by simp)))
    have HG2 := Lib.hid ((hb2.block w.heap.size (by simp)).trans (heap_alloc_new w _))
    clear hb2 HWd
    go_wp2_with (refine store_tok rfl (.tmp 2) (.tmp 12) rfl rfl w.heap.size rfl tk ts tn rfl HG2.out ?_)
    intro w3 hg3 hk3
    have HG3 := Lib.hid hg3
    have HB3 := Lib.hid (Kept1.mono HB2.out hk3 (Nat.le_refl _))
    clear hg3 hk3
    go_wp2_with fail
    exact bodyPost_ret (results_cell_slot Tryz.results52 _ _ (w.heap.size) 41 #[.int .i64 tk, .string ts, .int .i64 tn] (0, 0) _ rfl (HG3.out) Tryz.underlying41 rfl info_tok (.int .i64 (m : Int)) rfl) rfl ⟨rfl, HB3.out⟩
  | false =>
    simp only [Bool.false_eq_true, if_false]
    clear HWd
    cases bd with
    | true =>
      simp only [if_true]
      clear HTx HTm HSg
      obtain ⟨⟨⟨tk, l1, tn⟩, m⟩, hX⟩ : ∃ X, numM1 l = X := ⟨_, rfl⟩
      rw [hX] at HNm
      rw [hX]
      unfold Tk.val Tk.cells at *
      dsimp only at *
      obtain ⟨ts, hts⟩ : ∃ ts, st l1 = ts := ⟨_, rfl⟩
      rw [hts] at HNm
      rw [hts]
      clear hX hts
      go_enter Tryz.func52, Tryz.ntmps52
      go_wp2_with fail
      refine (HL.out _).mono ?_
      rintro e w' ⟨rfl, rfl⟩
      go_wp2_with fail
      refine (HD.out _).mono ?_
      rintro e w' ⟨rfl, rfl⟩
      go_wp2_with fail
      refine (HNm.out _).mono ?_
      rintro e w2 ⟨rfl, hb2⟩
      have HB2 := Lib.hid ((HB.out _).trans (hb2.mono (by simp)))
      have HG2 := Lib.hid ((hb2.block w.heap.size (by simp)).trans (heap_alloc_new w _))
      clear hb2 HNm
      go_wp2_with (refine store_tok rfl (.tmp 2) (.tmp 19) rfl rfl w.heap.size rfl tk ts tn rfl HG2.out ?_)
      intro w3 hg3 hk3
      have HG3 := Lib.hid hg3
      have HB3 := Lib.hid (Kept1.mono HB2.out hk3 (Nat.le_refl _))
      clear hg3 hk3
      go_wp2_with fail
      exact bodyPost_ret (results_cell_slot Tryz.results52 _ _ (w.heap.size) 41 #[.int .i64 tk, .string ts, .int .i64 tn] (0, 0) _ rfl (HG3.out) Tryz.underlying41 rfl info_tok (.int .i64 (m : Int)) rfl) rfl ⟨rfl, HB3.out⟩
    | false =>
      simp only [Bool.false_eq_true, if_false]
      clear HNm
      by_cases h34 : c.toNat = 34
      · rw [if_pos h34]
        rw [decide_eq_true h34] at d34
        have d34 : ((c.toNat : Int) == 34) = true := d34
        clear h34 HTm HSg d64
        obtain ⟨⟨⟨tk, l1, tn⟩, m⟩, hX⟩ : ∃ X, textM1 l = X := ⟨_, rfl⟩
        rw [hX] at HTx
        rw [hX]
        unfold Tk.val Tk.cells at *
        dsimp only at *
        obtain ⟨ts, hts⟩ : ∃ ts, st l1 = ts := ⟨_, rfl⟩
        rw [hts] at HTx
        rw [hts]
        clear hX hts
        go_enter Tryz.func52, Tryz.ntmps52
        go_wp2_with fail
        refine (HL.out _).mono ?_
        rintro e w' ⟨rfl, rfl⟩
        go_wp2_with fail
        refine (HD.out _).mono ?_
        rintro e w' ⟨rfl, rfl⟩
        go_wp2_with fail
        refine (HTx.out _).mono ?_
        rintro e w2 ⟨rfl, hb2⟩
        have HB2 := Lib.hid ((HB.out _).trans (hb2.mono (by simp)))
        have HG2 := Lib.hid ((hb2.block w.heap.size (by simp)).trans (heap_alloc_new w _))
        clear hb2 HTx
        go_wp2_with (refine store_tok rfl (.tmp 2) (.tmp 26) rfl rfl w.heap.size rfl tk ts tn rfl HG2.out ?_)
        intro w3 hg3 hk3
        have HG3 := Lib.hid hg3
        have HB3 := Lib.hid (Kept1.mono HB2.out hk3 (Nat.le_refl _))
        clear hg3 hk3
        go_wp2_with fail
        exact bodyPost_ret (results_cell_slot Tryz.results52 _ _ (w.heap.size) 41 #[.int .i64 tk, .string ts, .int .i64 tn] (0, 0) _ rfl (HG3.out) Tryz.underlying41 rfl info_tok (.int .i64 (m : Int)) rfl) rfl ⟨rfl, HB3.out⟩
      · rw [if_neg h34]
        rw [decide_eq_false h34] at d34
        have d34 : ((c.toNat : Int) == 34) = false := d34
        clear h34 HTx
        by_cases h64 : c.toNat = 64
        · rw [if_pos h64]
          rw [decide_eq_true h64] at d64
          have d64 : ((c.toNat : Int) == 64) = true := d64
          clear h64 HSg
          obtain ⟨⟨⟨tk, l1, tn⟩, m⟩, hX⟩ : ∃ X, timeM l = X := ⟨_, rfl⟩
          rw [hX] at HTm
          rw [hX]
          unfold Tk.val Tk.cells at *
          dsimp only at *
          obtain ⟨ts, hts⟩ : ∃ ts, st l1 = ts := ⟨_, rfl⟩
          rw [hts] at HTm
          rw [hts]
          clear hX hts
          go_enter Tryz.func52, Tryz.ntmps52
          go_wp2_with fail
          refine (HL.out _).mono ?_
          rintro e w' ⟨rfl, rfl⟩
          go_wp2_with fail
          refine (HD.out _).mono ?_
          rintro e w' ⟨rfl, rfl⟩
          go_wp2_with fail
          refine (HTm.out _).mono ?_
          rintro e w2 ⟨rfl, hb2⟩
          have HB2 := Lib.hid ((HB.out _).trans (hb2.mono (by simp)))
          have HG2 := Lib.hid ((hb2.block w.heap.size (by simp)).trans (heap_alloc_new w _))
          clear hb2 HTm
          go_wp2_with (refine store_tok rfl (.tmp 2) (.tmp 33) rfl rfl w.heap.size rfl tk ts tn rfl HG2.out ?_)
          intro w3 hg3 hk3
          have HG3 := Lib.hid hg3
          have HB3 := Lib.hid (Kept1.mono HB2.out hk3 (Nat.le_refl _))
          clear hg3 hk3
          go_wp2_with fail
          exact bodyPost_ret (results_cell_slot Tryz.results52 _ _ (w.heap.size) 41 #[.int .i64 tk, .string ts, .int .i64 tn] (0, 0) _ rfl (HG3.out) Tryz.underlying41 rfl info_tok (.int .i64 (m : Int)) rfl) rfl ⟨rfl, HB3.out⟩
        · rw [if_neg h64]
          rw [decide_eq_false h64] at d64
          have d64 : ((c.toNat : Int) == 64) = false := d64
          clear h64 HTm
          obtain ⟨⟨⟨tk, l1, tn⟩, m⟩, hX⟩ : ∃ X, signM l = X := ⟨_, rfl⟩
          rw [hX] at HSg
          rw [hX]
          unfold Tk.val Tk.cells at *
          dsimp only at *
          obtain ⟨ts, hts⟩ : ∃ ts, st l1 = ts := ⟨_, rfl⟩
          rw [hts] at HSg
          rw [hts]
          clear hX hts
          go_enter Tryz.func52, Tryz.ntmps52
          go_wp2_with fail
          refine (HL.out _).mono ?_
          rintro e w' ⟨rfl, rfl⟩
          go_wp2_with fail
          refine (HD.out _).mono ?_
          rintro e w' ⟨rfl, rfl⟩
          go_wp2_with fail
          refine (HSg.out _).mono ?_
          rintro e w2 ⟨rfl, hb2⟩
          have HB2 := Lib.hid ((HB.out _).trans (hb2.mono (by simp)))
          have HG2 := Lib.hid ((hb2.block w.heap.size (by simp)).trans (heap_alloc_new w _))
          clear hb2 HSg
          go_wp2_with (refine store_tok rfl (.tmp 2) (.tmp 37) rfl rfl w.heap.size rfl tk ts tn rfl HG2.out ?_)
          intro w3 hg3 hk3
          have HG3 := Lib.hid hg3
          have HB3 := Lib.hid (Kept1.mono HB2.out hk3 (Nat.le_refl _))
          clear hg3 hk3
          go_wp2_with fail
          exact bodyPost_ret (results_cell_slot Tryz.results52 _ _ (w.heap.size) 41 #[.int .i64 tk, .string ts, .int .i64 tn] (0, 0) _ rfl (HG3.out) Tryz.underlying41 rfl info_tok (.int .i64 (m : Int)) rfl) rfl ⟨rfl, HB3.out⟩
end Go.Proofs.YtllgodaphoncnaaGreatDoor
