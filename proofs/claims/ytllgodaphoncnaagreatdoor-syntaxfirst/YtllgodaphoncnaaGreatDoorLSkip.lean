/- Blanks, line feeds and comments are passed by. -/
import Derived.Test.YtllgodaphoncnaaGreatDoorLFirst
namespace Go.Proofs.YtllgodaphoncnaaGreatDoor
open Go.RowKit

set_option maxRecDepth 100000 in
theorem index_cut (l : List UInt8) : (Lib.indexByte l 10 = -1 ∧ cutL l = []) ∨ ∃ k : Nat, k < l.length ∧ Lib.indexByte l 10 = (k : Int) ∧ cutL l = l.drop (k + 1) := by
  induction l with
  | nil => exact .inl ⟨rfl, rfl⟩
  | cons c l ih =>
    unfold Lib.indexByte cutL
    by_cases h : c = 10
    · subst h
      exact .inr ⟨0, by simp, by simp, by simp⟩
    · have hb : (c == 10) = false := by simpa using h
      have hn : ¬ c.toNat = 10 := fun e => h (by
        have : c.toNat = (10 : UInt8).toNat := e
        exact UInt8.toNat_inj.1 this)
      rw [if_neg hn, hb]
      rcases ih with ⟨h1, h2⟩ | ⟨k, hk, h1, h2⟩
      · left
        rw [h1]
        exact ⟨rfl, h2⟩
      · right
        refine ⟨k + 1, by simp only [List.length_cons]; omega, ?_, by rw [h2]; rfl⟩
        rw [h1]
        have : ((k : Int) == -1) = false := by rw [beq_eq_false_iff_ne]; omega
        simp [this]
set_option maxRecDepth 100000 in
set_option maxHeartbeats 1000000 in
theorem cut_lite (w : World) (l : List UInt8) (hl : l.length ≤ 1000000) :
    Calls Tryz.prog 107 #[.string (st l), .string ⟨#[10]⟩] w fun e w' => ∃ bf fd, e = .returned (.tuple #[.string bf, .string (st (cutL l)), .bool fd]) ∧ Below w.heap.size w w' := by
  have hI := Any.stringslite_Index_one lays219 (st l) 10 w
  have hd : (st l).data.toList = l := by simp [st]
  rw [hd] at hI
  have hsz := size_st l
  rcases index_cut l with ⟨h1, h2⟩ | ⟨k, hk, h1, h2⟩
  · rw [h1] at hI
    rw [h2]
    have HI := Lib.hid hI
    clear hI h1 h2 hd
    obtain ⟨s, hs⟩ : ∃ s, st l = s := ⟨_, rfl⟩
    rw [hs] at HI hsz ⊢
    clear hs
    go_enter Tryz.func107, Tryz.ntmps107
    go_wp2_with fail
    refine HI.out.mono ?_
    rintro e w' ⟨rfl, rfl⟩
    go_wp2_with fail
    exact bodyPost_ret (v := .tuple #[.string s, .string (st []), .bool false]) (by simp [results, Tryz.results107, go_sem]; rfl) rfl ⟨s, false, rfl, Below.refl _ _⟩
  · rw [h1] at hI
    rw [h2]
    have HI := Lib.hid hI
    have hhi := fun w => run_slice_hi w l k (by omega)
    have hlo := fun w => run_slice_lo w l (k + 1) (by omega)
    clear hI h1 h2 hd
    obtain ⟨s, hs⟩ : ∃ s, st l = s := ⟨_, rfl⟩
    rw [hs] at HI hsz hhi hlo ⊢
    obtain ⟨a, ha⟩ : ∃ a, st (l.take k) = a := ⟨_, rfl⟩
    rw [ha] at hhi
    obtain ⟨b, hb⟩ : ∃ b, st (l.drop (k + 1)) = b := ⟨_, rfl⟩
    rw [hb] at hlo ⊢
    have hlo : ∀ w, (Instr.sliceAt 9 (.string s) (some (.int .i64 ((k : Int) + 1))) none none).run Tryz.prog w = .ok (.string b) w := hlo
    have d : decide ((0 : Int) ≤ (k : Int)) = true := by simp
    clear hs ha hb
    go_enter Tryz.func107, Tryz.ntmps107
    go_wp2_with fail
    refine HI.out.mono ?_
    rintro e w' ⟨rfl, rfl⟩
    go_wp2_with fail
    go_quiet (fail)
    go_wp2_with fail
    exact bodyPost_ret (v := .tuple #[.string a, .string b, .bool true]) (by simp [results, Tryz.results107, go_sem]) rfl ⟨a, true, rfl, below_drewN (Below.refl _ _) _⟩
set_option maxRecDepth 100000 in
set_option maxHeartbeats 1000000 in
theorem cut_any (w : World) (l : List UInt8) (hl : l.length ≤ 1000000) :
    Calls Tryz.prog 71 #[.string (st l), .string ⟨#[10]⟩] w fun e w' => ∃ bf fd, e = .returned (.tuple #[.string bf, .string (st (cutL l)), .bool fd]) ∧ Below w.heap.size w w' := by
  have HC := Lib.hid (cut_lite w l hl)
  obtain ⟨s, hs⟩ : ∃ s, st l = s := ⟨_, rfl⟩
  rw [hs] at HC ⊢
  obtain ⟨c, hc⟩ : ∃ c, st (cutL l) = c := ⟨_, rfl⟩
  rw [hc] at HC ⊢
  clear hs hc
  go_enter Tryz.func71, Tryz.ntmps71
  go_wp2_with fail
  refine HC.out.mono ?_
  rintro e w' ⟨bf, fd, rfl, hb⟩
  have HB := Lib.hid hb
  clear hb HC
  go_wp2_with fail
  exact bodyPost_ret (v := .tuple #[.string bf, .string c, .bool fd]) (by simp [results, Tryz.results71, go_sem]) rfl ⟨bf, fd, rfl, HB.out⟩
set_option maxRecDepth 100000 in
theorem beq8 (b c : UInt8) : (b == c) = decide (b.toNat = c.toNat) := by
  by_cases h : b = c
  · subst h; simp
  · have h1 : ¬ b.toNat = c.toNat := fun e => h (UInt8.toNat_inj.1 e)
    rw [decide_eq_false h1]; simpa using h
def blkB (b : UInt8) : Bool := decide (b.toNat = 32) || decide (b.toNat = 10)
set_option maxRecDepth 100000 in
theorem trim_any (w : World) (l : List UInt8) : Calls Tryz.prog 69 #[.string (st l), .string ⟨#[32, 10]⟩] w fun e w' => e = .returned (.string (st (l.dropWhile blkB))) ∧ Below w.heap.size w w' := by
  have h := Any.strings_TrimLeft_laid lays161 (by kernel_rfl) (st l) ⟨#[32, 10]⟩ w (by decide) (ascii_of_all (by decide))
  have hd : (st l).data.toList = l := by simp [st]
  have e : Lib.trimLeftS l [32, 10] = l.dropWhile blkB := by
    unfold Lib.trimLeftS
    congr 1
    funext b
    simp only [List.contains_cons, List.contains_nil, Bool.or_false, blkB, beq8]
    rfl
  rw [hd] at h
  refine h.mono ?_
  rintro ex w' ⟨rfl, hb⟩
  refine ⟨?_, hb⟩
  show Ending.returned (.string (st (Lib.trimLeftS l [32, 10]))) = _
  rw [e]
set_option maxRecDepth 100000 in
theorem skipB_trim (l : List UInt8) : skipB false (l.dropWhile blkB) = skipB false l := by
  induction l with
  | nil => rfl
  | cons c l ih =>
    rw [List.dropWhile_cons]
    by_cases h : blkB c = true
    · rw [if_pos h, ih]
      have : c.toNat = 32 ∨ c.toNat = 10 := by simpa [blkB] using h
      rw [skipB, if_pos this]
    · rw [if_neg h]
set_option maxRecDepth 100000 in
theorem skipB_com (l : List UInt8) : skipB true l = skipB false (cutL l) := by
  induction l with
  | nil => rfl
  | cons c l ih =>
    rw [skipB, cutL]
    by_cases h : c.toNat = 10
    · rw [if_pos h, decide_eq_true h]; rfl
    · rw [if_neg h, decide_eq_false h, ← ih]; rfl
set_option maxRecDepth 100000 in
theorem skipB_hash (c : UInt8) (l : List UInt8) (h : c.toNat = 35) : skipB false (c :: l) = skipB false (cutL (c :: l)) := by
  rw [skipB, if_neg (by omega), if_pos h, skipB_com, cutL, if_neg (by omega)]
set_option maxRecDepth 100000 in
theorem skipB_stop {l : List UInt8} (h : ∀ c r, l = c :: r → blkB c = false ∧ c.toNat ≠ 35) : skipB false l = l := by
  cases l with
  | nil => rfl
  | cons c r =>
    obtain ⟨h1, h2⟩ := h c r rfl
    have h3 : ¬ (c.toNat = 32 ∨ c.toNat = 10) := by simpa [blkB] using h1
    rw [skipB, if_neg h3, if_neg h2]
set_option maxRecDepth 100000 in
theorem dropWhile_head (l : List UInt8) : ∀ c r, l.dropWhile blkB = c :: r → blkB c = false := by
  induction l with
  | nil => intro c r h; cases h
  | cons a l ih =>
    intro c r h
    rw [List.dropWhile_cons] at h
    by_cases ha : blkB a = true
    · rw [if_pos ha] at h; exact ih c r h
    · rw [if_neg ha] at h
      obtain ⟨rfl, _⟩ := List.cons.inj h
      simpa using ha
set_option maxRecDepth 100000 in
theorem dropWhile_le (l : List UInt8) : (l.dropWhile blkB).length ≤ l.length := by
  induction l with
  | nil => simp
  | cons a l ih =>
    rw [List.dropWhile_cons]
    split
    · simp; omega
    · exact Nat.le_refl _
set_option maxRecDepth 100000 in
theorem cutL_lt (l : List UInt8) (h : l ≠ []) : (cutL l).length < l.length := by
  induction l with
  | nil => exact absurd rfl h
  | cons c l ih =>
    rw [cutL]
    split
    · simp
    · by_cases hl : l = []
      · subst hl; simp [cutL]
      · have := ih hl; simp; omega
set_option maxRecDepth 100000 in
theorem prefix_hash (l : List UInt8) : ([35] : List UInt8).isPrefixOf l = true ↔ ∃ r, l = 35 :: r := by
  cases l with
  | nil => simp [List.isPrefixOf]
  | cons c r =>
    constructor
    · intro h
      have : (35 : UInt8) = c := by simpa [List.isPrefixOf] using h
      exact ⟨r, by rw [this]⟩
    · rintro ⟨r', h⟩
      obtain ⟨rfl, _⟩ := List.cons.inj h
      simp [List.isPrefixOf]
set_option maxRecDepth 100000 in
set_option maxHeartbeats 1000000 in
theorem skip_any (w : World) (l : List UInt8) (hl : l.length ≤ 1000000) :
    Calls Tryz.prog 51 #[.string (st l)] w fun e w' => e = .returned (.string (st (skipB false l))) ∧ Below w.heap.size w w' := by
  go_enter Tryz.func51, Tryz.ntmps51
  go_wp2_with fail
  go_loopw [0] (fun s wr => ∃ r : List UInt8, s = .string (st r) ∧ r.length ≤ l.length ∧ skipB false r = skipB false l ∧ Below w.heap.size w wr) (fun s _ => match s with | .string s => s.size | _ => 0)
  case atStart => exact ⟨l, rfl, Nat.le_refl _, rfl, Below.refl _ _⟩
  case round =>
    obtain ⟨r, rfl, hr, heq, hb⟩ := hrel
    have HT := Lib.hid (trim_any wr r)
    have hle := dropWhile_le r
    have hsk := skipB_trim r
    have hhd := dropWhile_head r
    rw [heq] at hsk
    have HB := Lib.hid hb
    clear hb heq
    obtain ⟨d, hd⟩ : ∃ d, r.dropWhile blkB = d := ⟨_, rfl⟩
    rw [hd] at HT hle hsk hhd
    have HSk := Lib.hid hsk
    have HHd := Lib.hid hhd
    have hsr := size_st r
    obtain ⟨s, hs⟩ : ∃ s, st r = s := ⟨_, rfl⟩
    rw [hs] at HT hsr
    rw [hs]
    clear hd hsk hhd hs
    go_wp2_with fail
    refine HT.out.mono ?_
    rintro e w2 ⟨rfl, hb2⟩
    have HB2 := Lib.hid (HB.out.trans (hb2.mono HB.out.size))
    have HP := Lib.hid (hasPrefix_any w2 d [35])
    have HC := Lib.hid (cut_any w2 d (by omega))
    have HPh := Lib.hid (prefix_hash d)
    have hsd := size_st d
    obtain ⟨sd, hsd2⟩ : ∃ s, st d = s := ⟨_, rfl⟩
    rw [hsd2] at HP HC hsd
    rw [hsd2]
    have HSd := Lib.hid hsd2
    obtain ⟨b, hbb⟩ : ∃ b, ([35] : List UInt8).isPrefixOf d = b := ⟨_, rfl⟩
    rw [hbb] at HP HPh
    clear hb2 HT hsd2 hbb
    go_wp2_with fail
    refine HP.out.mono ?_
    rintro e w' ⟨rfl, rfl⟩
    cases b with
    | true =>
      obtain ⟨r', hr'⟩ := HPh.out.1 rfl
      have hcl := cutL_lt d (by rw [hr']; simp)
      have hsc := skipB_hash 35 r' rfl
      rw [← hr'] at hsc
      have HSc := Lib.hid (hsc.symm.trans HSk.out)
      clear hr' hsc
      have hsc2 := size_st (cutL d)
      go_wp2_with fail
      refine HC.out.mono ?_
      rintro e w3 ⟨bf, fd, rfl, hb3⟩
      have HB3 := Lib.hid (HB2.out.trans (hb3.mono HB2.out.size))
      clear hb3 HC
      go_wp2_with fail
      go_roundw
      case rel => exact ⟨cutL d, rfl, by omega, HSc.out, HB3.out⟩
      case measure => simp; omega
    | false =>
      have hst := skipB_stop (l := d) fun c r' h => ⟨HHd.out c r' h, fun h35 => by
        have : (false : Bool) = true := HPh.out.2 ⟨r', by rw [h]; congr 1; exact UInt8.toNat_inj.1 h35⟩
        cases this⟩
      go_wp2_with fail
      go_ret
      exact ⟨by rw [← HSd.out, ← hst, HSk.out]; rfl, HB2.out⟩
end Go.Proofs.YtllgodaphoncnaaGreatDoor
