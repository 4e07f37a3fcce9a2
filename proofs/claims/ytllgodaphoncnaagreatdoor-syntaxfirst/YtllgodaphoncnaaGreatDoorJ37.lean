/- Blanks, line feeds and comments are passed by; First tokens: what they are like. Rows of tokens. -/
import Derived.Test.YtllgodaphoncnaaGreatDoorJ36
namespace Go.Proofs.YtllgodaphoncnaaGreatDoor
open Go.RowKit

set_option maxRecDepth 100000 in
theorem index_cut (l : List UInt8) : (Lib.indexByte l 10 = -1 ∧ cutL l = []) ∨ ∃ k : Nat, k < l.length ∧ Lib.indexByte l 10 = (k : Int) ∧ cutL l = l.drop (k + 1) := by
  induction l with
  | nil => exact .inl ⟨rfl, rfl⟩
  | cons c l ih =>
    unfold Lib.indexByte cutL
    by_cases h : c = 10
    · subst h
      exact .inr ⟨0, by simp, by simp, by simp⟩
    · have hb : (c == 10) = false := by simpa using h
      have hn : ¬ c.toNat = 10 := fun e => h (by
        have : c.toNat = (10 : UInt8).toNat := e
        exact UInt8.toNat_inj.1 this)
      rw [if_neg hn, hb]
      rcases ih with ⟨h1, h2⟩ | ⟨k, hk, h1, h2⟩
      · left
        rw [h1]
        exact ⟨rfl, h2⟩
      · right
        refine ⟨k + 1, by simp only [List.length_cons]; omega, ?_, by rw [h2]; rfl⟩
        rw [h1]
        have : ((k : Int) == -1) = false := by rw [beq_eq_false_iff_ne]; omega
        simp [this]
set_option maxRecDepth 100000 in
set_option maxHeartbeats 1000000 in
theorem cut_lite (w : World) (l : List UInt8) (hl : l.length ≤ 1000000) :
    Calls Tryz.prog 107 #[.string (st l), .string ⟨#[10]⟩] w fun e w' => ∃ bf fd, e = .returned (.tuple #[.string bf, .string (st (cutL l)), .bool fd]) ∧ Below w.heap.size w w' := by
  have hI := Any.stringslite_Index_one lays219 (st l) 10 w
  have hd : (st l).data.toList = l := by simp [st]
  rw [hd] at hI
  have hsz := size_st l
  rcases index_cut l with ⟨h1, h2⟩ | ⟨k, hk, h1, h2⟩
  · rw [h1] at hI
    rw [h2]
    have HI := Lib.hid hI
    clear hI h1 h2 hd
    obtain ⟨s, hs⟩ : ∃ s, st l = s := ⟨_, rfl⟩
    rw [hs] at HI hsz ⊢
    clear hs
    go_enter Tryz.func107, Tryz.ntmps107
    go_wp2_with fail
    refine HI.out.mono ?_
    rintro e w' ⟨rfl, rfl⟩
    go_wp2_with fail
    exact bodyPost_ret (v := .tuple #[.string s, .string (st []), .bool false]) (by simp [results, Tryz.results107, go_sem]; rfl) rfl ⟨s, false, rfl, Below.refl _ _⟩
  · rw [h1] at hI
    rw [h2]
    have HI := Lib.hid hI
    have hhi := fun w => run_slice_hi w l k (by omega)
    have hlo := fun w => run_slice_lo w l (k + 1) (by omega)
    clear hI h1 h2 hd
    obtain ⟨s, hs⟩ : ∃ s, st l = s := ⟨_, rfl⟩
    rw [hs] at HI hsz hhi hlo ⊢
    obtain ⟨a, ha⟩ : ∃ a, st (l.take k) = a := ⟨_, rfl⟩
    rw [ha] at hhi
    obtain ⟨b, hb⟩ : ∃ b, st (l.drop (k + 1)) = b := ⟨_, rfl⟩
    rw [hb] at hlo ⊢
    have hlo : ∀ w, (Instr.sliceAt 9 (.string s) (some (.int .i64 ((k : Int) + 1))) none none).run Tryz.prog w = .ok (.string b) w := hlo
    have d : decide ((0 : Int) ≤ (k : Int)) = true := by simp
    clear hs ha hb
    go_enter Tryz.func107, Tryz.ntmps107
    go_wp2_with fail
    refine HI.out.mono ?_
    rintro e w' ⟨rfl, rfl⟩
    go_wp2_with fail
    go_quiet (fail)
    go_wp2_with fail
    exact bodyPost_ret (v := .tuple #[.string a, .string b, .bool true]) (by simp [results, Tryz.results107, go_sem]) rfl ⟨a, true, rfl, below_drewN (Below.refl _ _) _⟩
set_option maxRecDepth 100000 in
set_option maxHeartbeats 1000000 in
theorem cut_any (w : World) (l : List UInt8) (hl : l.length ≤ 1000000) :
    Calls Tryz.prog 71 #[.string (st l), .string ⟨#[10]⟩] w fun e w' => ∃ bf fd, e = .returned (.tuple #[.string bf, .string (st (cutL l)), .bool fd]) ∧ Below w.heap.size w w' := by
  have HC := Lib.hid (cut_lite w l hl)
  obtain ⟨s, hs⟩ : ∃ s, st l = s := ⟨_, rfl⟩
  rw [hs] at HC ⊢
  obtain ⟨c, hc⟩ : ∃ c, st (cutL l) = c := ⟨_, rfl⟩
  rw [hc] at HC ⊢
  clear hs hc
  go_enter Tryz.func71, Tryz.ntmps71
  go_wp2_with fail
  refine HC.out.mono ?_
  rintro e w' ⟨bf, fd, rfl, hb⟩
  have HB := Lib.hid hb
  clear hb HC
  go_wp2_with fail
  exact bodyPost_ret (v := .tuple #[.string bf, .string c, .bool fd]) (by simp [results, Tryz.results71, go_sem]) rfl ⟨bf, fd, rfl, HB.out⟩
set_option maxRecDepth 100000 in
theorem beq8 (b c : UInt8) : (b == c) = decide (b.toNat = c.toNat) := by
  by_cases h : b = c
  · subst h; simp
  · have h1 : ¬ b.toNat = c.toNat := fun e => h (UInt8.toNat_inj.1 e)
    rw [decide_eq_false h1]; simpa using h
def blkB (b : UInt8) : Bool := decide (b.toNat = 32) || decide (b.toNat = 10)
set_option maxRecDepth 100000 in
theorem trim_any (w : World) (l : List UInt8) : Calls Tryz.prog 69 #[.string (st l), .string ⟨#[32, 10]⟩] w fun e w' => e = .returned (.string (st (l.dropWhile blkB))) ∧ Below w.heap.size w w' := by
  have h := Any.strings_TrimLeft_laid lays161 (by kernel_rfl) (st l) ⟨#[32, 10]⟩ w (by decide) (ascii_of_all (by decide))
  have hd : (st l).data.toList = l := by simp [st]
  have e : Lib.trimLeftS l [32, 10] = l.dropWhile blkB := by
    unfold Lib.trimLeftS
    congr 1
    funext b
    simp only [List.contains_cons, List.contains_nil, Bool.or_false, blkB, beq8]
    rfl
  rw [hd] at h
  refine h.mono ?_
  rintro ex w' ⟨rfl, hb⟩
  refine ⟨?_, hb⟩
  show Ending.returned (.string (st (Lib.trimLeftS l [32, 10]))) = _
  rw [e]
set_option maxRecDepth 100000 in
theorem skipB_trim (l : List UInt8) : skipB false (l.dropWhile blkB) = skipB false l := by
  induction l with
  | nil => rfl
  | cons c l ih =>
    rw [List.dropWhile_cons]
    by_cases h : blkB c = true
    · rw [if_pos h, ih]
      have : c.toNat = 32 ∨ c.toNat = 10 := by simpa [blkB] using h
      rw [skipB, if_pos this]
    · rw [if_neg h]
set_option maxRecDepth 100000 in
theorem skipB_com (l : List UInt8) : skipB true l = skipB false (cutL l) := by
  induction l with
  | nil => rfl
  | cons c l ih =>
    rw [skipB, cutL]
    by_cases h : c.toNat = 10
    · rw [if_pos h, decide_eq_true h]; rfl
    · rw [if_neg h, decide_eq_false h, ← ih]; rfl
set_option maxRecDepth 100000 in
theorem skipB_hash (c : UInt8) (l : List UInt8) (h : c.toNat = 35) : skipB false (c :: l) = skipB false (cutL (c :: l)) := by
  rw [skipB, if_neg (by omega), if_pos h, skipB_com, cutL, if_neg (by omega)]
set_option maxRecDepth 100000 in
theorem skipB_stop {l : List UInt8} (h : ∀ c r, l = c :: r → blkB c = false ∧ c.toNat ≠ 35) : skipB false l = l := by
  cases l with
  | nil => rfl
  | cons c r =>
    obtain ⟨h1, h2⟩ := h c r rfl
    have h3 : ¬ (c.toNat = 32 ∨ c.toNat = 10) := by simpa [blkB] using h1
    rw [skipB, if_neg h3, if_neg h2]
set_option maxRecDepth 100000 in
theorem dropWhile_head (l : List UInt8) : ∀ c r, l.dropWhile blkB = c :: r → blkB c = false := by
  induction l with
  | nil => intro c r h; cases h
  | cons a l ih =>
    intro c r h
    rw [List.dropWhile_cons] at h
    by_cases ha : blkB a = true
    · rw [if_pos ha] at h; exact ih c r h
    · rw [if_neg ha] at h
      obtain ⟨rfl, _⟩ := List.cons.inj h
      simpa using ha
set_option maxRecDepth 100000 in
theorem dropWhile_le (l : List UInt8) : (l.dropWhile blkB).length ≤ l.length := by
  induction l with
  | nil => simp
  | cons a l ih =>
    rw [List.dropWhile_cons]
    split
    · simp; omega
    · exact Nat.le_refl _
set_option maxRecDepth 100000 in
theorem cutL_lt (l : List UInt8) (h : l ≠ []) : (cutL l).length < l.length := by
  induction l with
  | nil => exact absurd rfl h
  | cons c l ih =>
    rw [cutL]
    split
    · simp
    · by_cases hl : l = []
      · subst hl; simp [cutL]
      · have := ih hl; simp; omega
set_option maxRecDepth 100000 in
theorem prefix_hash (l : List UInt8) : ([35] : List UInt8).isPrefixOf l = true ↔ ∃ r, l = 35 :: r := by
  cases l with
  | nil => simp [List.isPrefixOf]
  | cons c r =>
    constructor
    · intro h
      have : (35 : UInt8) = c := by simpa [List.isPrefixOf] using h
      exact ⟨r, by rw [this]⟩
    · rintro ⟨r', h⟩
      obtain ⟨rfl, _⟩ := List.cons.inj h
      simp [List.isPrefixOf]
set_option maxRecDepth 100000 in
set_option maxHeartbeats 1000000 in
theorem skip_any (w : World) (l : List UInt8) (hl : l.length ≤ 1000000) :
    Calls Tryz.prog 51 #[.string (st l)] w fun e w' => e = .returned (.string (st (skipB false l))) ∧ Below w.heap.size w w' := by
  go_enter Tryz.func51, Tryz.ntmps51
  go_wp2_with fail
  go_loopw [0] (fun s wr => ∃ r : List UInt8, s = .string (st r) ∧ r.length ≤ l.length ∧ skipB false r = skipB false l ∧ Below w.heap.size w wr) (fun s _ => match s with | .string s => s.size | _ => 0)
  case atStart => exact ⟨l, rfl, Nat.le_refl _, rfl, Below.refl _ _⟩
  case round =>
    obtain ⟨r, rfl, hr, heq, hb⟩ := hrel
    have HT := Lib.hid (trim_any wr r)
    have hle := dropWhile_le r
    have hsk := skipB_trim r
    have hhd := dropWhile_head r
    rw [heq] at hsk
    have HB := Lib.hid hb
    clear hb heq
    obtain ⟨d, hd⟩ : ∃ d, r.dropWhile blkB = d := ⟨_, rfl⟩
    rw [hd] at HT hle hsk hhd
    have HSk := Lib.hid hsk
    have HHd := Lib.hid hhd
    have hsr := size_st r
    obtain ⟨s, hs⟩ : ∃ s, st r = s := ⟨_, rfl⟩
    rw [hs] at HT hsr
    rw [hs]
    clear hd hsk hhd hs
    go_wp2_with fail
    refine HT.out.mono ?_
    rintro e w2 ⟨rfl, hb2⟩
    have HB2 := Lib.hid (HB.out.trans (hb2.mono HB.out.size))
    have HP := Lib.hid (hasPrefix_any w2 d [35])
    have HC := Lib.hid (cut_any w2 d (by omega))
    have HPh := Lib.hid (prefix_hash d)
    have hsd := size_st d
    obtain ⟨sd, hsd2⟩ : ∃ s, st d = s := ⟨_, rfl⟩
    rw [hsd2] at HP HC hsd
    rw [hsd2]
    have HSd := Lib.hid hsd2
    obtain ⟨b, hbb⟩ : ∃ b, ([35] : List UInt8).isPrefixOf d = b := ⟨_, rfl⟩
    rw [hbb] at HP HPh
    clear hb2 HT hsd2 hbb
    go_wp2_with fail
    refine HP.out.mono ?_
    rintro e w' ⟨rfl, rfl⟩
    cases b with
    | true =>
      obtain ⟨r', hr'⟩ := HPh.out.1 rfl
      have hcl := cutL_lt d (by rw [hr']; simp)
      have hsc := skipB_hash 35 r' rfl
      rw [← hr'] at hsc
      have HSc := Lib.hid (hsc.symm.trans HSk.out)
      clear hr' hsc
      have hsc2 := size_st (cutL d)
      go_wp2_with fail
      refine HC.out.mono ?_
      rintro e w3 ⟨bf, fd, rfl, hb3⟩
      have HB3 := Lib.hid (HB2.out.trans (hb3.mono HB2.out.size))
      clear hb3 HC
      go_wp2_with fail
      go_roundw
      case rel => exact ⟨cutL d, rfl, by omega, HSc.out, HB3.out⟩
      case measure => simp; omega
    | false =>
      have hst := skipB_stop (l := d) fun c r' h => ⟨HHd.out c r' h, fun h35 => by
        have : (false : Bool) = true := HPh.out.2 ⟨r', by rw [h]; congr 1; exact UInt8.toNat_inj.1 h35⟩
        cases this⟩
      go_wp2_with fail
      go_ret
      exact ⟨by rw [← HSd.out, ← hst, HSk.out]; rfl, HB2.out⟩
end Go.Proofs.YtllgodaphoncnaaGreatDoor
namespace Go.Proofs.YtllgodaphoncnaaGreatDoor
open Go.RowKit

set_option maxRecDepth 100000 in
theorem parse_bd {l : List UInt8} {v : Int} (h : Lib.parseIntB 64 l = .ok v) : -9223372036854775808 ≤ v ∧ v ≤ 9223372036854775807 := by
  unfold Lib.parseIntB at h
  split at h
  · cases h
  · dsimp only at h
    split at h
    · cases h
    · cases h
    · split at h
      · cases h
      · split at h
        · cases h
        · rename_i u hu h1 h2
          injection h with h
          subst h
          split
          · rename_i h3; simp [h3] at h2; omega
          · rename_i h3; simp [h3] at h1; omega
set_option maxRecDepth 100000 in
theorem digM_bd (l : List UInt8) : -9223372036854775808 ≤ (digM l).1 ∧ (digM l).1 ≤ 9223372036854775807 := by
  unfold digM
  dsimp only
  split
  · exact ⟨by simp, by simp⟩
  · split
    · rename_i h; exact parse_bd h
    · exact ⟨by simp, by simp⟩
set_option maxRecDepth 100000 in
theorem inM_le : ∀ (f : Nat) (l : List UInt8), l.length ≤ f → ∀ x n, inM l = some (x, n) → n ≤ l.length ∧ x.length ≤ l.length
  | 0, l, hf, x, n, h => by
    obtain rfl : l = [] := List.eq_nil_of_length_eq_zero (by omega)
    rw [inM_nil] at h; cases h
  | f + 1, [], _, x, n, h => by rw [inM_nil] at h; cases h
  | f + 1, c :: l, hf, x, n, h => by
    simp only [List.length_cons] at hf
    by_cases h1 : c.toNat = 34
    · rw [inM_quote _ _ h1] at h
      injection h with h
      injection h with ha hb
      subst ha hb
      simp
    · by_cases h2 : c.toNat = 92
      · cases l with
        | nil => rw [inM_end _ h2] at h; cases h
        | cons d l =>
          rw [inM_esc _ _ _ h2] at h
          split at h
          · cases hi : inM l with
            | none => rw [hi] at h; cases h
            | some y =>
              rw [hi] at h
              obtain ⟨a, b⟩ := inM_le f l (by simp at hf; omega) y.1 y.2 hi
              simp only [Option.map_some, Option.some.injEq, Prod.mk.injEq] at h
              obtain ⟨rfl, rfl⟩ := h
              simp; omega
          · cases h
      · rw [inM_plain _ _ h1 h2] at h
        cases hi : inM l with
        | none => rw [hi] at h; cases h
        | some y =>
          rw [hi] at h
          obtain ⟨a, b⟩ := inM_le f l (by omega) y.1 y.2 hi
          simp only [Option.map_some, Option.some.injEq, Prod.mk.injEq] at h
          obtain ⟨rfl, rfl⟩ := h
          simp; omega
set_option maxRecDepth 100000 in
theorem fsign_mem (l : List UInt8) : fsign l = [] ∨ (fsign l ∈ signsL ∧ (fsign l).isPrefixOf l = true) := by
  unfold fsign
  cases h : signsL.find? (·.isPrefixOf l) with
  | none => exact .inl rfl
  | some x => exact .inr ⟨List.mem_of_find?_eq_some h, by simpa using List.find?_some h⟩
set_option maxRecDepth 100000 in
theorem prefix_len {a b : List UInt8} (h : a.isPrefixOf b = true) : a.length ≤ b.length := (List.isPrefixOf_iff_prefix.1 h).length_le
set_option maxRecDepth 100000 in
theorem fsign_le (l : List UInt8) : (fsign l).length ≤ l.length := by
  rcases fsign_mem l with h | ⟨_, h⟩
  · rw [h]; exact Nat.zero_le _
  · exact prefix_len h
set_option maxRecDepth 100000 in
theorem okTk (k : Int) (s : List UInt8) (n : Int) (hk : 0 ≤ k ∧ k ≤ 5) (hn : -9223372036854775808 ≤ n ∧ n ≤ 9223372036854775807) (hs : s.length ≤ 1000000) : Tk.Ok ⟨k, s, n⟩ := ⟨by show _ ≤ k; omega, by show k ≤ _; omega, hn.1, hn.2, hs⟩
set_option maxRecDepth 100000 in
theorem ok_noTk : noTk.Ok := ⟨by decide, by decide, by decide, by decide, by decide⟩
set_option maxRecDepth 100000 in
theorem firstM_all (l : List UInt8) (hl : l.length ≤ 1000000) : (firstM l).1.Ok ∧ (firstM l).2 ≤ l.length ∧ (formB (firstM l).1 = true → 1 ≤ (firstM l).2) := by
  have hno : formB noTk = true → False := by decide
  cases l with
  | nil => exact ⟨ok_noTk, Nat.le_refl _, fun h => (hno h).elim⟩
  | cons c r =>
    obtain ⟨l, hll⟩ : ∃ l, c :: r = l := ⟨_, rfl⟩
    have hlen : 1 ≤ l.length := by rw [← hll]; simp
    have e : firstM l = if letB c then wordM l else if digB c then numM1 l else if c.toNat = 34 then textM1 l else if c.toNat = 64 then timeM l else signM l := by rw [← hll]; rfl
    rw [hll] at hl ⊢
    rw [e]
    split
    · rename_i hc
      have h1 := runN_le innB l
      have h2 : 1 ≤ runN innB l := by
        rw [← hll, runN_cons, if_pos (by simp [innB, hc])]; omega
      unfold wordM
      exact ⟨okTk 1 _ 0 (by decide) (by decide) (by rw [List.length_take]; omega), h1, fun _ => h2⟩
    · split
      · have h1 := digM_le l
        have h2 := digM_bd l
        unfold numM1
        split
        · exact ⟨ok_noTk, Nat.zero_le _, fun h => (hno h).elim⟩
        · exact ⟨okTk 2 [] _ (by decide) h2 (by decide), h1, fun _ => by show 1 ≤ (digM l).2; omega⟩
      · split
        · unfold textM1
          split
          · rename_i x n hi
            have := inM_le _ (l.drop 1) (Nat.le_refl _) x n hi
            rw [List.length_drop] at this
            exact ⟨okTk 3 x 0 (by decide) (by decide) (by omega), by show n + 1 ≤ _; omega, fun _ => by show 1 ≤ n + 1; omega⟩
          · exact ⟨ok_noTk, Nat.zero_le _, fun h => (hno h).elim⟩
        · split
          · have h1 := digM_le (l.drop 1)
            rw [List.length_drop] at h1
            have h2 := digM_bd (l.drop 1)
            unfold timeM
            split
            · exact ⟨ok_noTk, Nat.zero_le _, fun h => (hno h).elim⟩
            · exact ⟨okTk 4 [] _ (by decide) h2 (by decide), by show 1 + (digM (l.drop 1)).2 ≤ _; omega, fun _ => by show 1 ≤ 1 + (digM (l.drop 1)).2; omega⟩
          · have h1 := fsign_le l
            unfold signM
            refine ⟨okTk 5 _ 0 (by decide) (by decide) (by omega), h1, fun h => ?_⟩
            have h2 : signB (fsign l) = true := by
              have : formB ⟨5, fsign l, 0⟩ = signB (fsign l) := by simp [formB]
              rw [← this]; exact h
            show 1 ≤ (fsign l).length
            cases hf : fsign l with
            | nil => rw [hf] at h2; cases h2
            | cons _ _ => simp
set_option maxRecDepth 100000 in
theorem skipB_le (b : Bool) (l : List UInt8) : (skipB b l).length ≤ l.length := by
  induction l generalizing b with
  | nil => cases b <;> simp [skipB]
  | cons c l ih =>
    cases b with
    | true => rw [skipB]; have := ih (!decide (c.toNat = 10)); simp; omega
    | false =>
      rw [skipB]
      split
      · have := ih false; simp; omega
      · split
        · have := ih true; simp; omega
        · exact Nat.le_refl _
set_option maxRecDepth 100000 in
theorem rangeL {w : World} {g : Nat} {L : List Value} {t : TypeId} {fr : Nat × Nat} (h : w.heap[g]? = some (.cells L.toArray t fr)) : w.rangeAt g 0 L := fun j v hv => by
  rw [Nat.zero_add, cell_block h]; simpa using hv
def cellsT (ts : List Tk) : List Value := (ts.map Tk.cells).flatten
set_option maxRecDepth 100000 in
theorem length_cellsT (ts : List Tk) : (cellsT ts).length = ts.length * 3 := by
  induction ts with
  | nil => rfl
  | cons t ts ih =>
    show (t.cells ++ cellsT ts).length = _
    rw [List.length_append, ih]
    simp [Tk.cells]; omega
set_option maxRecDepth 100000 in
theorem cellsT_snoc (ts : List Tk) (t : Tk) : cellsT (ts ++ [t]) = cellsT ts ++ t.cells := by simp [cellsT]
/-- a row of one's own of these tokens -/
structure OwnT (w : World) (N : Nat) (v : Value) (ts : List Tk) : Prop where
  row : w.ownsRow N 41 3 v ts.length (cellsT ts)
set_option maxRecDepth 100000 in
theorem OwnT.below {w w' : World} {N : Nat} {v : Value} {ts : List Tk} (h : OwnT w N v ts) (hb : Below w.heap.size w w') : OwnT w' N v ts := by
  obtain ⟨h1, h2⟩ := h.row
  refine ⟨⟨h1, ?_⟩⟩
  rcases h2 with h2 | ⟨g, cap, cur, e, hg, hc, rest⟩
  · exact .inl h2
  · exact .inr ⟨g, cap, cur, e, hg, (hb.block g (lt_block hc)).trans hc, rest⟩
set_option maxRecDepth 100000 in
theorem OwnT.nil (w : World) (N : Nat) : OwnT w N (.slice none 0 0) [] := ⟨World.ownsRow_nil _ _ _ _⟩
set_option maxRecDepth 100000 in
theorem OwnT.shape {w : World} {N : Nat} {v : Value} {ts : List Tk} (h : OwnT w N v ts) : ∃ ad cp, v = .slice ad ts.length cp := by
  rcases h.row.2 with ⟨rfl, hn⟩ | ⟨g, cap, cur, rfl, _⟩
  · exact ⟨none, 0, by rw [hn]⟩
  · exact ⟨_, _, rfl⟩
set_option maxRecDepth 100000 in
theorem info_tok3 : (Tryz.prog.info? 41).map (fun i => (i.zero, i.size, i.bytes)) = some (some (.agg #[.int .i64 0, .string (st []), .int .i64 0]), 3, 32) := by kernel_rfl
set_option maxRecDepth 100000 in
/-- one token more -/
theorem append_tok {ops : Array Oper} {rest : List Oper} {o : Oper} {a : Act} {w : World} {Q : Exit → Act → World → Prop} (hgd : o.guard = none) (s x : Operand)
    (ho : o.op = .call { callee := .builtin .append, args := #[s, x], argTypes := #[30, 30] })
    (N : Nat) (v : Value) (ts : List Tk) (hs : a.eval s = v) (t : Tk) (g cp : Nat) (hx : a.eval x = .slice (some ⟨g, 0, none⟩) 1 cp) (hg : w.heap[g]? = some (.cells t.cells.toArray 41 (0, 0))) (hown : OwnT w N v ts) (hlen : ts.length ≤ 1000000) (hN : N ≤ w.heap.size)
    (k : ∀ v' w', OwnT w' N v' (ts ++ [t]) → Below N w w' → wpList Tryz.prog ops Q rest (a.put o.dst v') w') : wpList Tryz.prog ops Q (o :: rest) a w := by
  obtain ⟨i, hi, hz, hsz, hby⟩ := info_parts info_tok3
  refine wpList_append_own_wide w hgd s x 30 ho N 41 i _ 3 32 Tryz.underlying30 hi hz hsz hby rfl (by omega) v ts.length (cellsT ts) hs hown.row ⟨g, 0, none⟩ 1 cp t.cells hx (by simp [Tk.cells]) (fun j u hj => by
    rw [Addr.add_mid, Nat.zero_add, cell_block hg]
    simpa using hj) (fun u hu => by
      simp only [Tk.cells, List.mem_cons, List.not_mem_nil, or_false] at hu
      rcases hu with rfl | rfl | rfl <;> rfl) (by unfold maxLen; omega) (by omega) hN ?_
  intro v' w' hown'' hgr _
  exact k v' w' ⟨by rw [List.length_append, cellsT_snoc]; exact hown''⟩ ((Below.refl N w).grown hgr hN (fun b hb => (hown.row.lt b hb).1))
end Go.Proofs.YtllgodaphoncnaaGreatDoor
