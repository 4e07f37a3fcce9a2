/- The reference: how long what begins goes on. -/
import Derived.Test.YtcmnfbjlhdfmgaaDoorLRefVal
namespace Go.Proofs.YtcmnfbjlhdfmgaaDoor
open Go.RowKit

/-- how far a text goes on up to its quote -/
def qlen : List UInt8 → Nat
  | [] => 0
  | c :: l => if c.toNat = 34 then 0 else if c.toNat = 92 then match l with
    | [] => 2
    | _ :: l => qlen l + 2
    else qlen l + 1
/-- how long what begins with c goes on -/
def lenR (c : UInt8) (r : List UInt8) : Nat :=
  if letB c then 1 + runN innB r
  else if digB c || decide (c.toNat = 64) then
    if ∃ d, r[runN digB r]? = some d ∧ (letB d = true ∨ d.toNat = 95) then 0 else 1 + runN digB r
  else if c.toNat = 34 then if 1 + r.length < 2 + qlen r then 0 else 2 + qlen r
  else if signB ((c :: r).take 2) && decide (0 < r.length) then 2 else 1
set_option maxRecDepth 100000 in
theorem qlen_nil : qlen [] = 0 := rfl
set_option maxRecDepth 100000 in
theorem qlen_quote (c : UInt8) (l : List UInt8) (h : c.toNat = 34) : qlen (c :: l) = 0 := by rw [qlen.eq_def]; simp [h]
set_option maxRecDepth 100000 in
theorem qlen_end (c : UInt8) (h : c.toNat = 92) : qlen [c] = 2 := by rw [qlen.eq_def]; simp [h]
set_option maxRecDepth 100000 in
theorem qlen_esc (c d : UInt8) (l : List UInt8) (h : c.toNat = 92) : qlen (c :: d :: l) = qlen l + 2 := by rw [qlen.eq_def]; simp [h]
set_option maxRecDepth 100000 in
theorem qlen_plain (c : UInt8) (l : List UInt8) (h : c.toNat ≠ 34) (h2 : c.toNat ≠ 92) : qlen (c :: l) = qlen l + 1 := by rw [qlen.eq_def]; simp [h, h2]
set_option maxRecDepth 100000 in
theorem qlen_le : ∀ (f : Nat) (l : List UInt8), l.length ≤ f → qlen l ≤ l.length + 1
  | _, [], _ => by simp [qlen_nil]
  | 0, c :: l, h => by simp at h
  | f + 1, c :: l, h => by
    simp only [List.length_cons] at h
    by_cases h1 : c.toNat = 34
    · rw [qlen_quote _ _ h1]; omega
    · by_cases h2 : c.toNat = 92
      · cases l with
        | nil => rw [qlen_end _ h2]; simp
        | cons d l =>
          rw [qlen_esc _ _ _ h2]
          simp only [List.length_cons] at h ⊢
          have := qlen_le f l (by omega)
          omega
      · rw [qlen_plain _ _ h1 h2]
        have := qlen_le f l (by omega)
        simp only [List.length_cons]
        omega
set_option maxRecDepth 100000 in
theorem qlen_step (r : List UInt8) (j : Nat) (b : UInt8) (h : r[j]? = some b) : r.drop j = b :: r.drop (j + 1) := by
  obtain ⟨h1, rfl⟩ := List.getElem?_eq_some_iff.1 h
  exact List.drop_eq_getElem_cons h1
set_option maxRecDepth 100000 in
set_option maxHeartbeats 8000000 in
theorem length_ref (w : World) (c : UInt8) (r : List UInt8) (hl : r.length ≤ 100000) :
    Calls Tryd.prog 20 #[.string (st (c :: r))] w fun e w' => e = .returned (.int .i64 (lenR c r : Int)) ∧ Below w.heap.size w w' := by
  have hsz := size_st (c :: r)
  rw [List.length_cons] at hsz
  have HLe := Lib.hid (letter_any)
  have HDi := Lib.hid (digit_any)
  have h0 := fun w => run_index_st w (c :: r) 0 c rfl
  have HI := Lib.hid (fun (w : World) (j : Nat) (b : UInt8) (h : r[j]? = some b) => show (Instr.index 9 (.string (st (c :: r))) (.int .i64 ((j : Int) + 1))).run Tryd.prog w = .ok (.int .u8 (b.toNat : Int)) w from run_index_st w (c :: r) (j + 1) b (by simpa using h))
  obtain ⟨R, hR⟩ : ∃ R, lenR c r = R := ⟨_, rfl⟩
  rw [hR]
  unfold lenR at hR
  have HS2 := Lib.hid (fun w => run_slice_hi w (c :: r) 2)
  have HSg := Lib.hid (fun w => sign_any w ((c :: r).take 2))
  obtain ⟨s, hs⟩ : ∃ s, st (c :: r) = s := ⟨_, rfl⟩
  rw [hs] at hsz h0 HI HS2 ⊢
  clear hs
  have h0' : ∀ w, (Instr.index 9 (.string s) (.int .i64 0)).run Tryd.prog w = .ok (.int .u8 (c.toNat : Int)) w := h0
  clear h0
  obtain ⟨bl, hbl⟩ : ∃ b, letB c = b := ⟨_, rfl⟩
  obtain ⟨bd, hbd⟩ : ∃ b, digB c = b := ⟨_, rfl⟩
  have HLc := HLe.out w c
  have HDc := HDi.out w c
  rw [hbl] at hR HLc
  rw [hbd] at hR HDc
  clear hbl hbd
  cases bl with
  | true =>
    rw [if_pos rfl] at hR
    have HRR := Lib.hid hR
    have HLE := Lib.hid (runN_le innB r)
    have HAT := Lib.hid (runN_at innB r)
    clear hR HS2 HSg HDc
    go_enter Tryd.func20, Tryd.ntmps20
    go_wp2_with fail
    refine HLc.mono ?_
    rintro e w' ⟨rfl, rfl⟩
    clear HLc
    go_wp2_with fail
    go_loopw [3] (fun n wr => ∃ j : Nat, j ≤ runN innB r ∧ n = .int .i64 ((j : Int) + 1) ∧ wr = w) (fun n _ => r.length + 1 - (intOf n).toNat)
    case atStart => exact ⟨0, by omega, rfl, rfl⟩
    case round =>
      obtain ⟨j, hj, rfl, rfl⟩ := hrel
      have hle := HLE.out
      by_cases hlt : j < r.length
      · have dlt : decide ((j : Int) + 1 < (r.length : Int) + 1) = true := decide_eq_true (by omega)
        have dltP : (j < r.length) = True := eq_true hlt
        obtain ⟨b, hb⟩ : ∃ b, r[j]? = some b := ⟨r[j], List.getElem?_eq_getElem hlt⟩
        have hix := fun w => HI.out w j b hb
        have HAt := Lib.hid (HAT.out j hj b hb)
        clear hb
        have hlb := HLe.out wr b
        have hdb := HDi.out wr b
        have hin : innB b = (letB b || (digB b || decide (b.toNat = 95))) := rfl
        obtain ⟨x, hx⟩ : ∃ x, letB b = x := ⟨_, rfl⟩
        obtain ⟨y, hy⟩ : ∃ y, digB b = y := ⟨_, rfl⟩
        obtain ⟨z, hz⟩ : ∃ z, decide (b.toNat = 95) = z := ⟨_, rfl⟩
        have hz2 : ((b.toNat : Int) == 95) = z := by
          rw [← hz]
          by_cases h : b.toNat = 95
          · rw [h]; rfl
          · rw [decide_eq_false h]; simp; omega
        rw [hx, hy, hz] at hin
        rw [hx] at hlb
        rw [hy] at hdb
        have HLb := Lib.hid hlb
        have HDb := Lib.hid hdb
        have HIn := Lib.hid hin
        clear hx hy hz hlb hdb hin
        go_wp2_with fail
        refine HLb.out.mono ?_
        rintro e w' ⟨rfl, rfl⟩
        cases x with
        | true =>
          have HJ : Hid (j < runN innB r) := Lib.hid (HAt.out.1 (by rw [HIn.out]; rfl))
          clear HAt HIn HLb HDb hz2
          go_wp2_with fail
          go_roundw
          case rel => exact ⟨j + 1, HJ.out, by go_num, by first | rfl | trivial⟩
          case measure => simp [intOf]; omega
        | false =>
          go_wp2_with fail
          refine HDb.out.mono ?_
          rintro e w' ⟨rfl, rfl⟩
          cases y with
          | true =>
            have HJ : Hid (j < runN innB r) := Lib.hid (HAt.out.1 (by rw [HIn.out]; rfl))
            clear HAt HIn HLb HDb hz2
            go_wp2_with fail
            go_roundw
            case rel => exact ⟨j + 1, HJ.out, by go_num, by first | rfl | trivial⟩
            case measure => simp [intOf]; omega
          | false =>
            cases z with
            | true =>
              have HJ : Hid (j < runN innB r) := Lib.hid (HAt.out.1 (by rw [HIn.out]; rfl))
              clear HAt HIn HLb HDb
              go_wp2_with fail
              go_roundw
              case rel => exact ⟨j + 1, HJ.out, by go_num, by first | rfl | trivial⟩
              case measure => simp [intOf]; omega
            | false =>
              have HJ : Hid (j = runN innB r) := Lib.hid (by
                have h1 : innB b = false := by rw [HIn.out]; rfl
                have h2 := fun h => HAt.out.2 h
                rw [h1] at h2
                rcases Nat.lt_or_ge j (runN innB r) with h | h
                · cases h2 h
                · omega)
              clear HAt HIn HLb HDb
              go_wp2_with fail
              go_ret
              exact ⟨by rw [← HRR.out, ← HJ.out, Nat.add_comm]; rfl, Below.refl _ _⟩
      · have dlt : decide ((j : Int) + 1 < (r.length : Int) + 1) = false := decide_eq_false (by omega)
        have dltP : (j < r.length) = False := eq_false hlt
        have HJ : Hid (j = runN innB r) := Lib.hid (by omega)
        go_wp2_with fail
        go_ret
        exact ⟨by rw [← HRR.out, ← HJ.out, Nat.add_comm]; rfl, Below.refl _ _⟩
  | false =>
    rw [if_neg (by decide)] at hR
    go_enter Tryd.func20, Tryd.ntmps20
    go_wp2_with fail
    refine HLc.mono ?_
    rintro e w' ⟨rfl, rfl⟩
    clear HLc
    go_wp2_with fail
    refine HDc.mono ?_
    rintro e w' ⟨rfl, rfl⟩
    clear HDc
    cases bd with
    | true =>
      rw [Bool.true_or, if_pos rfl] at hR
      have HRR := Lib.hid hR
      have HLE := Lib.hid (runN_le digB r)
      have HAT := Lib.hid (runN_at digB r)
      clear hR HS2 HSg
      go_wp2_with fail
      go_loopw [3] (fun n wr => ∃ j : Nat, j ≤ runN digB r ∧ n = .int .i64 ((j : Int) + 1) ∧ wr = w) (fun n _ => r.length + 1 - (intOf n).toNat)
      case atStart => exact ⟨0, by omega, rfl, rfl⟩
      case round =>
        obtain ⟨j, hj, rfl, rfl⟩ := hrel
        have hle := HLE.out
        by_cases hlt : j < r.length
        · have dlt : decide ((j : Int) + 1 < (r.length : Int) + 1) = true := decide_eq_true (by omega)
          have dltP : (j < r.length) = True := eq_true hlt
          obtain ⟨b, hb⟩ : ∃ b, r[j]? = some b := ⟨r[j], List.getElem?_eq_getElem hlt⟩
          have HB := Lib.hid hb
          have hix := fun w => HI.out w j b hb
          have HAt := Lib.hid (HAT.out j hj b hb)
          clear hb
          have hlb := HLe.out wr b
          have hdb := HDi.out wr b
          obtain ⟨x, hx⟩ : ∃ x, letB b = x := ⟨_, rfl⟩
          obtain ⟨y, hy⟩ : ∃ y, digB b = y := ⟨_, rfl⟩
          obtain ⟨z, hz⟩ : ∃ z, decide (b.toNat = 95) = z := ⟨_, rfl⟩
          have hz2 : ((b.toNat : Int) == 95) = z := by
            rw [← hz]
            by_cases h : b.toNat = 95
            · rw [h]; rfl
            · rw [decide_eq_false h]; simp; omega
          rw [hx] at hlb
          rw [hy] at hdb
          have HLb := Lib.hid hlb
          have HDb := Lib.hid hdb
          have HX := Lib.hid hx
          have HY := Lib.hid hy
          have HZ := Lib.hid hz
          clear hx hy hz hlb hdb
          go_wp2_with fail
          refine HDb.out.mono ?_
          rintro e w' ⟨rfl, rfl⟩
          cases y with
          | true =>
            have HJ : Hid (j < runN digB r) := Lib.hid (HAt.out.1 HY.out)
            clear HAt HLb HDb hz2
            go_wp2_with fail
            go_roundw
            case rel => exact ⟨j + 1, HJ.out, by go_num, by first | rfl | trivial⟩
            case measure => simp [intOf]; omega
          | false =>
            have HJ : Hid (j = runN digB r) := Lib.hid (by
              have h2 := fun h => HAt.out.2 h
              rw [HY.out] at h2
              rcases Nat.lt_or_ge j (runN digB r) with h | h
              · cases h2 h
              · omega)
            go_wp2_with fail
            refine HLb.out.mono ?_
            rintro e w' ⟨rfl, rfl⟩
            cases x with
            | true =>
              have HF : Hid (R = 0) := Lib.hid (by rw [← HRR.out, if_pos ⟨b, by rw [← HJ.out]; exact HB.out, .inl HX.out⟩])
              clear HAt HLb HDb hz2
              go_wp2_with fail
              go_ret
              exact ⟨by rw [HF.out]; rfl, Below.refl _ _⟩
            | false =>
              cases z with
              | true =>
                have HF : Hid (R = 0) := Lib.hid (by rw [← HRR.out, if_pos ⟨b, by rw [← HJ.out]; exact HB.out, .inr (of_decide_eq_true HZ.out)⟩])
                clear HAt HLb HDb
                go_wp2_with fail
                go_ret
                exact ⟨by rw [HF.out]; rfl, Below.refl _ _⟩
              | false =>
                have HF : Hid (R = 1 + j) := Lib.hid (by
                  rw [← HRR.out, if_neg, ← HJ.out]
                  rintro ⟨d, h1, h2⟩
                  rw [← HJ.out, HB.out] at h1
                  obtain rfl : b = d := Option.some.inj h1
                  rcases h2 with h2 | h2
                  · rw [HX.out] at h2; cases h2
                  · exact absurd h2 (of_decide_eq_false HZ.out))
                clear HAt HLb HDb
                go_wp2_with fail
                go_ret
                exact ⟨by rw [HF.out, Nat.add_comm]; rfl, Below.refl _ _⟩
        · have dlt : decide ((j : Int) + 1 < (r.length : Int) + 1) = false := decide_eq_false (by omega)
          have dltP : (j < r.length) = False := eq_false hlt
          have HF : Hid (R = 1 + j) := Lib.hid (by
            have HJ : j = runN digB r := by omega
            rw [← HRR.out, if_neg, ← HJ]
            rintro ⟨d, h1, h2⟩
            rw [List.getElem?_eq_none (by omega)] at h1
            cases h1)
          go_wp2_with fail
          go_ret
          exact ⟨by rw [HF.out, Nat.add_comm]; rfl, Below.refl _ _⟩
    | false =>
      rw [Bool.false_or] at hR
      by_cases h64 : c.toNat = 64
      · have d64 : ((c.toNat : Int) == 64) = true := by rw [h64]; rfl
        rw [if_pos (decide_eq_true h64)] at hR
        clear h64
        have HRR := Lib.hid hR
        have HLE := Lib.hid (runN_le digB r)
        have HAT := Lib.hid (runN_at digB r)
        clear hR HS2 HSg
        go_wp2_with fail
        go_loopw [3] (fun n wr => ∃ j : Nat, j ≤ runN digB r ∧ n = .int .i64 ((j : Int) + 1) ∧ wr = w) (fun n _ => r.length + 1 - (intOf n).toNat)
        case atStart => exact ⟨0, by omega, rfl, rfl⟩
        case round =>
          obtain ⟨j, hj, rfl, rfl⟩ := hrel
          have hle := HLE.out
          by_cases hlt : j < r.length
          · have dlt : decide ((j : Int) + 1 < (r.length : Int) + 1) = true := decide_eq_true (by omega)
            have dltP : (j < r.length) = True := eq_true hlt
            obtain ⟨b, hb⟩ : ∃ b, r[j]? = some b := ⟨r[j], List.getElem?_eq_getElem hlt⟩
            have HB := Lib.hid hb
            have hix := fun w => HI.out w j b hb
            have HAt := Lib.hid (HAT.out j hj b hb)
            clear hb
            have hlb := HLe.out wr b
            have hdb := HDi.out wr b
            obtain ⟨x, hx⟩ : ∃ x, letB b = x := ⟨_, rfl⟩
            obtain ⟨y, hy⟩ : ∃ y, digB b = y := ⟨_, rfl⟩
            obtain ⟨z, hz⟩ : ∃ z, decide (b.toNat = 95) = z := ⟨_, rfl⟩
            have hz2 : ((b.toNat : Int) == 95) = z := by
              rw [← hz]
              by_cases h : b.toNat = 95
              · rw [h]; rfl
              · rw [decide_eq_false h]; simp; omega
            rw [hx] at hlb
            rw [hy] at hdb
            have HLb := Lib.hid hlb
            have HDb := Lib.hid hdb
            have HX := Lib.hid hx
            have HY := Lib.hid hy
            have HZ := Lib.hid hz
            clear hx hy hz hlb hdb
            go_wp2_with fail
            refine HDb.out.mono ?_
            rintro e w' ⟨rfl, rfl⟩
            cases y with
            | true =>
              have HJ : Hid (j < runN digB r) := Lib.hid (HAt.out.1 HY.out)
              clear HAt HLb HDb hz2
              go_wp2_with fail
              go_roundw
              case rel => exact ⟨j + 1, HJ.out, by go_num, by first | rfl | trivial⟩
              case measure => simp [intOf]; omega
            | false =>
              have HJ : Hid (j = runN digB r) := Lib.hid (by
                have h2 := fun h => HAt.out.2 h
                rw [HY.out] at h2
                rcases Nat.lt_or_ge j (runN digB r) with h | h
                · cases h2 h
                · omega)
              go_wp2_with fail
              refine HLb.out.mono ?_
              rintro e w' ⟨rfl, rfl⟩
              cases x with
              | true =>
                have HF : Hid (R = 0) := Lib.hid (by rw [← HRR.out, if_pos ⟨b, by rw [← HJ.out]; exact HB.out, .inl HX.out⟩])
                clear HAt HLb HDb hz2
                go_wp2_with fail
                go_ret
                exact ⟨by rw [HF.out]; rfl, Below.refl _ _⟩
              | false =>
                cases z with
                | true =>
                  have HF : Hid (R = 0) := Lib.hid (by rw [← HRR.out, if_pos ⟨b, by rw [← HJ.out]; exact HB.out, .inr (of_decide_eq_true HZ.out)⟩])
                  clear HAt HLb HDb
                  go_wp2_with fail
                  go_ret
                  exact ⟨by rw [HF.out]; rfl, Below.refl _ _⟩
                | false =>
                  have HF : Hid (R = 1 + j) := Lib.hid (by
                    rw [← HRR.out, if_neg, ← HJ.out]
                    rintro ⟨d, h1, h2⟩
                    rw [← HJ.out, HB.out] at h1
                    obtain rfl : b = d := Option.some.inj h1
                    rcases h2 with h2 | h2
                    · rw [HX.out] at h2; cases h2
                    · exact absurd h2 (of_decide_eq_false HZ.out))
                  clear HAt HLb HDb
                  go_wp2_with fail
                  go_ret
                  exact ⟨by rw [HF.out, Nat.add_comm]; rfl, Below.refl _ _⟩
          · have dlt : decide ((j : Int) + 1 < (r.length : Int) + 1) = false := decide_eq_false (by omega)
            have dltP : (j < r.length) = False := eq_false hlt
            have HF : Hid (R = 1 + j) := Lib.hid (by
              have HJ : j = runN digB r := by omega
              rw [← HRR.out, if_neg, ← HJ]
              rintro ⟨d, h1, h2⟩
              rw [List.getElem?_eq_none (by omega)] at h1
              cases h1)
            go_wp2_with fail
            go_ret
            exact ⟨by rw [HF.out, Nat.add_comm]; rfl, Below.refl _ _⟩
      · have d64 : ((c.toNat : Int) == 64) = false := by simp; omega
        rw [if_neg (by simpa using h64)] at hR
        clear h64
        by_cases h34 : c.toNat = 34
        · have d34 : ((c.toNat : Int) == 34) = true := by rw [h34]; rfl
          rw [if_pos h34] at hR
          have HRR := Lib.hid hR
          clear hR h34 HS2 HSg
          go_wp2_with fail
          go_loopw [3] (fun n wr => ∃ j : Nat, j ≤ r.length + 1 ∧ n = .int .i64 ((j : Int) + 1) ∧ qlen r = j + qlen (r.drop j) ∧ wr = w) (fun n _ => r.length + 2 - (intOf n).toNat)
          case atStart => exact ⟨0, by omega, rfl, by simp, rfl⟩
          case round =>
            obtain ⟨j, hj, rfl, hq, rfl⟩ := hrel
            have HQ := Lib.hid hq
            clear hq
            by_cases hlt : j < r.length
            · have dlt : decide ((j : Int) + 1 < (r.length : Int) + 1) = true := decide_eq_true (by omega)
              have dltP : (j < r.length) = True := eq_true hlt
              obtain ⟨b, hb⟩ : ∃ b, r[j]? = some b := ⟨r[j], List.getElem?_eq_getElem hlt⟩
              have hix := fun w => HI.out w j b hb
              have HDr := Lib.hid (qlen_step r j b hb)
              clear hb
              by_cases h4 : b.toNat = 34
              · have e4 : ((b.toNat : Int) == 34) = true := by rw [h4]; rfl
                have HF : Hid (R = 2 + j) := Lib.hid (by
                  have hq := HQ.out
                  rw [HDr.out, qlen_quote _ _ h4] at hq
                  rw [← HRR.out, hq, if_neg (by omega)]; omega)
                clear h4
                go_wp2_with fail
                go_ret
                exact ⟨by rw [HF.out, show 2 + j = j + 1 + 1 by omega]; rfl, Below.refl _ _⟩
              · have e4 : ((b.toNat : Int) == 34) = false := by simp; omega
                by_cases h9 : b.toNat = 92
                · have e9 : ((b.toNat : Int) == 92) = true := by rw [h9]; rfl
                  have HF : Hid (qlen r = (j + 2) + qlen (r.drop (j + 2))) := Lib.hid (by
                    have hq := HQ.out
                    rw [HDr.out] at hq
                    have hd : r.drop (j + 2) = (r.drop (j + 1)).drop 1 := by rw [List.drop_drop]
                    rw [hd]
                    cases hr : r.drop (j + 1) with
                    | nil => rw [hr, qlen_end _ h9] at hq; rw [hq]; rfl
                    | cons d l => rw [hr, qlen_esc _ _ _ h9] at hq; rw [hq, List.drop_succ_cons, List.drop_zero]; omega)
                  clear h4 h9
                  go_wp2_with fail
                  go_roundw
                  case rel => exact ⟨j + 2, by omega, by go_num, HF.out, by first | rfl | trivial⟩
                  case measure => simp [intOf]; omega
                · have e9 : ((b.toNat : Int) == 92) = false := by simp; omega
                  have HF : Hid (qlen r = (j + 1) + qlen (r.drop (j + 1))) := Lib.hid (by
                    have hq := HQ.out
                    rw [HDr.out, qlen_plain _ _ h4 h9] at hq
                    omega)
                  clear h4 h9
                  go_wp2_with fail
                  go_roundw
                  case rel => exact ⟨j + 1, by omega, by go_num, HF.out, by first | rfl | trivial⟩
                  case measure => simp [intOf]; omega
            · have dlt : decide ((j : Int) + 1 < (r.length : Int) + 1) = false := decide_eq_false (by omega)
              have dltP : (j < r.length) = False := eq_false hlt
              have HF : Hid (R = 0) := Lib.hid (by
                have hq := HQ.out
                rw [List.drop_eq_nil_of_le (by omega), qlen_nil] at hq
                rw [← HRR.out, hq, if_pos (by omega)])
              have dgt : decide ((r.length : Int) + 1 < (j : Int) + 1 + 1) = true := decide_eq_true (by omega)
              go_wp2_with fail
              go_ret
              exact ⟨by rw [HF.out]; rfl, Below.refl _ _⟩
        · have d34 : ((c.toNat : Int) == 34) = false := by simp; omega
          rw [if_neg h34] at hR
          clear h34
          by_cases h2 : 0 < r.length
          · have dlt : decide ((1 : Int) < (r.length : Int) + 1) = true := decide_eq_true (by omega)
            have dltP : (0 < r.length) = True := eq_true h2
            rw [decide_eq_true h2, Bool.and_true] at hR
            have hsl : ∀ w, (Instr.sliceAt 9 (.string s) none (some (.int .i64 2)) none).run Tryd.prog w = .ok (.string (st ((c :: r).take 2))) w := fun w => HS2.out w (by simp; omega)
            have HL1 := Lib.hid h2
            clear h2
            obtain ⟨z, hz⟩ : ∃ z, signB ((c :: r).take 2) = z := ⟨_, rfl⟩
            rw [hz] at HSg hR
            clear hz
            generalize st ((c :: r).take 2) = S2 at *
            have HRR := Lib.hid hR
            clear hR
            go_wp2_with fail
            refine (HSg.out w).mono ?_
            rintro e w2 ⟨rfl, hb2⟩
            have HB2 := Lib.hid hb2
            clear hb2 hsl
            cases z with
            | true =>
              have HF : Hid (R = 2) := Lib.hid (by rw [← HRR.out]; rfl)
              have dgt : decide ((r.length : Int) + 1 < 2) = false := decide_eq_false (by have := HL1.out; omega)
              have dgtP : (r.length + 1 < 2) = False := eq_false (by have := HL1.out; omega)
              go_wp2_with fail
              go_ret
              exact ⟨by rw [HF.out]; rfl, HB2.out⟩
            | false =>
              have HF : Hid (R = 1) := Lib.hid (by rw [← HRR.out]; rfl)
              go_wp2_with fail
              go_ret
              exact ⟨by rw [HF.out]; rfl, HB2.out⟩
          · have dlt : decide ((1 : Int) < (r.length : Int) + 1) = false := decide_eq_false (by omega)
            have dltP : (0 < r.length) = False := eq_false h2
            rw [decide_eq_false h2, Bool.and_false] at hR
            have HF : Hid (R = 1) := Lib.hid (by rw [← hR]; rfl)
            clear hR h2 HS2 HSg
            go_wp2_with fail
            go_ret
            exact ⟨by rw [HF.out]; rfl, Below.refl _ _⟩
end Go.Proofs.YtcmnfbjlhdfmgaaDoor
