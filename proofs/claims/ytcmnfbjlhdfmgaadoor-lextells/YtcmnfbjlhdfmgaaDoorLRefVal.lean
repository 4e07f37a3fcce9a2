/- The reference's numbers. -/
import Derived.Test.YtcmnfbjlhdfmgaaDoorLRefShow
namespace Go.Proofs.YtcmnfbjlhdfmgaaDoor
open Go.RowKit

def numL (acc : Nat) (l : List UInt8) : Nat := l.foldl (fun a c => a * 10 + (c.toNat - 48)) acc
def valOk (l : List UInt8) (m : Nat) : Bool := (decide (l.length ≤ 19) && l.all digB) && (decide (0 < l.length) && decide (numL 0 l ≤ m))
set_option maxRecDepth 100000 in
theorem numL_nil (acc : Nat) : numL acc [] = acc := rfl
set_option maxRecDepth 100000 in
theorem numL_cons (acc : Nat) (c : UInt8) (l : List UInt8) : numL acc (c :: l) = numL (acc * 10 + (c.toNat - 48)) l := by unfold numL; rw [List.foldl_cons]
set_option maxRecDepth 100000 in
theorem numL_snoc (c : UInt8) (l : List UInt8) (acc : Nat) : numL acc (l ++ [c]) = numL acc l * 10 + (c.toNat - 48) := by
  unfold numL
  rw [List.foldl_append, List.foldl_cons, List.foldl_nil]
set_option maxRecDepth 100000 in
theorem numL_lt (l : List UInt8) : ∀ (acc : Nat), l.all digB = true → numL acc l < (acc + 1) * 10 ^ l.length := by
  induction l with
  | nil => intro acc _; rw [numL_nil]; simp
  | cons c l ih =>
    intro acc h
    simp only [List.all_cons, Bool.and_eq_true, digB, decide_eq_true_eq] at h
    have h1 := ih (acc * 10 + (c.toNat - 48)) (by simpa [digB] using h.2)
    rw [numL_cons, List.length_cons, Nat.pow_succ]
    refine Nat.lt_of_lt_of_le h1 ?_
    rw [Nat.mul_comm (10 ^ l.length) 10, ← Nat.mul_assoc]
    exact Nat.mul_le_mul_right _ (by omega)
set_option maxRecDepth 100000 in
theorem numL_bd (l : List UInt8) (h : l.all digB = true) (hl : l.length ≤ 19) : numL 0 l < 10000000000000000000 := by
  have h1 := numL_lt l 0 h
  have h2 : (10 : Nat) ^ l.length ≤ 10 ^ 19 := Nat.pow_le_pow_right (by omega) hl
  have h3 : (10 : Nat) ^ 19 = 10000000000000000000 := by decide
  omega
set_option maxRecDepth 100000 in
set_option maxHeartbeats 2000000 in
theorem value_ref (w : World) (l : List UInt8) (hl : l.length ≤ 1000000) (m : Nat) (hm : m ≤ 9223372036854775807) :
    Calls Tryd.prog 41 #[.string (st l), .int .i64 (m : Int)] w fun e w' => ∃ (v : Int), e = .returned (.tuple #[.int .i64 v, .bool (valOk l m)]) ∧ (valOk l m = true → v = (numL 0 l : Int)) ∧ w = w' := by
  obtain ⟨R, hR⟩ : ∃ R, valOk l m = R := ⟨_, rfl⟩
  rw [hR]
  have HR := Lib.hid hR
  have HD := Lib.hid digit_any
  have hsz := size_st l
  have HI := Lib.hid (fun (w : World) (k : Nat) (c : UInt8) (h : l[k]? = some c) => run_index_st w l k c h)
  clear hR
  obtain ⟨s, hs⟩ : ∃ s, st l = s := ⟨_, rfl⟩
  rw [hs] at hsz HI ⊢
  clear hs
  go_enter Tryd.func41, Tryd.ntmps41
  go_wp2_with fail
  go_loopw [6, 7] (fun a i wr => ∃ k : Nat, k ≤ l.length ∧ k ≤ 19 ∧ i = .int .i64 (k : Int) ∧ a = .int .u64 (numL 0 (l.take k) : Int) ∧ (l.take k).all digB = true ∧ wr = w) (fun _ i _ => l.length - (intOf i).toNat)
  case atStart => exact ⟨0, by omega, by omega, rfl, rfl, rfl, rfl⟩
  case round =>
    obtain ⟨k, hk, hk1, rfl, rfl, ha, rfl⟩ := hrel
    have hbd := numL_bd (l.take k) ha (by rw [List.length_take]; omega)
    have HAll := Lib.hid ha
    clear ha
    by_cases hlt : k < l.length
    · have dlt : decide ((k : Int) < (l.length : Int)) = true := by simp; omega
      obtain ⟨c, hc⟩ : ∃ c, l[k]? = some c := ⟨l[k], List.getElem?_eq_getElem hlt⟩
      have hix := fun w => HI.out w k c hc
      have HT : Hid (l.take (k + 1) = l.take k ++ [c]) := Lib.hid (by rw [List.take_add_one, hc]; rfl)
      have HMem : Hid (c ∈ l) := Lib.hid (List.mem_of_getElem? hc)
      clear hc
      obtain ⟨b, hb⟩ : ∃ b, digB c = b := ⟨_, rfl⟩
      have HDc := HD.out wr c
      rw [hb] at HDc
      have HDc := Lib.hid HDc
      have HB := Lib.hid hb
      clear hb
      generalize hN : numL 0 (l.take k) = N at *
      have HN := Lib.hid hN
      clear hN
      go_wp2_with fail
      refine HDc.out.mono ?_
      rintro e w' ⟨rfl, rfl⟩
      cases b with
      | false =>
        have HF : Hid (R = false) := Lib.hid (by
          rw [← HR.out, valOk]
          have : l.all digB = false := by rw [List.all_eq_false]; exact ⟨c, HMem.out, by rw [HB.out]; decide⟩
          rw [this]; simp)
        go_wp2_with fail
        refine bodyPost_ret (v := .tuple #[.int .i64 0, .bool false]) (by simp [results, Tryd.results41, go_sem]) rfl ?_
        refine ⟨0, ?_, ?_, rfl⟩
        · rw [HF.out]
        · rw [HF.out]; intro h; cases h
      | true =>
        by_cases h19 : k < 19
        · have d19 : decide ((19 : Int) ≤ (k : Int)) = false := by simp; omega
          have HS : Hid (IntKind.u64.wrap (IntKind.u64.wrap ((N : Int) * 10) + ((c.toNat : Int) - 48) % 256) = (numL 0 (l.take (k + 1)) : Int) ∧ (l.take (k + 1)).all digB = true) := Lib.hid (by
            have hdg := HB.out
            simp only [digB, Bool.and_eq_true, decide_eq_true_eq] at hdg
            have hall : (l.take (k + 1)).all digB = true := by rw [HT.out, List.all_append, HAll.out]; simp [HB.out]
            have hb2 := numL_bd _ hall (by rw [List.length_take]; omega)
            rw [HT.out, numL_snoc, HN.out] at hb2 ⊢
            have hNlt : N * 10 < 18446744073709551616 := by omega
            have w1 : IntKind.u64.wrap ((N : Int) * 10) = (N : Int) * 10 := by rw [IntKind.wrap_u64]; omega
            rw [w1, IntKind.wrap_u64]
            refine ⟨by omega, ?_⟩
            rw [← HT.out]; exact hall)
          go_wp2_with fail
          go_roundw
          case rel => exact ⟨k + 1, by omega, by omega, by go_num, by rw [HS.out.1], HS.out.2, by first | rfl | trivial⟩
          case measure => simp [intOf]; omega
        · have d19 : decide ((19 : Int) ≤ (k : Int)) = true := by simp; omega
          have HF : Hid (R = false) := Lib.hid (by
            rw [← HR.out, valOk, decide_eq_false (by omega)]; simp)
          go_wp2_with fail
          refine bodyPost_ret (v := .tuple #[.int .i64 0, .bool false]) (by simp [results, Tryd.results41, go_sem]) rfl ?_
          refine ⟨0, ?_, ?_, rfl⟩
          · rw [HF.out]
          · rw [HF.out]; intro h; cases h
    · have dlt : decide ((k : Int) < (l.length : Int)) = false := by simp; omega
      obtain rfl : k = l.length := by omega
      rw [List.take_length] at HAll hbd ⊢
      have HF : Hid (R = (decide (0 < l.length) && decide (numL 0 l ≤ m))) := Lib.hid (by
        rw [← HR.out, valOk, HAll.out, decide_eq_true (by omega)]; simp)
      generalize hN : numL 0 l = N at *
      by_cases hpos : 0 < l.length
      · have dp : decide ((0 : Int) < (l.length : Int)) = true := decide_eq_true (by omega)
        have dpP : (0 < l.length) = True := eq_true hpos
        rw [decide_eq_true hpos, Bool.true_and] at HF
        clear hpos
        go_wp2_with fail
        refine bodyPost_ret (v := .tuple #[.int .i64 (wrap64 N), .bool (decide (N ≤ m))]) (by simp [results, Tryd.results41, go_sem]) rfl ?_
        refine ⟨wrap64 N, ?_, ?_, rfl⟩
        · rw [HF.out]
        · rw [HF.out]
          intro h
          have h1 := of_decide_eq_true h
          rw [hN]
          unfold wrap64
          omega
      · have dp : decide ((0 : Int) < (l.length : Int)) = false := decide_eq_false (by omega)
        have dpP : (0 < l.length) = False := eq_false hpos
        rw [decide_eq_false hpos, Bool.false_and] at HF
        clear hpos
        go_wp2_with fail
        refine bodyPost_ret (v := .tuple #[.int .i64 (wrap64 N), .bool false]) (by simp [results, Tryd.results41, go_sem]) rfl ?_
        refine ⟨wrap64 N, ?_, ?_, rfl⟩
        · rw [HF.out]
        · rw [HF.out]; intro h; cases h
end Go.Proofs.YtcmnfbjlhdfmgaaDoor
