/- Parts of a size that is looked at. -/
import Derived.Test.YtmdhoeogibkobaaDoorAwake
namespace Go.Proofs.YtmdhoeogibkobaaDoor
open Go.RowKit

theorem ret_bool' {a b : Bool} (h : a = b) : Ending.returned (.bool a) = .returned (.bool b) := by rw [h]
def fewS (ps : List Part) : Nat := (ps.map (fun p => min p.l.length 10000)).sum
theorem fewS_snoc (ps : List Part) (k : Nat) (hk : k < ps.length) : fewS (ps.take (k + 1)) = fewS (ps.take k) + min ps[k].l.length 10000 := by
  unfold fewS
  rw [List.take_succ_eq_append_getElem hk, List.map_append, List.sum_append]; simp
theorem fewS_le : ∀ ps : List Part, fewS ps ≤ 10000 * ps.length
  | [] => by simp [fewS]
  | p :: ps => by
    have ih := fewS_le ps
    unfold fewS at ih ⊢
    simp only [List.map_cons, List.sum_cons, List.length_cons]
    omega
set_option maxRecDepth 100000 in
set_option maxHeartbeats 400000 in
theorem few_any (w : World) (ps : List Part) (ap : Option Addr) (gp op cp : Nat) (most : Int) (hp : PartsIn w ap gp op ps) (hm : ps.length ≤ maxLen) (hl : ∀ p ∈ ps, p.l.length ≤ maxLen) :
    Calls Tryd.prog 9 #[.slice ap ps.length cp, .int .i64 most] w fun e w' => e = .returned (.bool (decide ((ps.length : Int) ≤ 100) && decide ((fewS (ps.take 200) : Int) ≤ most))) ∧ w = w' := by
  have hm' := hm
  unfold maxLen at hm'
  have HP := Lib.hid hp
  have HL := Lib.hid hl
  clear hp hl hm
  go_enter Tryd.func9, Tryd.ntmps9
  go_wp2_with fail
  go_loop [5, 6] (fun n i => ∃ k : Nat, k ≤ ps.length ∧ k ≤ 200 ∧ i = .int .i64 k ∧ n = .int .i64 (fewS (ps.take k) : Int)) (fun _ i => 200 - (intOf i).toNat)
  case atStart => exact ⟨0, by omega, by omega, rfl, rfl⟩
  case round =>
    obtain ⟨k, hk, hk2, rfl, rfl⟩ := hrel
    have hbd := fewS_le (ps.take k)
    have hbl : (ps.take k).length ≤ 200 := by simp; omega
    by_cases hlt : k < ps.length
    · by_cases h200 : k < 200
      · obtain rfl := HP.out.at' (by intro e; subst e; simp at hlt)
        have hc := HP.out.cell k hlt
        unfold Part.val at hc
        have hlk := HL.out ps[k] (List.getElem_mem _)
        unfold maxLen at hlk
        have hsn := fewS_snoc ps k hlt
        generalize ps[k] = p at *
        have HSN := Lib.hid hsn
        generalize hF : fewS (ps.take k) = F at *
        clear hsn hF
        by_cases h1 : p.l.length < 10000
        · go_wp2_with fail
          all_goals
            go_round
            case rel => exact ⟨k + 1, by omega, by omega, by go_num, by rw [HSN.out]; (first | rw [show min p.l.length 10000 = p.l.length by omega] | skip); go_num⟩
            case measure => simp [intOf]; omega
        · go_wp2_with fail
          all_goals
            go_round
            case rel => exact ⟨k + 1, by omega, by omega, by go_num, by rw [HSN.out, show min p.l.length 10000 = 10000 by omega]; go_num⟩
            case measure => simp [intOf]; omega
      · have e : ps.take k = ps.take 200 := by rw [show k = 200 by omega]
        obtain ⟨n, hn⟩ : ∃ n, fewS (ps.take k) = n := ⟨_, rfl⟩
        rw [hn] at hbd ⊢
        have HF := Lib.hid (show fewS (ps.take 200) = n by rw [← e]; exact hn)
        clear e hn
        by_cases h100 : ps.length ≤ 100
        · exact absurd h100 (by omega)
        · go_wp2_with fail
          go_ret
          exact ⟨ret_bool' (by rw [decide_eq_false (show ¬ (ps.length : Int) ≤ 100 by omega), Bool.false_and]), rfl⟩
    · have e : ps.take k = ps.take 200 := by rw [List.take_of_length_le (by omega), List.take_of_length_le (by omega)]
      obtain ⟨n, hn⟩ : ∃ n, fewS (ps.take k) = n := ⟨_, rfl⟩
      rw [hn] at hbd ⊢
      have HF := Lib.hid (show fewS (ps.take 200) = n by rw [← e]; exact hn)
      clear e hn
      by_cases h100 : ps.length ≤ 100
      · go_wp2_with fail
        go_ret
        exact ⟨ret_bool' (by rw [HF.out]), rfl⟩
      · go_wp2_with fail
        go_ret
        exact ⟨ret_bool' (by rw [decide_eq_false (show ¬ (ps.length : Int) ≤ 100 by omega), Bool.false_and]), rfl⟩
end Go.Proofs.YtmdhoeogibkobaaDoor
