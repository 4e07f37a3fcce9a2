/- Tokens of a size that is looked at; lists of tokens compared. -/
import Derived.Test.YtcmnfbjlhdfmgaaDoorLShowsLaw
namespace Go.Proofs.YtcmnfbjlhdfmgaaDoor
open Go.RowKit

def fewT (l : List Tk) (n : Nat) : Bool := (l.take 100).all (fun t => decide (t.s.length ≤ 200)) && decide (l.length ≤ n)
set_option maxRecDepth 100000 in
theorem RowsAt.below {w w' : World} {ad : Option Addr} {g o k : Nat} {α : Type} {f : α → List Value} {l : List α} (h : RowsAt w ad g o k f l) {N : Nat} (hb : Below N w w') (hg : l ≠ [] → g < N) : RowsAt w' ad g o k f l := by
  refine ⟨h.addr, fun i hi j hj => ?_⟩
  rw [hb.cell (by exact hg (by intro e; rw [e] at hi; cases hi))]
  exact h.cell i hi j hj
set_option maxRecDepth 100000 in
theorem RowsAt.lt {w : World} {ad : Option Addr} {g o k : Nat} {α : Type} {f : α → List Value} {l : List α} (h : RowsAt w ad g o k f l) (hk : 0 < k) (hf : ∀ x, (f x).length = k) (hne : l ≠ []) : g < w.heap.size := by
  have h1 := h.cell 0 (List.length_pos_iff.2 hne) 0 hk
  rw [List.getElem?_eq_getElem (by rw [hf]; exact hk)] at h1
  exact block_lt_of_cell h1
set_option maxRecDepth 100000 in
set_option maxHeartbeats 1000000 in
theorem few_any (w : World) (ad : Option Addr) (g o cp : Nat) (l : List Tk) (hr : TokAt w ad g o l) (hm : l.length ≤ maxLen) (n : Nat) :
    Calls Tryd.prog 16 #[.slice ad l.length cp, .int .i64 (n : Int)] w fun e w' => e = .returned (.bool (fewT l n)) ∧ w = w' := by
  obtain ⟨R, hR⟩ : ∃ R, fewT l n = R := ⟨_, rfl⟩
  rw [hR]
  have HR := Lib.hid hR
  clear hR
  have HA := Lib.hid hr.addr
  have HC := Lib.hid hr.cell
  clear hr
  unfold maxLen at hm
  go_enter Tryd.func16, Tryd.ntmps16
  go_wp2_with fail
  go_loopw [5] (fun i wr => ∃ k : Nat, k ≤ l.length ∧ k ≤ 100 ∧ i = .int .i64 (k : Int) ∧ (l.take k).all (fun t => decide (t.s.length ≤ 200)) = true ∧ wr = w) (fun i _ => l.length - (intOf i).toNat)
  case atStart => exact ⟨0, by omega, by omega, rfl, rfl, rfl⟩
  case round =>
    obtain ⟨k, hk, hk1, rfl, ha, rfl⟩ := hrel
    have HAll := Lib.hid ha
    clear ha
    by_cases hlt : k < l.length
    · have dlt : decide ((k : Int) < (l.length : Int)) = true := by simp; omega
      by_cases h100 : k < 100
      · have d100 : decide ((k : Int) < 100) = true := by simp; omega
        obtain rfl := HA.out (by intro e; rw [e] at hlt; cases hlt)
        have hc := HC.out k hlt 1 (by omega)
        have HT : Hid (l.take (k + 1) = l.take k ++ [l[k]]) := Lib.hid List.take_succ_eq_append_getElem hlt
        have HGt : Hid (l[k]? = some l[k]) := Lib.hid (List.getElem?_eq_getElem hlt)
        clear HC HA
        generalize l[k] = t at *
        have hc1 : wr.cell? ⟨g, o + k * 3 + 1, none⟩ = some (.string (st t.s)) := hc
        have hsz := size_st t.s
        clear hc
        obtain ⟨s, hs⟩ : ∃ s, st t.s = s := ⟨_, rfl⟩
        rw [hs] at hc1 hsz
        clear hs
        have HF : Hid (200 < t.s.length → R = false) := Lib.hid (fun h2 => by
          have h3 : (l.take 100).all (fun t => decide (t.s.length ≤ 200)) = false := by
            rw [List.all_eq_false]
            refine ⟨t, List.mem_of_getElem? (i := k) (by rw [List.getElem?_take, if_pos h100]; exact HGt.out), by simp; omega⟩
          rw [← HR.out, fewT, h3]; rfl)
        by_cases h2 : 200 < t.s.length
        · have d2 : decide ((200 : Int) < (t.s.length : Int)) = true := by simp; omega
          go_wp2_with fail
          go_ret
          exact ⟨by rw [HF.out h2]; rfl, rfl⟩
        · have d2 : decide ((200 : Int) < (t.s.length : Int)) = false := by simp; omega
          go_wp2_with fail
          go_roundw
          case rel => exact ⟨k + 1, by omega, by omega, by go_num, by rw [HT.out, List.all_append, HAll.out]; simp; omega, by first | rfl | trivial⟩
          case measure => simp [intOf]; omega
      · have d100 : decide ((k : Int) < 100) = false := by simp; omega
        clear HA HC
        have HF : Hid (R = decide (l.length ≤ n)) := Lib.hid (by
          rw [← HR.out, fewT, show (100 : Nat) = k by omega, HAll.out, Bool.true_and])
        go_wp2_with fail
        go_ret
        exact ⟨by rw [HF.out]; rfl, rfl⟩
    · have dlt : decide ((k : Int) < (l.length : Int)) = false := by simp; omega
      clear HA HC
      have HF : Hid (R = decide (l.length ≤ n)) := Lib.hid (by
        rw [← HR.out, fewT]
        rw [show k = l.length by omega, List.take_length] at HAll
        rw [List.take_of_length_le (by omega), HAll.out, Bool.true_and])
      go_wp2_with fail
      go_ret
      exact ⟨by rw [HF.out]; rfl, rfl⟩
end Go.Proofs.YtcmnfbjlhdfmgaaDoor
