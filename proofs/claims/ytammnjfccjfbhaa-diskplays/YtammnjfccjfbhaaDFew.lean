/- few: calls of a size that is looked at. -/
import Derived.Test.YtammnjfccjfbhaaDDo5
import Derived.Test.YtammnjfccjfbhaaDOpen2
namespace Go.Proofs.Ytammnjfccjfbhaa
open Go.RowKit

def okOp (x : OpR) : Bool := decide (x.l.length ≤ 200) && decide (x.bs.length ≤ 300)
def fewB (l : List OpR) : Bool := (l.take 300).all okOp && decide (l.length ≤ 200)
theorem few_spec {l : List OpR} (h : fewB l = true) : l.length ≤ 200 ∧ ∀ x ∈ l, x.l.length ≤ 200 ∧ x.bs.length ≤ 300 := by
  simp only [fewB, Bool.and_eq_true, decide_eq_true_eq, List.all_eq_true] at h
  obtain ⟨h1, h2⟩ := h
  refine ⟨h2, fun x hx => ?_⟩
  have := h1 x (by rw [List.take_of_length_le (by omega)]; exact hx)
  simpa [okOp] using this
theorem op_cells {w : World} {ad : Option Addr} {g o : Nat} {l : List OpR} (h : RowsAt w ad g o 5 OpR.cells l) (i : Nat) (hi : i < l.length) :
    w.cell? ⟨g, o + i * 5, none⟩ = some (.int .u8 ((l[i]).k.toNat : Int)) ∧ w.cell? ⟨g, o + i * 5 + 1, none⟩ = some (.int .i64 (l[i]).i) ∧ w.cell? ⟨g, o + i * 5 + 2, none⟩ = some (.int .i64 (l[i]).n) ∧
      w.cell? ⟨g, o + i * 5 + 3, none⟩ = some (.slice (l[i]).ba (l[i]).l.length (l[i]).bc) ∧ w.cell? ⟨g, o + i * 5 + 4, none⟩ = some (.slice (l[i]).pa (l[i]).bs.length (l[i]).pc) :=
  ⟨h.cell i hi 0 (by omega), h.cell i hi 1 (by omega), h.cell i hi 2 (by omega), h.cell i hi 3 (by omega), h.cell i hi 4 (by omega)⟩

set_option maxHeartbeats 1000000 in
theorem few_any (w : World) (ad : Option Addr) (g o cap : Nat) (l : List OpR) (h : RowsAt w ad g o 5 OpR.cells l) (hm : l.length ≤ maxLen) :
    Calls Try.prog 9 #[.slice ad l.length cap] w fun e w' => e = .returned (.bool (fewB l)) ∧ w = w' := by
  unfold maxLen at hm
  have H := Lib.hid h
  clear h
  go_enter Try.func9, Try.ntmps9
  go_wp2_with fail
  go_loop [3] (fun i => ∃ k : Nat, k ≤ l.length ∧ k ≤ 300 ∧ i = .int .i64 k ∧ (l.take k).all okOp = true) (fun i => 300 - (intOf i).toNat)
  case atStart => exact ⟨0, by omega, by omega, rfl, by simp⟩
  case round =>
    obtain ⟨k, hk, hk3, rfl, hall⟩ := hrel
    have Hall := Lib.hid hall
    clear hall
    by_cases hlt : k < l.length
    · have hd : decide ((k : Int) < (l.length : Int)) = true := by simp; omega
      have hd' : decide (k < l.length) = true := by simp; omega
      by_cases hlt3 : k < 300
      · have he : decide ((k : Int) < 300) = true := by simp; omega
        have he' : decide (k < 300) = true := by simp; omega
        obtain rfl := H.out.addr (by intro e; rw [e] at hlt; cases hlt)
        obtain ⟨-, -, -, e3, e4⟩ := op_cells H.out k hlt
        have hstep : (l.take (k + 1)).all okOp = ((l.take k).all okOp && okOp l[k]) := by rw [List.take_succ_eq_append_getElem hlt, List.all_append, List.all_cons, List.all_nil, Bool.and_true]
        have hmem : l[k] ∈ l.take 300 := by
          have := List.getElem_mem (l := l.take 300) (n := k) (by simp; omega)
          simpa using this
        have hfalse : okOp l[k] = false → fewB l = false := fun h => by
          simp only [fewB, Bool.and_eq_false_iff]
          left
          rw [List.all_eq_false]
          exact ⟨_, hmem, by simp [h]⟩
        rw [Hall.out, Bool.true_and] at hstep
        have Hst := Lib.hid hstep
        have Hfa := Lib.hid hfalse
        clear hstep hfalse hmem
        generalize l[k] = x at *
        by_cases h2 : 200 < x.l.length
        · have g1 : decide ((200 : Int) < (x.l.length : Int)) = true := by simp; omega
          have g1' : decide (200 < x.l.length) = true := by simp; omega
          have hF := Hfa.out (by simp [okOp]; omega)
          have HF := Lib.hid hF
          clear hF Hst
          go_wp2_with fail
          go_ret
          exact ⟨by rw [HF.out]; rfl, rfl⟩
        · have g1 : decide ((200 : Int) < (x.l.length : Int)) = false := by simp; omega
          have g1' : decide (200 < x.l.length) = false := by simp; omega
          by_cases h3 : 300 < x.bs.length
          · have g2 : decide ((300 : Int) < (x.bs.length : Int)) = true := by simp; omega
            have g2' : decide (300 < x.bs.length) = true := by simp; omega
            have hF := Hfa.out (by simp [okOp]; omega)
            have HF := Lib.hid hF
            clear hF Hst
            go_wp2_with fail
            go_ret
            exact ⟨by rw [HF.out]; rfl, rfl⟩
          · have g2 : decide ((300 : Int) < (x.bs.length : Int)) = false := by simp; omega
            have g2' : decide (300 < x.bs.length) = false := by simp; omega
            have hok : okOp x = true := by simp [okOp]; omega
            rw [hok] at Hst
            clear hok
            go_wp2_with fail
            go_round
            case rel => exact ⟨k + 1, by omega, by omega, by go_num, Hst.out⟩
            case measure => simp [intOf]; omega
      · obtain rfl : k = 300 := by omega
        have hF : fewB l = false := by simp [fewB]; omega
        have g1 : decide ((l.length : Int) ≤ 200) = false := by simp; omega
        have g1' : decide (l.length ≤ 200) = false := by simp; omega
        have HF := Lib.hid hF
        clear hF
        go_wp2_with fail
        go_ret
        exact ⟨by rw [HF.out]; rfl, rfl⟩
    · obtain rfl : k = l.length := by omega
      have hd : decide ((l.length : Int) < (l.length : Int)) = false := by simp
      have hF : fewB l = decide (l.length ≤ 200) := by
        have := Hall.out
        rw [List.take_length] at this
        rw [fewB, List.take_of_length_le (by omega), this, Bool.true_and]
      have g1 : decide ((l.length : Int) ≤ 200) = decide (l.length ≤ 200) := by rw [decide_eq_decide]; omega
      have HF := Lib.hid hF
      generalize decide (l.length ≤ 200) = b at *
      clear hF
      go_wp2_with fail
      go_ret
      exact ⟨by rw [HF.out]; rfl, rfl⟩
end Go.Proofs.Ytammnjfccjfbhaa
