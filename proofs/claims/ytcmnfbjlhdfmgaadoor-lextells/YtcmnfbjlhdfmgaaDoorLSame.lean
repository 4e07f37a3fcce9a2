/- Lists of tokens compared. -/
import Derived.Test.YtcmnfbjlhdfmgaaDoorLFew
namespace Go.Proofs.YtcmnfbjlhdfmgaaDoor
open Go.RowKit

set_option maxRecDepth 100000 in
theorem OwnT.cells {w : World} {N : Nat} {v : Value} {ts : List Tk} (h : OwnT w N v ts) : ∃ (ad : Option Addr) (g cp : Nat), v = .slice ad ts.length cp ∧ TokAt w ad g 0 ts ∧ (ts ≠ [] → N ≤ g ∧ g < w.heap.size) := by
  by_cases hne : ts = []
  · subst hne
    obtain ⟨ad, cp, rfl⟩ := h.shape
    exact ⟨ad, 0, cp, rfl, ⟨fun e => absurd rfl e, fun i hi => by cases hi⟩, fun e => absurd rfl e⟩
  · obtain ⟨g, cp, rfl, h1, h2, hc⟩ := h.cell hne
    refine ⟨some ⟨g, 0, none⟩, g, cp, rfl, ⟨fun _ => rfl, fun i hi j hj => ?_⟩, fun _ => ⟨h1, h2⟩⟩
    have hg : ∀ (ts : List Tk) (i : Nat) (h : i < ts.length), (cellsT ts)[i * 3 + j]? = (ts[i]).cells[j]? := by
      intro ts
      induction ts with
      | nil => intro i h; cases h
      | cons t ts ih =>
        intro i h
        have e : cellsT (t :: ts) = t.cells ++ cellsT ts := by simp [cellsT]
        rw [e]
        cases i with
        | zero =>
          rw [List.getElem?_append_left (by show 0 * 3 + j < 3; omega)]
          simp
        | succ i =>
          rw [List.getElem?_append_right (by show 3 ≤ (i + 1) * 3 + j; omega), show (i + 1) * 3 + j - t.cells.length = i * 3 + j by show (i + 1) * 3 + j - 3 = _; omega]
          exact ih i (by simpa using h)
    have h3 := hg ts i hi
    have h4 : j < (ts[i]).cells.length := hj
    rw [List.getElem?_eq_getElem h4] at h3 ⊢
    have := hc _ _ h3
    rw [Nat.zero_add]
    exact this
set_option maxRecDepth 100000 in
theorem RowsAt.range {w : World} {ad : Option Addr} {g o : Nat} {l : List Tk} (h : TokAt w ad g o l) (i : Nat) (hi : i < l.length) : w.rangeAt g (o + i * 3) (l[i]).cells := fun j v hv => by
  have hj : j < 3 := by have := (List.getElem?_eq_some_iff.1 hv).1; exact this
  rw [← hv]
  exact h.cell i hi j hj
set_option maxRecDepth 100000 in
set_option maxHeartbeats 2000000 in
theorem same_any (w : World) (ad ad2 : Option Addr) (g o cp g2 o2 cp2 : Nat) (l : List Tk) (hr : TokAt w ad g o l) (hr2 : TokAt w ad2 g2 o2 l) (hm : l.length ≤ 1000000) :
    Calls Tryd.prog 11 #[.slice ad l.length cp, .slice ad2 l.length cp2] w fun e w' => e = .returned (.bool true) ∧ Below w.heap.size w w' := by
  have HA := Lib.hid hr.addr
  have HA2 := Lib.hid hr2.addr
  have HC := Lib.hid (hr.range)
  have HC2 := Lib.hid (hr2.range)
  clear hr hr2
  go_enter Tryd.func11, Tryd.ntmps11
  go_wp2_with fail
  go_loopw [5] (fun i wr => ∃ k : Nat, k ≤ l.length ∧ i = .int .i64 (k : Int) ∧ Below w.heap.size w wr) (fun i _ => l.length - (intOf i).toNat)
  case atStart => exact ⟨0, by omega, rfl, Below.refl _ _⟩
  case round =>
    obtain ⟨k, hk, rfl, hb⟩ := hrel
    have HB := Lib.hid hb
    clear hb
    by_cases hlt : k < l.length
    · have dlt : decide ((k : Int) < (l.length : Int)) = true := by simp; omega
      obtain rfl := HA.out (by intro e; rw [e] at hlt; cases hlt)
      obtain rfl := HA2.out (by intro e; rw [e] at hlt; cases hlt)
      have hc := HC.out k hlt
      have hc2 := HC2.out k hlt
      clear HA HA2 HC HC2
      generalize l[k] = t at *
      have hg := block_lt_of_cell (hc 0 (.int .i64 t.k) rfl)
      have hg2 := block_lt_of_cell (hc2 0 (.int .i64 t.k) rfl)
      have HCC := Lib.hid (fun W (h : Below w.heap.size w W) => show W.rangeAt g (o + k * 3) t.cells from fun j v hv => by rw [h.cell (by exact hg)]; exact hc j v hv)
      have HCC2 := Lib.hid (fun W (h : Below w.heap.size w W) => show W.rangeAt g2 (o2 + k * 3) t.cells from fun j v hv => by rw [h.cell (by exact hg2)]; exact hc2 j v hv)
      have HNE := Lib.hid (neqTok t)
      have HGU := Lib.hid (guardTok .neq t)
      have HTC : Hid (t.cells.length = 3) := Lib.hid rfl
      clear hc hc2 hg hg2
      unfold Tk.val at *
      generalize t.cells = cs at *
      go_wp2_with fail
      refine wp_region_quietB (by kernel_rfl) (by kernel_rfl) ?_
      iterate 3 (go_big_quiet_step (fail))
      refine wpQuiet_load_midG (by rfl) 30 (.tmp 19) rfl g (o + k * 3) rfl cs _ (fun w' ⟨m, hw'⟩ => hw' ▸ HCC.out _ (HB.out.trans (m.below.mono HB.out.size))) Tryd.underlying30 rfl (by rw [HTC.out]; exact infoTok) ?_
      simp only [Act.put, List.setIfInBounds_toArray, List.set_cons_succ, List.set_cons_zero]
      iterate 3 (go_big_quiet_step (fail))
      refine wpQuiet_load_midG (by rfl) 30 (.tmp 23) rfl g2 (o2 + k * 3) rfl cs _ (fun w' ⟨m, hw'⟩ => hw' ▸ HCC2.out _ (HB.out.trans (m.below.mono HB.out.size))) Tryd.underlying30 rfl (by rw [HTC.out]; exact infoTok) ?_
      simp only [Act.put, List.setIfInBounds_toArray, List.set_cons_succ, List.set_cons_zero]
      refine wpQuiet_of_opG (by rfl) (.bool false) (fun w' _ => by have k := HNE.out; have l := HGU.out; go_simp) ?_
      simp only [Act.put, List.setIfInBounds_toArray, List.set_cons_succ, List.set_cons_zero]
      refine wpQuiet_nil ?_
      intro m
      have HB2 := Lib.hid (HB.out.trans (m.below.mono HB.out.size))
      generalize m.wr = w2 at *
      clear m
      go_wp2_with fail
      go_roundw
      case rel => exact ⟨k + 1, by omega, by go_num, HB2.out⟩
      case measure => simp [intOf]; omega
    · have dlt : decide ((k : Int) < (l.length : Int)) = false := by simp; omega
      go_wp2_with fail
      go_ret
      exact ⟨rfl, HB.out⟩
end Go.Proofs.YtcmnfbjlhdfmgaaDoor
