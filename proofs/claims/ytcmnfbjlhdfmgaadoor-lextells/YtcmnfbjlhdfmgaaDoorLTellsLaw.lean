/- Of all texts the tokens, or the place and the error, are the chapter's. -/
import Derived.Test.YtcmnfbjlhdfmgaaDoorLRefLex
import Derived.Test.YtcmnfbjlhdfmgaaDoorLSame
namespace Go.Proofs.YtcmnfbjlhdfmgaaDoor
open Go.RowKit

set_option maxRecDepth 100000 in
theorem lexF_all (N : Nat) : ∀ (f : Nat) (l : List UInt8) (acc : List Tk), l.length ≤ 1000000 → (∀ t ∈ acc, formB t = true ∧ t.Ok) → acc.length ≤ 600 →
    (∀ t ∈ (lexF N f l acc).1, formB t = true ∧ t.Ok) ∧ (lexF N f l acc).1.length ≤ 600
  | 0, l, acc, _, h, h6 => by rw [lexF]; exact ⟨h, h6⟩
  | f + 1, l, acc, hl, h, h6 => by
    rw [lexF]
    by_cases hn : l = []
    · rw [if_pos hn]; exact ⟨h, h6⟩
    · rw [if_neg hn]
      by_cases hf : formB (firstM l).1 = false
      · rw [if_pos hf]; exact ⟨by simp, by simp⟩
      · rw [if_neg hf]
        by_cases ha : acc.length = 600
        · rw [if_pos ha]; exact ⟨by simp, by simp⟩
        · rw [if_neg ha]
          refine lexF_all N f _ _ ?_ ?_ (by simp; omega)
          · have := skipB_le false (l.drop (firstM l).2)
            rw [List.length_drop] at this
            omega
          · intro t ht
            rcases List.mem_append.1 ht with ht | ht
            · exact h t ht
            · obtain rfl := List.mem_singleton.1 ht
              exact ⟨by simpa using hf, (firstM_all l hl).1⟩
set_option maxRecDepth 100000 in
theorem lexM_all (l : List UInt8) (hl : l.length ≤ 1000000) : (∀ t ∈ (lexM l).1, formB t = true ∧ t.Ok) ∧ (lexM l).1.length ≤ 600 := by
  unfold lexM
  split
  · exact ⟨by simp, by simp⟩
  · have := skipB_le false l
    exact lexF_all _ _ _ _ (by omega) (by simp) (by simp)
set_option maxRecDepth 100000 in
set_option maxHeartbeats 8000000 in
theorem lexTells_walk (w : World) (hw : LexW w) (h9 : 9 ≤ w.heap.size) (l : List UInt8) (_hl : l.length ≤ maxLen) :
    Calls Tryd.prog 3 #[.string (st l)] w fun e w' => e = .returned (.bool true) ∧ Below w.heap.size w w' := by
  have HW := Lib.hid hw
  have HAw := Lib.hid (fun W (h : Below w.heap.size w W) => awake_any W (hw.low h h9))
  have hsz := size_st l
  have HL := Lib.hid (fun (h5 : l.length ≤ 5000) W (h : Below w.heap.size w W) => lex_any W (hw.low h h9) l (by omega))
  have HM := Lib.hid (fun (h5 : l.length ≤ 5000) W => refLex_any W l (by omega))
  have HAll := Lib.hid (fun (h5 : l.length ≤ 5000) => lexM_all l (by omega))
  obtain ⟨s, hs⟩ : ∃ s, st l = s := ⟨_, rfl⟩
  rw [hs] at hsz HL HM ⊢
  clear hs hw
  obtain ⟨⟨ts, p, er⟩, hR⟩ : ∃ R, lexM l = R := ⟨_, rfl⟩
  rw [hR] at HL HM HAll
  dsimp only at HL HM HAll
  clear hR
  go_enter Tryd.func3, Tryd.ntmps3
  go_wp2_with fail
  refine (HAw.out w (Below.refl _ _)).mono ?_
  rintro e w1 ⟨rfl, hb1⟩
  have HB1 := Lib.hid hb1
  clear hb1
  by_cases h5 : 5000 < l.length
  · have d5 : decide ((5000 : Int) < (l.length : Int)) = true := by simp; omega
    have d5P : (5000 < l.length) = True := by simp; omega
    clear h5
    go_wp2_with fail
    refine (HAw.out w1 HB1.out).mono ?_
    rintro e w3 ⟨rfl, hb3⟩
    have HB3 := Lib.hid (HB1.out.trans (hb3.mono HB1.out.size))
    clear hb3
    go_wp2_with fail
    go_ret
    exact ⟨rfl, HB3.out⟩
  have d5 : decide ((5000 : Int) < (l.length : Int)) = false := by simp; omega
  have d5P : (5000 < l.length) = False := by simp; omega
  have HL2 := Lib.hid (HL.out (by omega))
  have HM2 := Lib.hid (HM.out (by omega))
  obtain ⟨hall, h6⟩ := HAll.out (by omega)
  have HAl := Lib.hid hall
  clear h5 HL HM HAll hall
  go_wp2_with fail
  refine (HL2.out w1 HB1.out).mono ?_
  rintro e w2 ⟨v, rfl, hown, hb2⟩
  have HB2 := Lib.hid (HB1.out.trans (hb2.mono HB1.out.size))
  obtain ⟨ad, g, cp, rfl, hrow, hgb⟩ := hown.cells
  have HRw := Lib.hid hrow
  have HGb := Lib.hid hgb
  clear hown hb2 hrow hgb
  go_wp2_with fail
  refine (HM2.out w2).mono ?_
  rintro e w3 ⟨v, rfl, hown, hb3⟩
  have HB3 := Lib.hid (HB2.out.trans (hb3.mono HB2.out.size))
  obtain ⟨ad2, g2, cp2, rfl, hrow2, _⟩ := hown.cells
  have HRw3 := Lib.hid (HRw.out.below hb3 (fun h => (HGb.out h).2))
  have HGb3 := Lib.hid (fun h => Nat.lt_of_lt_of_le (HGb.out h).2 hb3.size)
  have HSm := Lib.hid (same_any w3 ad ad2 g 0 cp g2 0 cp2 ts HRw3.out hrow2 (by omega))
  clear hown hb3 hrow2 HRw HGb HB2 HM2 HL2
  go_wp2_with fail
  refine HSm.out.mono ?_
  rintro e w4 ⟨rfl, hb4⟩
  have HB4 := Lib.hid (HB3.out.trans (hb4.mono HB3.out.size))
  have HRw4 := Lib.hid (HRw3.out.below hb4 HGb3.out)
  have HGb4 := Lib.hid (fun h => Nat.lt_of_lt_of_le (HGb3.out h) hb4.size)
  clear hb4 HSm HRw3 HGb3 HB3
  go_wp2_with fail
  go_loopw [9] (fun i wr => ∃ k : Nat, k ≤ ts.length ∧ i = .int .i64 (k : Int) ∧ Below w4.heap.size w4 wr) (fun i _ => ts.length - (intOf i).toNat)
  case atStart => exact ⟨0, by omega, rfl, Below.refl _ _⟩
  case round =>
    obtain ⟨k, hk, rfl, hb⟩ := hrel
    have HB := Lib.hid hb
    clear hb
    have HBW := Lib.hid (HB4.out.trans (HB.out.mono HB4.out.size))
    by_cases hlt : k < ts.length
    · have dlt : decide ((k : Int) < (ts.length : Int)) = true := by simp; omega
      have hrow := HRw4.out.below HB.out HGb4.out
      obtain rfl := HRw4.out.addr (by intro e; rw [e] at hlt; cases hlt)
      have hc := hrow.range k hlt
      have HTk := Lib.hid (HAl.out ts[k] (List.getElem_mem hlt))
      clear hrow
      generalize ts[k] = t at *
      have c0 : wr.cell? ⟨g, k * 3, none⟩ = some (.int .i64 t.k) := by have := hc 0 (.int .i64 t.k) rfl; rwa [Nat.zero_add] at this
      have c1 : wr.cell? ⟨g, k * 3 + 1, none⟩ = some (.string (st t.s)) := by have := hc 1 (.string (st t.s)) rfl; rwa [Nat.zero_add] at this
      have c2 : wr.cell? ⟨g, k * 3 + 2, none⟩ = some (.int .i64 t.n) := by have := hc 2 (.int .i64 t.n) rfl; rwa [Nat.zero_add] at this
      clear hc
      have HF := Lib.hid (formed_any wr (HW.out.low HBW.out h9) t HTk.out.2)
      rw [HTk.out.1] at HF
      unfold Tk.val Tk.cells at HF
      obtain ⟨ss, hss⟩ : ∃ s, st t.s = s := ⟨_, rfl⟩
      rw [hss] at c1 HF
      clear hss
      go_wp2_with fail
      refine HF.out.mono ?_
      rintro e w5 ⟨rfl, hb5⟩
      have HB5 := Lib.hid (HB.out.trans (hb5.mono HB.out.size))
      clear hb5 c0 c1 c2
      go_wp2_with fail
      go_roundw
      case rel => exact ⟨k + 1, by omega, by go_num, HB5.out⟩
      case measure => simp [intOf]; omega
    · have dlt : decide ((k : Int) < (ts.length : Int)) = false := by simp; omega
      go_wp2_with fail
      go_ret
      exact ⟨rfl, HBW.out⟩
end Go.Proofs.YtcmnfbjlhdfmgaaDoor
