/- Of all tokens it is told whether they are formed, and their text; it is lexed as the token. -/
import Derived.Test.YtcmnfbjlhdfmgaaDoorLMany
import Derived.Test.YtcmnfbjlhdfmgaaDoorLGlue
import Derived.Test.YtcmnfbjlhdfmgaaDoorLRefShow
import Derived.Test.YtcmnfbjlhdfmgaaDoorLTokEq
import Derived.Test.YtcmnfbjlhdfmgaaDoorKQuiet0
import Derived.Test.YtcmnfbjlhdfmgaaDoorLArg2
namespace Go.Proofs.YtcmnfbjlhdfmgaaDoor
open Go.RowKit

set_option maxRecDepth 100000 in
theorem infoTok : (Tryd.prog.info? 30).map (·.size) = some 3 := by kernel_rfl
set_option maxRecDepth 100000 in
theorem length_quote (x : List UInt8) : (quoteM x).length ≤ 2 * x.length + 2 := by
  have := length_quoL x
  unfold quoteM
  simp; omega
set_option maxRecDepth 100000 in
theorem length_show (t : Tk) (ht : t.Ok) : (showM t).length ≤ 2 * t.s.length + 40 := by
  have h := Lib.itoa_length_le t.n ht.n0 ht.n1
  have h2 := length_quote t.s
  unfold showM
  split
  · omega
  · split
    · simp; omega
    · split
      · omega
      · omega
set_option maxRecDepth 100000 in
set_option maxHeartbeats 4000000 in
theorem lexShows_walk (w : World) (hw : LexW w) (h9 : 9 ≤ w.heap.size) (t : Tk) (htw : t.Wide) :
    Calls Tryd.prog 4 #[t.val] w fun e w' => e = .returned (.bool true) ∧ Below w.heap.size w w' := by
  obtain ⟨hk0, hk1, hn0, hn1, hs⟩ := htw
  have HW := Lib.hid hw
  have HA := Lib.hid (fun W (h : Below w.heap.size w W) => awake_any W (hw.low h h9))
  have HTOK := Lib.hid (fun (hl : t.s.length ≤ 200) => (⟨hk0, hk1, hn0, hn1, by omega⟩ : t.Ok))
  have HV : Hid (t.val = .agg #[.int .i64 t.k, .string (st t.s), .int .i64 t.n]) := Lib.hid rfl
  have hsz := size_st t.s
  rw [HV.out]
  have HML : Hid (t.s.length ≤ maxLen) := Lib.hid hs
  clear hw hk0 hk1 hn0 hn1 hs
  obtain ⟨s, hss⟩ : ∃ s, st t.s = s := ⟨_, rfl⟩
  rw [hss] at HV hsz ⊢
  go_enter Tryd.func4, Tryd.ntmps4
  go_wp2_with fail
  have hbx : (w.alloc (.cells #[.int .i64 t.k, .string s, .int .i64 t.n] 30 (0, 0))).heap[w.heap.size]? = some (.cells #[.int .i64 t.k, .string s, .int .i64 t.n] 30 (0, 0)) := heap_alloc_new _ _
  have hb0 : Below w.heap.size w (w.alloc (.cells #[.int .i64 t.k, .string s, .int .i64 t.n] 30 (0, 0))) := (Below.refl _ _).alloc (Nat.le_refl _) _
  generalize w.alloc (.cells #[.int .i64 t.k, .string s, .int .i64 t.n] 30 (0, 0)) = W0 at *
  refine (HA.out _ hb0).mono ?_
  rintro e w1 ⟨rfl, hb1⟩
  have hbx1 := (hb1.block _ (lt_block hbx)).trans hbx
  have hb01 : Below w.heap.size w w1 := hb0.trans (hb1.mono hb0.size)
  have HB1 := Lib.hid hb01
  clear hb0 hb1 hbx hb01
  have c1 : w1.cell? ⟨w.heap.size, 1, none⟩ = some (.string s) := by rw [cell_block hbx1]; rfl
  have HBX := Lib.hid hbx1
  clear hbx1
  by_cases h200 : 200 < t.s.length
  · have d200 : decide ((200 : Int) < (t.s.length : Int)) = true := by simp; omega
    go_wp2_with fail
    refine (HA.out _ HB1.out).mono ?_
    rintro e w2 ⟨rfl, hb2⟩
    have HB2 := Lib.hid (HB1.out.trans (hb2.mono (by have := HB1.out.size; omega)))
    clear hb2
    go_wp2_with fail
    go_ret
    exact ⟨rfl, HB2.out⟩
  have d200 : decide ((200 : Int) < (t.s.length : Int)) = false := by simp; omega
  have hl2 : t.s.length ≤ 200 := by omega
  have ht : t.Ok := HTOK.out hl2
  have c0 : w1.cell? ⟨w.heap.size, 0, none⟩ = some (.int .i64 t.k) := by rw [cell_block HBX.out]; rfl
  have c2 : w1.cell? ⟨w.heap.size, 2, none⟩ = some (.int .i64 t.n) := by rw [cell_block HBX.out]; rfl
  have HSH := Lib.hid (show_any w1 (HW.out.low HB1.out h9) t ht (by omega) (by have := HB1.out.size; omega))
  rw [HV.out] at HSH
  have HF := Lib.hid (fun W (h : Below w.heap.size w W) => formed_any W (HW.out.low h h9) t ht)
  have HG := Lib.hid (fun W => refFormed_any W t ht)
  have HR := Lib.hid (fun (hf : formB t = true) W => refShow_any W t ht (by omega) (by
    intro h
    unfold formB at hf
    rcases h with h | h
    · rw [if_neg (by omega), if_pos h] at hf; simp only [Bool.and_eq_true, decide_eq_true_eq] at hf; exact hf.2
    · rw [if_neg (by omega), if_neg (by omega), if_neg (by omega), if_pos h] at hf; simp only [Bool.and_eq_true, decide_eq_true_eq] at hf; exact hf.2.1))
  have HL := Lib.hid (fun (hf : formB t = true) W (h : Below w.heap.size w W) => by
    have hsl := length_show t ht
    have := lex_any W (HW.out.low h h9) (showM t) (by omega)
    rw [lexM_show t ht hf (by omega)] at this
    exact (this : Calls Tryd.prog 9 #[.string (st (showM t))] W fun e w' => ∃ v, e = .returned (.tuple #[v, .int .i64 0, .int .i64 0]) ∧ OwnT w' W.heap.size v [t] ∧ Below W.heap.size W w'))
  rw [HV.out] at HF HG HR
  unfold shM at HSH
  obtain ⟨f, hf⟩ : ∃ f, formB t = f := ⟨_, rfl⟩
  rw [hf] at HSH HF HG HR HL
  obtain ⟨S, hS⟩ : ∃ S, st (if f = true then showM t else []) = S := ⟨_, rfl⟩
  rw [hS] at HSH
  have HQ := Lib.hid hS
  clear hS hf
  go_wp2_with fail
  refine HSH.out.mono ?_
  rintro e w2 ⟨rfl, hb2⟩
  have HB2 := Lib.hid (HB1.out.trans (hb2.mono (by have := HB1.out.size; omega)))
  have HBX2 := Lib.hid ((hb2.block _ (lt_block HBX.out)).trans HBX.out)
  clear c0 c1 c2 hb2 HSH HBX HB1
  go_wp2_with fail
  refine wp_region_quietB (by kernel_rfl) (by kernel_rfl) ?_
  refine wpQuiet_load_midG (by rfl) 30 (.tmp 1) rfl w.heap.size 0 rfl [.int .i64 t.k, .string s, .int .i64 t.n] _ (fun w' ⟨m, hw'⟩ => hw' ▸ rangeL ((m.below.block _ (lt_block HBX2.out)).trans HBX2.out)) Tryd.underlying30 rfl infoTok ?_
  simp only [Act.put, List.setIfInBounds_toArray, List.set_cons_succ, List.set_cons_zero]
  iterate 1 (go_big_quiet_step ((go_at_call 12; with_reducible exact Calls.quiet_b (HF.out _ (HB2.out.trans ((Bl.below _).mono HB2.out.size))))))
  refine wpQuiet_load_midG (by rfl) 30 (.tmp 1) rfl w.heap.size 0 rfl [.int .i64 t.k, .string s, .int .i64 t.n] _ (fun w' ⟨m, hw'⟩ => hw' ▸ rangeL ((m.below.block _ (lt_block HBX2.out)).trans HBX2.out)) Tryd.underlying30 rfl infoTok ?_
  simp only [Act.put, List.setIfInBounds_toArray, List.set_cons_succ, List.set_cons_zero]
  iterate 1 (go_big_quiet_step ((go_at_call 14; with_reducible exact Calls.quiet_b (HG.out _))))
  iterate 1 (go_big_quiet_step (fail))
  refine wpQuiet_nil ?_
  intro m0
  have HBX3 := Lib.hid ((m0.below.block _ (lt_block HBX2.out)).trans HBX2.out)
  have HB3 := Lib.hid (HB2.out.trans (m0.below.mono HB2.out.size))
  generalize m0.wr = w3 at *
  clear m0 HBX2 HB2
  have c0 : w3.cell? ⟨w.heap.size, 0, none⟩ = some (.int .i64 t.k) := by rw [cell_block HBX3.out]; rfl
  have c1 : w3.cell? ⟨w.heap.size, 1, none⟩ = some (.string s) := by rw [cell_block HBX3.out]; rfl
  have c2 : w3.cell? ⟨w.heap.size, 2, none⟩ = some (.int .i64 t.n) := by rw [cell_block HBX3.out]; rfl
  go_wp2_with fail
  refine (HG.out w3).mono ?_
  rintro e w4 ⟨rfl, hb4⟩
  have HBX4 := Lib.hid ((hb4.block _ (lt_block HBX3.out)).trans HBX3.out)
  have HB4 := Lib.hid (HB3.out.trans (hb4.mono HB3.out.size))
  clear c0 c1 c2 hb4 HBX3 HB3 HF HG
  cases f with
  | false =>
    have hSe : S = ⟨#[]⟩ := HQ.out.symm
    subst hSe
    clear HQ
    go_wp2_with fail
    go_ret
    exact ⟨rfl, HB4.out⟩
  | true =>
    have HQ2 : Hid (st (showM t) = S) := Lib.hid HQ.out
    clear HQ
    have HL2 := Lib.hid (HL.out rfl)
    have HR2 := Lib.hid (HR.out rfl)
    clear HL HR
    rw [HQ2.out] at HL2 HR2
    go_wp2_with fail
    refine (HL2.out w4 HB4.out).mono ?_
    rintro e w5 ⟨v, rfl, hown, hb5⟩
    obtain ⟨g, cp, rfl, hg1, hg2, hc⟩ := hown.cell (by simp)
    have hrt : w5.rangeAt g 0 [.int .i64 t.k, .string s, .int .i64 t.n] := fun j u hj => by
      have := hc j u (by rw [show cellsT [t] = t.cells by simp [cellsT], Tk.cells, hss]; exact hj)
      rw [Nat.zero_add]; exact this
    have HRT := Lib.hid hrt
    have HG2 := Lib.hid hg2
    have HBX5 := Lib.hid ((hb5.block _ (lt_block HBX4.out)).trans HBX4.out)
    have HB5 := Lib.hid (HB4.out.trans (hb5.mono HB4.out.size))
    have HEQ := Lib.hid (eqlTok t)
    have HGU := Lib.hid (guardTok .eql t)
    rw [HV.out] at HEQ HGU
    clear hrt hc hown hb5 HBX4 HB4 hg1 hg2
    go_wp2_with fail
    refine wp_region_quietB (by kernel_rfl) (by kernel_rfl) ?_
    iterate 1 (go_big_quiet_step (fail))
    refine wpQuiet_load_midG (by rfl) 30 (.tmp 1) rfl w.heap.size 0 rfl [.int .i64 t.k, .string s, .int .i64 t.n] _ (fun w' ⟨m, hw'⟩ => hw' ▸ rangeL ((m.below.block _ (lt_block HBX5.out)).trans HBX5.out)) Tryd.underlying30 rfl infoTok ?_
    simp only [Act.put, List.setIfInBounds_toArray, List.set_cons_succ, List.set_cons_zero]
    iterate 1 (go_big_quiet_step ((go_at_call 15; with_reducible exact Calls.quiet_b (HR2.out _))))
    iterate 13 (go_big_quiet_step (fail))
    refine wpQuiet_load_midG (by rfl) 30 (.tmp 49) rfl g 0 rfl [.int .i64 t.k, .string s, .int .i64 t.n] _ (fun w' ⟨m, hw'⟩ => hw' ▸ fun j u hj => (m.below.cell (by exact HG2.out)).trans (HRT.out j u hj)) Tryd.underlying30 rfl infoTok ?_
    simp only [Act.put, List.setIfInBounds_toArray, List.set_cons_succ, List.set_cons_zero]
    refine wpQuiet_load_midG (by rfl) 30 (.tmp 1) rfl w.heap.size 0 rfl [.int .i64 t.k, .string s, .int .i64 t.n] _ (fun w' ⟨m, hw'⟩ => hw' ▸ rangeL ((m.below.block _ (lt_block HBX5.out)).trans HBX5.out)) Tryd.underlying30 rfl infoTok ?_
    simp only [Act.put, List.setIfInBounds_toArray, List.set_cons_succ, List.set_cons_zero]
    have HEQ' : Hid (∀ V : Value, V = .agg #[.int .i64 t.k, .string s, .int .i64 t.n] → ∀ w', (binOp .eql 30 V V).run Tryd.prog w' = .ok (.bool true) w') := Lib.hid fun V hV w' => by rw [hV]; exact HEQ.out w'
    have HGU' : Hid (∀ V : Value, V = .agg #[.int .i64 t.k, .string s, .int .i64 t.n] → ∀ x y w', (eqGuard .eql 30 x y V V).run Tryd.prog w' = .ok () w') := Lib.hid fun V hV x y w' => by rw [hV]; exact HGU.out x y w'
    refine wpQuiet_of_opG (by rfl) (.bool true) (fun w' _ => by have k := HEQ.out; have l := HGU.out; go_simp) ?_
    simp only [Act.put, List.setIfInBounds_toArray, List.set_cons_succ, List.set_cons_zero]
    iterate 2 (go_big_quiet_step (fail))
    refine wpQuiet_nil ?_
    intro m
    have HB6 := Lib.hid (HB5.out.trans (m.below.mono HB5.out.size))
    generalize m.wr = w6 at *
    clear m
    go_wp2_with fail
    go_ret
    exact ⟨rfl, HB6.out⟩
end Go.Proofs.YtcmnfbjlhdfmgaaDoor
