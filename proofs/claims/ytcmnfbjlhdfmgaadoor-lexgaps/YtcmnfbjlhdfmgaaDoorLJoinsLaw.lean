/- Formed tokens that are joined are lexed as they were. -/
import Derived.Test.YtcmnfbjlhdfmgaaDoorLJoin
namespace Go.Proofs.YtcmnfbjlhdfmgaaDoor
open Go.RowKit

set_option maxRecDepth 100000 in
theorem shM_form {t : Tk} (h : formB t = true) : shM t = showM t := by unfold shM; rw [if_pos h]
set_option maxRecDepth 100000 in
theorem glue_joinT (l : List Tk) (h : ∀ t ∈ l, formB t = true) : glue (l.map fun t => ([32], t)) [] = joinT l := by
  induction l with
  | nil => rfl
  | cons t l ih =>
    rw [List.map_cons, glue, ih fun x hx => h x (List.mem_cons_of_mem _ hx), joinT, shM_form (h t (List.mem_cons_self ..))]
    rfl
set_option maxRecDepth 100000 in
theorem lexM_join (l : List Tk) (hO : ∀ t ∈ l, t.Ok) (hF : ∀ t ∈ l, formB t = true) (h4 : (joinM l).length ≤ 4096) (h6 : l.length ≤ 600) : lexM (joinM l) = (l, 0, 0) := by
  cases l with
  | nil => rfl
  | cons t l =>
    have e : joinM (t :: l) = glue (([], t) :: l.map fun t => ([32], t)) [] := by
      rw [glue, glue_joinT l fun x hx => hF x (List.mem_cons_of_mem _ hx)]
      unfold joinM
      rw [joinT, shM_form (hF t (List.mem_cons_self ..))]
      rfl
    have hm : ∀ x ∈ ([], t) :: l.map (fun t => (([32] : List UInt8), t)), x.2 ∈ t :: l := by
      intro x hx
      rcases List.mem_cons.1 hx with rfl | hx
      · exact List.mem_cons_self ..
      · obtain ⟨y, hy, rfl⟩ := List.mem_map.1 hx
        exact List.mem_cons_of_mem _ hy
    rw [e] at h4 ⊢
    rw [lexM_glue [] rfl (.inl rfl) _ ⟨?_, ?_, fun x hx => hO _ (hm x hx), fun x hx => hF _ (hm x hx)⟩ h4 (by simpa using h6)]
    · simp [Function.comp_def]
    · intro x hx
      rcases List.mem_cons.1 hx with rfl | hx
      · exact fun x => rfl
      · obtain ⟨y, hy, rfl⟩ := List.mem_map.1 hx
        exact gap_32
    · intro x hx
      rw [List.drop_succ_cons, List.drop_zero] at hx
      obtain ⟨y, hy, rfl⟩ := List.mem_map.1 hx
      exact ⟨.inr ⟨32, [], rfl, .inl rfl⟩, by simp⟩
set_option maxRecDepth 100000 in
theorem lexM_long (l : List UInt8) (h : 4096 < l.length) : lexM l = ([], 0, 3) := by unfold lexM; rw [if_pos h]
set_option maxRecDepth 100000 in
theorem few_all {l : List Tk} {n : Nat} (hn : n ≤ 100) (h : fewT l n = true) : l.length ≤ n ∧ ∀ t ∈ l, t.s.length ≤ 200 := by
  unfold fewT at h
  rw [Bool.and_eq_true] at h
  have h2 := of_decide_eq_true h.2
  rw [List.take_of_length_le (by omega)] at h
  exact ⟨h2, fun t ht => by have := List.all_eq_true.1 h.1 t ht; simpa using this⟩
set_option maxRecDepth 100000 in
theorem st_nil : st [] = (⟨#[]⟩ : ByteArray) := rfl
set_option maxRecDepth 100000 in
set_option maxHeartbeats 8000000 in
theorem lexJoins_walk (w : World) (hw : LexW w) (h9 : 9 ≤ w.heap.size) (ad : Option Addr) (g o cp : Nat) (l : List Tk) (hr : TokAt w ad g o l) (hop : ∀ x ∈ l, x.Wide) (hm : l.length ≤ maxLen) :
    Calls Tryd.prog 5 #[.slice ad l.length cp] w fun e w' => e = .returned (.bool true) ∧ Below w.heap.size w w' := by
  have HW := Lib.hid hw
  have HAw := Lib.hid (fun W (h : Below w.heap.size w W) => awake_any W (hw.low h h9))
  have hgl : l ≠ [] → g < w.heap.size := fun h => hr.lt (by omega) (fun _ => rfl) h
  have HRow := Lib.hid (fun W (h : Below w.heap.size w W) => hr.below h hgl)
  have HFew := Lib.hid (fun W (h : Below w.heap.size w W) => few_any W ad g o cp l (hr.below h hgl) hm 60)
  have HAd := Lib.hid hr.addr
  have HRan := Lib.hid hr.range
  have HOp := Lib.hid hop
  clear hr hop hw hgl
  unfold maxLen at hm
  obtain ⟨F, hF⟩ : ∃ F, fewT l 60 = F := ⟨_, rfl⟩
  rw [hF] at HFew
  have HF := Lib.hid hF
  clear hF
  go_enter Tryd.func5, Tryd.ntmps5
  go_wp2_with fail
  refine (HAw.out w (Below.refl _ _)).mono ?_
  rintro e w1 ⟨rfl, hb1⟩
  have HB1 := Lib.hid hb1
  clear hb1
  go_wp2_with fail
  refine (HFew.out w1 HB1.out).mono ?_
  rintro e w2 ⟨rfl, rfl⟩
  cases F with
  | false =>
    go_wp2_with fail
    refine (HAw.out w1 HB1.out).mono ?_
    rintro e w3 ⟨rfl, hb3⟩
    have HB3 := Lib.hid (HB1.out.trans (hb3.mono HB1.out.size))
    clear hb3
    go_wp2_with fail
    go_ret
    exact ⟨rfl, HB3.out⟩
  | true =>
    have hfew := few_all (by omega) HF.out
    have hl60 := hfew.1
    have HOk : Hid (∀ t ∈ l, t.Ok ∧ t.s.length ≤ 200) := Lib.hid fun t ht => ⟨(HOp.out t ht).ok (by have := hfew.2 t ht; omega), hfew.2 t ht⟩
    clear hfew
    have HLen : Hid (∀ k, k ≤ l.length → (joinM (l.take k)).length ≤ 50000) := Lib.hid fun k hk => by
      have := length_joinM (l.take k) (fun t ht => HOk.out t (List.mem_of_mem_take ht))
      rw [List.length_take] at this
      omega
    clear hm HF HFew
    go_wp2_with fail
    go_loopw [3, 4] (fun y i wr => ∃ k : Nat, k ≤ l.length ∧ i = .int .i64 (k : Int) ∧ y = .string (st (joinM (l.take k))) ∧ (∀ t ∈ l.take k, formB t = true) ∧ Below w.heap.size w wr) (fun _ i _ => l.length - (intOf i).toNat)
    case atStart => exact ⟨0, by omega, rfl, rfl, (by simp), HB1.out⟩
    case round =>
      clear HB1
      obtain ⟨k, hk, rfl, rfl, hfm, hb⟩ := hrel
      have HFm := Lib.hid hfm
      have HB := Lib.hid hb
      clear hfm hb
      have hlen := HLen.out k hk
      by_cases hlt : k < l.length
      · have dlt : decide ((k : Int) < (l.length : Int)) = true := by simp; omega
        obtain rfl := HAd.out (by intro e; rw [e] at hlt; cases hlt)
        have hc := HRan.out k hlt
        have HTk := Lib.hid (HOk.out l[k] (List.getElem_mem hlt))
        have HSn : Hid (l.take (k + 1) = l.take k ++ [l[k]]) := Lib.hid (List.take_succ_eq_append_getElem hlt)
        have HEm : Hid (l.take k = [] ↔ k = 0) := Lib.hid (by
          rw [← List.length_eq_zero_iff, List.length_take]; omega)
        clear HRan HAd
        generalize l[k] = t at *
        have hgl : g < w.heap.size := block_lt_of_cell (hc 0 (.int .i64 t.k) rfl)
        have HCC := Lib.hid (fun W (h : Below w.heap.size w W) => (⟨by rw [h.cell (by exact hgl)]; exact hc 0 (.int .i64 t.k) rfl, by rw [h.cell (by exact hgl)]; exact hc 1 (.string (st t.s)) rfl, by rw [h.cell (by exact hgl)]; exact hc 2 (.int .i64 t.n) rfl⟩ : W.cell? ⟨g, o + k * 3, none⟩ = some (.int .i64 t.k) ∧ W.cell? ⟨g, o + k * 3 + 1, none⟩ = some (.string (st t.s)) ∧ W.cell? ⟨g, o + k * 3 + 2, none⟩ = some (.int .i64 t.n)))
        clear hc hgl
        have HG := Lib.hid (fun W => refFormed_any W t HTk.out.1)
        have HR := Lib.hid (fun (hf : formB t = true) W => refShow_any W t HTk.out.1 (by have := HTk.out.2; omega) (by
          intro h
          unfold formB at hf
          rcases h with h | h
          · rw [if_neg (by omega), if_pos h] at hf; simp only [Bool.and_eq_true, decide_eq_true_eq] at hf; exact hf.2
          · rw [if_neg (by omega), if_neg (by omega), if_neg (by omega), if_pos h] at hf; simp only [Bool.and_eq_true, decide_eq_true_eq] at hf; exact hf.2.1))
        have HV : Hid (t.val = .agg #[.int .i64 t.k, .string (st t.s), .int .i64 t.n]) := Lib.hid rfl
        have HShL := Lib.hid (length_shM t HTk.out.1 HTk.out.2)
        obtain ⟨s, hs⟩ : ∃ s, st t.s = s := ⟨_, rfl⟩
        rw [hs] at HCC HV
        rw [HV.out] at HG HR
        clear hs
        obtain ⟨f, hf⟩ : ∃ f, formB t = f := ⟨_, rfl⟩
        rw [hf] at HG HR
        have HFt := Lib.hid hf
        clear hf
        obtain ⟨c0, c1, c2⟩ := HCC.out wr HB.out
        go_wp2_with fail
        refine (HG.out wr).mono ?_
        rintro e w3 ⟨rfl, hb3⟩
        have HB3 := Lib.hid (HB.out.trans (hb3.mono HB.out.size))
        clear hb3 c0 c1 c2 HB
        cases f with
        | false =>
          go_wp2_with fail
          go_ret
          exact ⟨rfl, HB3.out⟩
        | true =>
          have HR2 := Lib.hid (HR.out rfl)
          have HSh : Hid (shM t = showM t) := Lib.hid (shM_form HFt.out)
          rw [← HSh.out] at HR2
          clear HR
          obtain ⟨c0, c1, c2⟩ := HCC.out w3 HB3.out
          have HFm2 : Hid (∀ t ∈ l.take (k + 1), formB t = true) := Lib.hid (by
            rw [HSn.out]
            intro x hx
            rcases List.mem_append.1 hx with hx | hx
            · exact HFm.out x hx
            · obtain rfl := List.mem_singleton.1 hx; exact HFt.out)
          have hshl := HShL.out
          by_cases h0 : k = 0
          · have d0 : decide ((0 : Int) < (k : Int)) = false := by simp; omega
            have d0P : (0 < k) = False := by simp; omega
            have H0 := Lib.hid h0
            clear h0
            have HY : Hid (joinM (l.take k) = []) := Lib.hid (by rw [HEm.out.2 H0.out]; rfl)
            have HY2 : Hid (joinM (l.take (k + 1)) = shM t) := Lib.hid (by rw [HSn.out, HEm.out.2 H0.out, List.nil_append, joinM_one])
            have hap := st_append (joinM (l.take k)) (shM t)
            have HE : Hid (st (joinM (l.take k) ++ shM t) = st (joinM (l.take (k + 1)))) := Lib.hid (by rw [HY.out, HY2.out]; rfl)
            have hno : ¬ (9223372036854775807 < (st (joinM (l.take k))).size + (st (shM t)).size) := by rw [size_st, size_st]; omega
            clear HY HY2 HSn
            generalize st (joinM (l.take k) ++ shM t) = Y2 at *
            generalize st (joinM (l.take k)) = Y at *
            generalize st (shM t) = S at *
            go_wp2_with fail
            refine (HR2.out w3).mono ?_
            rintro e w4 ⟨rfl, hb4⟩
            have HB4 := Lib.hid (HB3.out.trans (hb4.mono HB3.out.size))
            clear hb4 c0 c1 c2 HB3
            go_wp2_with fail
            go_roundw
            case rel => exact ⟨k + 1, by omega, by go_num, by rw [HE.out], HFm2.out, HB4.out⟩
            case measure => simp [intOf]; omega
          · have d0 : decide ((0 : Int) < (k : Int)) = true := by simp; omega
            have d0P : (0 < k) = True := by simp; omega
            have H0 := Lib.hid h0
            clear h0
            have hap1 : st (joinM (l.take k)) ++ (⟨#[32]⟩ : ByteArray) = st (joinM (l.take k) ++ [32]) := st_append _ _
            have hap2 := st_append (joinM (l.take k) ++ [32]) (shM t)
            have HE : Hid (st (joinM (l.take k) ++ [32] ++ shM t) = st (joinM (l.take (k + 1)))) := Lib.hid (by rw [HSn.out, joinM_snoc _ _ (fun e => H0.out (HEm.out.1 e))]; simp)
            have hno1 : ¬ (9223372036854775807 < (st (joinM (l.take k))).size + (⟨#[32]⟩ : ByteArray).size) := by
              rw [size_st]
              show ¬ (9223372036854775807 < (joinM (l.take k)).length + 1)
              omega
            have hno2 : ¬ (9223372036854775807 < (st (joinM (l.take k) ++ [32])).size + (st (shM t)).size) := by rw [size_st, size_st]; simp only [List.length_append, List.length_cons, List.length_nil]; omega
            clear HSn
            generalize st (joinM (l.take k) ++ [32] ++ shM t) = Y2 at *
            generalize st (joinM (l.take k) ++ [32]) = Y1 at *
            generalize st (joinM (l.take k)) = Y at *
            generalize st (shM t) = S at *
            go_wp2_with fail
            refine (HR2.out w3).mono ?_
            rintro e w4 ⟨rfl, hb4⟩
            have HB4 := Lib.hid (HB3.out.trans (hb4.mono HB3.out.size))
            clear hb4 c0 c1 c2 HB3
            go_wp2_with fail
            go_roundw
            case rel => exact ⟨k + 1, by omega, by go_num, by rw [HE.out], HFm2.out, HB4.out⟩
            case measure => simp [intOf]; omega
      · have dlt : decide ((k : Int) < (l.length : Int)) = false := by simp; omega
        obtain rfl : k = l.length := by omega
        rw [List.take_length] at HFm hlen ⊢
        have HJ := Lib.hid (fun W (h : Below w.heap.size w W) => join_any W (HW.out.low h h9) (by have := h.size; omega) ad g o cp l (HRow.out W h) (by omega) HOk.out)
        have HL := Lib.hid (fun W (h : Below w.heap.size w W) => lex_any W (HW.out.low h h9) (joinM l) (by omega))
        have HLn := Lib.hid (lexM_long (joinM l))
        have HLs := Lib.hid (lexM_join l (fun t ht => (HOk.out t ht).1) HFm.out)
        have hsz := size_st (joinM l)
        clear HFm HLen HAd HRan
        generalize joinM l = J at *
        obtain ⟨S, hS⟩ : ∃ S, st J = S := ⟨_, rfl⟩
        rw [hS] at HJ HL hsz ⊢
        clear hS
        go_wp2_with fail
        refine (HJ.out wr HB.out).mono ?_
        rintro e w3 ⟨rfl, hb3⟩
        have HB3 := Lib.hid (HB.out.trans (hb3.mono HB.out.size))
        clear hb3 HB HJ
        by_cases h4 : 4096 < J.length
        · have d4 : decide ((4096 : Int) < (J.length : Int)) = true := by simp; omega
          have d4P : (4096 < J.length) = True := by simp; omega
          have hlx := HL.out w3 HB3.out
          rw [HLn.out h4] at hlx
          have HLX : Hid (Calls Tryd.prog 9 #[.string S] w3 fun e w' => ∃ v, e = .returned (.tuple #[v, .int .i64 0, .int .i64 3]) ∧ OwnT w' w3.heap.size v [] ∧ Below w3.heap.size w3 w') := Lib.hid hlx
          clear hlx h4
          go_wp2_with fail
          refine HLX.out.mono ?_
          rintro e w4 ⟨v, rfl, hown, hb4⟩
          have HB4 := Lib.hid (HB3.out.trans (hb4.mono HB3.out.size))
          clear hown hb4
          go_wp2_with fail
          go_ret
          exact ⟨rfl, HB4.out⟩
        · have d4 : decide ((4096 : Int) < (J.length : Int)) = false := by simp; omega
          have d4P : (4096 < J.length) = False := by simp; omega
          have hlx := HL.out w3 HB3.out
          rw [HLs.out (by omega) (by omega)] at hlx
          have HLX : Hid (Calls Tryd.prog 9 #[.string S] w3 fun e w' => ∃ v, e = .returned (.tuple #[v, .int .i64 0, .int .i64 0]) ∧ OwnT w' w3.heap.size v l ∧ Below w3.heap.size w3 w') := Lib.hid hlx
          clear hlx h4
          go_wp2_with fail
          refine HLX.out.mono ?_
          rintro e w4 ⟨v, rfl, hown, hb4⟩
          have HB4 := Lib.hid (HB3.out.trans (hb4.mono HB3.out.size))
          obtain ⟨ad2, g2, cp2, rfl, hrow2, _⟩ := hown.cells
          have HSm := Lib.hid (same_any w4 ad2 ad g2 0 cp2 g o cp l hrow2 (HRow.out w4 HB4.out) (by omega))
          clear hown hb4 hrow2
          go_wp2_with fail
          refine HSm.out.mono ?_
          rintro e w5 ⟨rfl, hb5⟩
          have HB5 := Lib.hid (HB4.out.trans (hb5.mono HB4.out.size))
          clear hb5
          go_wp2_with fail
          go_ret
          exact ⟨rfl, HB5.out⟩
end Go.Proofs.YtcmnfbjlhdfmgaaDoor
