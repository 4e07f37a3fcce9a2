/- Blanks, line feeds and comments between tokens change nothing. -/
import Derived.Test.YtcmnfbjlhdfmgaaDoorLGapM
namespace Go.Proofs.YtcmnfbjlhdfmgaaDoor
open Go.RowKit

set_option maxRecDepth 100000 in
theorem run_index_gap (note : List UInt8) (q : Nat) (hq : q < 4) (N2 : ByteArray) (hN : N2 = st ([32, 35] ++ note ++ [10])) (w : World) :
    (Instr.index 37 (.agg #[.string ⟨#[32]⟩, .string ⟨#[10]⟩, .string N2, .string ⟨#[10, 10, 32, 32]⟩]) (.int .u8 (q : Int))).run Tryd.prog w = .ok (.string (st (gapK note q))) w := by
  subst hN
  rcases (by omega : q = 0 ∨ q = 1 ∨ q = 2 ∨ q = 3) with rfl | rfl | rfl | rfl
  all_goals go_simp
  all_goals rfl
set_option maxRecDepth 100000 in
set_option maxHeartbeats 8000000 in
theorem lexGaps_walk (w : World) (hw : LexW w) (h9 : 9 ≤ w.heap.size) (ad : Option Addr) (g o cp : Nat) (l : List Tk) (hr : TokAt w ad g o l) (hop : ∀ x ∈ l, x.Wide) (hm : l.length ≤ maxLen)
    (ad2 : Option Addr) (g2 o2 cp2 : Nat) (gl : List UInt8) (hr2 : BytAt w ad2 g2 o2 gl) (hm2 : gl.length ≤ maxLen) (note : List UInt8) (hnl : note.length ≤ maxLen) :
    Calls Tryd.prog 6 #[.slice ad l.length cp, .slice ad2 gl.length cp2, .string (st note)] w fun e w' => e = .returned (.bool true) ∧ Below w.heap.size w w' := by
  have HW := Lib.hid hw
  have HAw := Lib.hid (fun W (h : Below w.heap.size w W) => awake_any W (hw.low h h9))
  have hgl : l ≠ [] → g < w.heap.size := fun h => hr.lt (by omega) (fun _ => rfl) h
  have HRow := Lib.hid (fun W (h : Below w.heap.size w W) => hr.below h hgl)
  have HFew := Lib.hid (fun W (h : Below w.heap.size w W) => few_any W ad g o cp l (hr.below h hgl) hm 40)
  have HAd := Lib.hid hr.addr
  have HRan := Lib.hid hr.range
  have HAd2 := Lib.hid hr2.addr
  have HC2 := Lib.hid hr2.cell
  have HOp := Lib.hid hop
  have hsz := size_st note
  have HIx := Lib.hid (fun (w : World) (k : Nat) (c : UInt8) (h : note[k]? = some c) => run_index_st w note k c h)
  have HSn0 : Hid (∀ x, st note = x → (⟨#[32, 35]⟩ : ByteArray) ++ x = st ([32, 35] ++ note)) := Lib.hid fun x h => by rw [← h]; exact st_append [32, 35] note
  clear hr hr2 hop hw hgl
  unfold maxLen at hm hm2 hnl
  obtain ⟨F, hF⟩ : ∃ F, fewT l 40 = F := ⟨_, rfl⟩
  rw [hF] at HFew
  have HF := Lib.hid hF
  clear hF
  obtain ⟨S, hS⟩ : ∃ S, st note = S := ⟨_, rfl⟩
  have HSn := Lib.hid (HSn0.out S hS)
  rw [hS] at hsz HIx ⊢
  clear hS HSn0
  go_enter Tryd.func6, Tryd.ntmps6
  go_wp2_with fail
  refine (HAw.out w (Below.refl _ _)).mono ?_
  rintro e w1 ⟨rfl, hb1⟩
  have HB1 := Lib.hid hb1
  clear hb1
  go_wp2_with fail
  refine (HFew.out w1 HB1.out).mono ?_
  rintro e w2 ⟨rfl, rfl⟩
  cases F with
  | false =>
    go_wp2_with fail
    refine (HAw.out w1 HB1.out).mono ?_
    rintro e w3 ⟨rfl, hb3⟩
    have HB3 := Lib.hid (HB1.out.trans (hb3.mono HB1.out.size))
    clear hb3
    go_wp2_with fail
    go_ret
    exact ⟨rfl, HB3.out⟩
  | true =>
    by_cases h20 : 20 < note.length
    · have d20 : decide ((20 : Int) < (note.length : Int)) = true := by simp; omega
      have d20P : (20 < note.length) = True := by simp; omega
      clear h20
      go_wp2_with fail
      refine (HAw.out w1 HB1.out).mono ?_
      rintro e w3 ⟨rfl, hb3⟩
      have HB3 := Lib.hid (HB1.out.trans (hb3.mono HB1.out.size))
      clear hb3
      go_wp2_with fail
      go_ret
      exact ⟨rfl, HB3.out⟩
    have d20 : decide ((20 : Int) < (note.length : Int)) = false := by simp; omega
    have d20P : (20 < note.length) = False := by simp; omega
    have hn20 : note.length ≤ 20 := by omega
    clear h20
    have hfew := few_all (by omega) HF.out
    have hl40 := hfew.1
    have HOk : Hid (∀ t ∈ l, t.Ok ∧ t.s.length ≤ 200) := Lib.hid fun t ht => ⟨(HOp.out t ht).ok (by have := hfew.2 t ht; omega), hfew.2 t ht⟩
    clear hfew hm HF HFew hnl
    have hm2' : gl.length ≤ 9223372036854775807 := by omega
    clear hm2
    go_wp2_with fail
    go_loopw [7] (fun i wr => ∃ k : Nat, k ≤ note.length ∧ i = .int .i64 (k : Int) ∧ (∀ c ∈ note.take k, c.toNat ≠ 10) ∧ wr = w1) (fun i _ => note.length - (intOf i).toNat)
    case atStart => exact ⟨0, by omega, rfl, (by simp), rfl⟩
    case round =>
      obtain ⟨k, hk, rfl, hno, rfl⟩ := hrel
      have HNo := Lib.hid hno
      clear hno
      by_cases hlt : k < note.length
      · have dlt : decide ((k : Int) < (note.length : Int)) = true := by simp; omega
        obtain ⟨c, hc⟩ : ∃ c, note[k]? = some c := ⟨note[k], List.getElem?_eq_getElem hlt⟩
        have hix := fun w => HIx.out w k c hc
        have HT : Hid (note.take (k + 1) = note.take k ++ [c]) := Lib.hid (by rw [List.take_add_one, hc]; rfl)
        clear hc
        by_cases h10 : c.toNat = 10
        · have d10 : ((c.toNat : Int) == 10) = true := by rw [h10]; rfl
          clear h10
          go_wp2_with fail
          go_ret
          exact ⟨rfl, HB1.out⟩
        · have d10 : ((c.toNat : Int) == 10) = false := by simp; omega
          have H10 := Lib.hid h10
          clear h10
          go_wp2_with fail
          go_roundw
          case rel => exact ⟨k + 1, by omega, by go_num, (by
            rw [HT.out]
            intro x hx
            rcases List.mem_append.1 hx with hx | hx
            · exact HNo.out x hx
            · obtain rfl := List.mem_singleton.1 hx; exact H10.out), by first | rfl | trivial⟩
          case measure => simp [intOf]; omega
      · have dlt : decide ((k : Int) < (note.length : Int)) = false := by simp; omega
        obtain rfl : k = note.length := by omega
        rw [List.take_length] at HNo
        clear HIx
        go_wp2_with fail
        obtain ⟨qf, hqf⟩ : ∃ qf : Nat → Nat, ∀ i, qf i = ((gl[i]?).map (·.toNat % 4)).getD 0 := ⟨_, fun _ => rfl⟩
        obtain ⟨G, hG⟩ : ∃ G : Nat → List UInt8, ∀ k, G k = gtxt (prs (fun i => gapK note (qf i)) 0 (l.take k)) := ⟨_, fun _ => rfl⟩
        have HLen : Hid (∀ k, k ≤ l.length → (G k).length ≤ 20000) := Lib.hid fun k hk => by
          have := length_gtxt note hn20 qf (l.take k) 0 (fun t ht => HOk.out t (List.mem_of_mem_take ht))
          rw [List.length_take] at this
          rw [hG]; omega
        have HG0 : Hid (st (G 0) = ⟨#[]⟩) := Lib.hid (by rw [hG]; rfl)
        have HGl : Hid ((∀ t ∈ l, formB t = true) → (G l.length ++ (32 :: 35 :: note)).length ≤ 4096 → lexM (G l.length ++ (32 :: 35 :: note)) = (l, 0, 0)) := Lib.hid fun hF h4 => by
          rw [hG, List.take_length] at h4 ⊢
          exact lexM_gaps note HNo.out qf l (fun t ht => (HOk.out t ht).1) hF (by omega) h4
        have HGs : Hid (∀ k (h : k < l.length), G (k + 1) = G k ++ (gapK note (qf k) ++ shM l[k])) := Lib.hid fun k h => by
          rw [hG, hG, List.take_succ_eq_append_getElem h, prs_snoc, gtxt_snoc, List.length_take, Nat.zero_add, Nat.min_eq_left (by omega)]
        have HQ1 : Hid (∀ k (h : k < gl.length), qf k = gl[k].toNat % 4) := Lib.hid fun k h => by rw [hqf, List.getElem?_eq_getElem h]; rfl
        have HQ0 : Hid (∀ k, ¬ k < gl.length → qf k = 0) := Lib.hid fun k h => by rw [hqf, List.getElem?_eq_none (by omega)]; rfl
        have HGap := Lib.hid (fun q => length_gapK note hn20 q)
        have HIdx := Lib.hid (fun q (hq : q < 4) w => run_index_gap note q hq _ rfl w)
        have HN2 : Hid (st ([32, 35] ++ note) ++ (⟨#[10]⟩ : ByteArray) = st ([32, 35] ++ note ++ [10])) := Lib.hid (st_append _ _)
        have HSz1 := Lib.hid (size_st ([32, 35] ++ note))
        clear hG hqf HNo
        go_loopw [8, 9] (fun y i wr => ∃ k : Nat, k ≤ l.length ∧ i = .int .i64 (k : Int) ∧ y = .string (st (G k)) ∧ (∀ t ∈ l.take k, formB t = true) ∧ Below w.heap.size w wr) (fun _ i _ => l.length - (intOf i).toNat)
        case atStart => exact ⟨0, by omega, rfl, by rw [HG0.out], (by simp), HB1.out⟩
        case round =>
          clear HB1 HG0
          obtain ⟨k, hk, rfl, rfl, hfm, hb⟩ := hrel
          have HFm := Lib.hid hfm
          have HB := Lib.hid hb
          clear hfm hb
          have hlen := HLen.out k hk
          by_cases hlt : k < l.length
          · have dlt : decide ((k : Int) < (l.length : Int)) = true := by simp; omega
            obtain rfl := HAd.out (by intro e; rw [e] at hlt; cases hlt)
            have hc := HRan.out k hlt
            have HTk := Lib.hid (HOk.out l[k] (List.getElem_mem hlt))
            have HSk : Hid (l.take (k + 1) = l.take k ++ [l[k]]) := Lib.hid (List.take_succ_eq_append_getElem hlt)
            have HGk := Lib.hid (HGs.out k hlt)
            clear HRan HAd HGs HGl HLen
            generalize l[k] = t at *
            have hgl : g < w.heap.size := block_lt_of_cell (hc 0 (.int .i64 t.k) rfl)
            have HCC := Lib.hid (fun W (h : Below w.heap.size w W) => (⟨by rw [h.cell (by exact hgl)]; exact hc 0 (.int .i64 t.k) rfl, by rw [h.cell (by exact hgl)]; exact hc 1 (.string (st t.s)) rfl, by rw [h.cell (by exact hgl)]; exact hc 2 (.int .i64 t.n) rfl⟩ : W.cell? ⟨g, o + k * 3, none⟩ = some (.int .i64 t.k) ∧ W.cell? ⟨g, o + k * 3 + 1, none⟩ = some (.string (st t.s)) ∧ W.cell? ⟨g, o + k * 3 + 2, none⟩ = some (.int .i64 t.n)))
            have HRG := Lib.hid (fun W (h : Below w.heap.size w W) => show W.rangeAt g (o + k * 3) [.int .i64 t.k, .string (st t.s), .int .i64 t.n] from fun j v hv => by rw [h.cell (by exact hgl)]; exact hc j v hv)
            clear hc hgl
            have HG := Lib.hid (fun W => refFormed_any W t HTk.out.1)
            have HR := Lib.hid (fun (hf : formB t = true) W => refShow_any W t HTk.out.1 (by have := HTk.out.2; omega) (by
              intro h
              unfold formB at hf
              rcases h with h | h
              · rw [if_neg (by omega), if_pos h] at hf; simp only [Bool.and_eq_true, decide_eq_true_eq] at hf; exact hf.2
              · rw [if_neg (by omega), if_neg (by omega), if_neg (by omega), if_pos h] at hf; simp only [Bool.and_eq_true, decide_eq_true_eq] at hf; exact hf.2.1))
            have HV : Hid (t.val = .agg #[.int .i64 t.k, .string (st t.s), .int .i64 t.n]) := Lib.hid rfl
            have HShL := Lib.hid (length_shM t HTk.out.1 HTk.out.2)
            obtain ⟨s, hs⟩ : ∃ s, st t.s = s := ⟨_, rfl⟩
            rw [hs] at HCC HV HRG
            rw [HV.out] at HG HR
            clear hs
            obtain ⟨f, hf⟩ : ∃ f, formB t = f := ⟨_, rfl⟩
            rw [hf] at HG HR
            have HFt := Lib.hid hf
            clear hf
            obtain ⟨c0, c1, c2⟩ := HCC.out wr HB.out
            go_wp2_with fail
            refine (HG.out wr).mono ?_
            rintro e w3 ⟨rfl, hb3⟩
            have HB3 := Lib.hid (HB.out.trans (hb3.mono HB.out.size))
            clear hb3 c0 c1 c2 HB
            cases f with
            | false =>
              go_wp2_with fail
              go_ret
              exact ⟨rfl, HB3.out⟩
            | true =>
              have HR2 := Lib.hid (HR.out rfl)
              have HSh : Hid (shM t = showM t) := Lib.hid (shM_form HFt.out)
              rw [← HSh.out] at HR2
              clear HR HCC
              have HFm2 : Hid (∀ t ∈ l.take (k + 1), formB t = true) := Lib.hid (by
                rw [HSk.out]
                intro x hx
                rcases List.mem_append.1 hx with hx | hx
                · exact HFm.out x hx
                · obtain rfl := List.mem_singleton.1 hx; exact HFt.out)
              have hshl := HShL.out
              by_cases hk2 : k < gl.length
              · have dk2 : decide ((k : Int) < (gl.length : Int)) = true := by simp; omega
                obtain rfl := HAd2.out (by intro e; rw [e] at hk2; cases hk2)
                have hc8 := HC2.out k hk2 0 (by omega)
                have hq := HQ1.out k hk2
                clear HC2 HAd2 HQ1 HQ0
                generalize gl[k] = b at *
                have hg2 : g2 < w.heap.size := block_lt_of_cell (v := .int .u8 (b.toNat : Int)) hc8
                have hcb : w3.cell? ⟨g2, o2 + k, none⟩ = some (.int .u8 (b.toNat : Int)) := by
                  rw [HB3.out.cell (by exact hg2)]
                  rw [Nat.mul_one, Nat.add_zero] at hc8
                  exact hc8
                have hmd : ((b.toNat : Int)).tmod 4 = ((b.toNat % 4 : Nat) : Int) := by rw [Int.tmod_eq_emod_of_nonneg (by omega)]; rfl
                rw [← hq] at hmd
                have hq4 : qf k < 4 := by omega
                have hidx := HIdx.out (qf k) hq4
                have hgk := HGap.out (qf k)
                clear hc8 hq hg2 HIdx HGap
                generalize qf k = q at *
                have hapE := HSn.out
                have hno1 : ¬ (9223372036854775807 < (⟨#[32, 35]⟩ : ByteArray).size + S.size) := by
                  show ¬ (9223372036854775807 < 2 + S.size)
                  omega
                have hapF := HN2.out
                have hno2 : ¬ (9223372036854775807 < (st ([32, 35] ++ note)).size + (⟨#[10]⟩ : ByteArray).size) := by
                  rw [HSz1.out]
                  show ¬ (9223372036854775807 < ([32, 35] ++ note).length + 1)
                  simp only [List.length_append, List.length_cons, List.length_nil]; omega
                have hapG := st_append (gapK note q) (shM t)
                have hno3 : ¬ (9223372036854775807 < (st (gapK note q)).size + (st (shM t)).size) := by rw [size_st, size_st]; omega
                have hapH := st_append (G k) (gapK note q ++ shM t)
                have hno4 : ¬ (9223372036854775807 < (st (G k)).size + (st (gapK note q ++ shM t)).size) := by rw [size_st, size_st]; simp only [List.length_append]; omega
                have HE : Hid (st (G k ++ (gapK note q ++ shM t)) = st (G (k + 1))) := Lib.hid (by rw [HGk.out])
                clear HGk HN2 HSn HSz1
                generalize st (G k ++ (gapK note q ++ shM t)) = Y2 at *
                generalize st (G k) = Y at *
                generalize st (gapK note q ++ shM t) = GS at *
                generalize st (gapK note q) = GK at *
                generalize st (shM t) = SH at *
                generalize st ([32, 35] ++ note ++ [10]) = N2 at *
                generalize st ([32, 35] ++ note) = Z at *
                go_wp2_with fail
                refine wp_region_quietB (by kernel_rfl) (by kernel_rfl) ?_
                iterate 10 (go_big_quiet_step (fail))
                refine wpQuiet_load_midG (by rfl) 30 (.tmp 67) rfl g (o + k * 3) rfl [.int .i64 t.k, .string s, .int .i64 t.n] _ (fun w' ⟨m, hw'⟩ => hw' ▸ HRG.out _ (HB3.out.trans (m.below.mono HB3.out.size))) Tryd.underlying30 rfl infoTok ?_
                simp only [Act.put, List.setIfInBounds_toArray, List.set_cons_succ, List.set_cons_zero]
                iterate 1 (go_big_quiet_step ((go_at_call 15; with_reducible exact Calls.quiet_b (HR2.out _))))
                iterate 3 (go_big_quiet_step (fail))
                refine wpQuiet_nil ?_
                intro m
                have HB4 := Lib.hid (HB3.out.trans (m.below.mono HB3.out.size))
                generalize m.wr = w4 at *
                clear m
                go_wp2_with fail
                go_roundw
                case rel => exact ⟨k + 1, by omega, by go_num, by rw [HE.out], HFm2.out, HB4.out⟩
                case measure => simp [intOf]; omega
              · have dk2 : decide ((k : Int) < (gl.length : Int)) = false := by simp; omega
                have hq := HQ0.out k hk2
                have hidx : ∀ w, (Instr.index 37 (.agg #[.string ⟨#[32]⟩, .string ⟨#[10]⟩, .string (st ([32, 35] ++ note ++ [10])), .string ⟨#[10, 10, 32, 32]⟩]) (.int .u8 0)).run Tryd.prog w = .ok (.string (st (gapK note 0))) w := HIdx.out 0 (by omega)
                have hgk := HGap.out 0
                clear HC2 HAd2 HQ1 HQ0 HIdx HGap
                rw [hq] at HGk
                clear hq
                have hapE := HSn.out
                have hno1 : ¬ (9223372036854775807 < (⟨#[32, 35]⟩ : ByteArray).size + S.size) := by
                  show ¬ (9223372036854775807 < 2 + S.size)
                  omega
                have hapF := HN2.out
                have hno2 : ¬ (9223372036854775807 < (st ([32, 35] ++ note)).size + (⟨#[10]⟩ : ByteArray).size) := by
                  rw [HSz1.out]
                  show ¬ (9223372036854775807 < ([32, 35] ++ note).length + 1)
                  simp only [List.length_append, List.length_cons, List.length_nil]; omega
                have hapG := st_append (gapK note 0) (shM t)
                have hno3 : ¬ (9223372036854775807 < (st (gapK note 0)).size + (st (shM t)).size) := by rw [size_st, size_st]; omega
                have hapH := st_append (G k) (gapK note 0 ++ shM t)
                have hno4 : ¬ (9223372036854775807 < (st (G k)).size + (st (gapK note 0 ++ shM t)).size) := by rw [size_st, size_st]; simp only [List.length_append]; omega
                have HE : Hid (st (G k ++ (gapK note 0 ++ shM t)) = st (G (k + 1))) := Lib.hid (by rw [HGk.out])
                clear HGk HN2 HSn HSz1
                generalize st (G k ++ (gapK note 0 ++ shM t)) = Y2 at *
                generalize st (G k) = Y at *
                generalize st (gapK note 0 ++ shM t) = GS at *
                generalize st (gapK note 0) = GK at *
                generalize st (shM t) = SH at *
                generalize st ([32, 35] ++ note ++ [10]) = N2 at *
                generalize st ([32, 35] ++ note) = Z at *
                go_wp2_with fail
                refine wp_region_quietB (by kernel_rfl) (by kernel_rfl) ?_
                iterate 10 (go_big_quiet_step (fail))
                refine wpQuiet_load_midG (by rfl) 30 (.tmp 67) rfl g (o + k * 3) rfl [.int .i64 t.k, .string s, .int .i64 t.n] _ (fun w' ⟨m, hw'⟩ => hw' ▸ HRG.out _ (HB3.out.trans (m.below.mono HB3.out.size))) Tryd.underlying30 rfl infoTok ?_
                simp only [Act.put, List.setIfInBounds_toArray, List.set_cons_succ, List.set_cons_zero]
                iterate 1 (go_big_quiet_step ((go_at_call 15; with_reducible exact Calls.quiet_b (HR2.out _))))
                iterate 3 (go_big_quiet_step (fail))
                refine wpQuiet_nil ?_
                intro m
                have HB4 := Lib.hid (HB3.out.trans (m.below.mono HB3.out.size))
                generalize m.wr = w4 at *
                clear m
                go_wp2_with fail
                go_roundw
                case rel => exact ⟨k + 1, by omega, by go_num, by rw [HE.out], HFm2.out, HB4.out⟩
                case measure => simp [intOf]; omega
          · have dlt : decide ((k : Int) < (l.length : Int)) = false := by simp; omega
            obtain rfl : k = l.length := by omega
            rw [List.take_length] at HFm
            have hapE := HSn.out
            have hno1 : ¬ (9223372036854775807 < (⟨#[32, 35]⟩ : ByteArray).size + S.size) := by
              show ¬ (9223372036854775807 < 2 + S.size)
              omega
            have hap2 := st_append (G l.length) ([32, 35] ++ note)
            have hno2 : ¬ (9223372036854775807 < (st (G l.length)).size + (st ([32, 35] ++ note)).size) := by rw [size_st, size_st]; simp only [List.length_append, List.length_cons, List.length_nil]; omega
            have HJl : Hid ((G l.length ++ ([32, 35] ++ note)).length ≤ 30000) := Lib.hid (by simp only [List.length_append, List.length_cons, List.length_nil]; omega)
            have HGl' : Hid ((G l.length ++ ([32, 35] ++ note)).length ≤ 4096 → lexM (G l.length ++ ([32, 35] ++ note)) = (l, 0, 0)) := Lib.hid (HGl.out HFm.out)
            have HL := Lib.hid (fun W (h : Below w.heap.size w W) => lex_any W (HW.out.low h h9) (G l.length ++ ([32, 35] ++ note)) (by have := HJl.out; omega))
            have HLn := Lib.hid (lexM_long (G l.length ++ ([32, 35] ++ note)))
            have hszJ := size_st (G l.length ++ ([32, 35] ++ note))
            clear HGl HGs HQ1 HQ0 HIdx HN2 HLen HRan HAd HAd2 HC2 HFm hlen
            generalize G l.length ++ ([32, 35] ++ note) = J at *
            generalize st J = T at *
            generalize st (G l.length) = Y at *
            generalize st ([32, 35] ++ note) = Z at *
            by_cases h4 : 4096 < J.length
            · have d4 : decide ((4096 : Int) < (J.length : Int)) = true := by simp; omega
              have d4P : (4096 < J.length) = True := by simp; omega
              have hlx := HL.out wr HB.out
              rw [HLn.out h4] at hlx
              have HLX : Hid (Calls Tryd.prog 9 #[.string T] wr fun e w' => ∃ v, e = .returned (.tuple #[v, .int .i64 0, .int .i64 3]) ∧ OwnT w' wr.heap.size v [] ∧ Below wr.heap.size wr w') := Lib.hid hlx
              clear hlx h4
              go_wp2_with fail
              refine HLX.out.mono ?_
              rintro e w4 ⟨v, rfl, hown, hb4⟩
              have HB4 := Lib.hid (HB.out.trans (hb4.mono HB.out.size))
              clear hown hb4
              go_wp2_with fail
              go_ret
              exact ⟨rfl, HB4.out⟩
            · have d4 : decide ((4096 : Int) < (J.length : Int)) = false := by simp; omega
              have d4P : (4096 < J.length) = False := by simp; omega
              have hlx := HL.out wr HB.out
              rw [HGl'.out (by omega)] at hlx
              have HLX : Hid (Calls Tryd.prog 9 #[.string T] wr fun e w' => ∃ v, e = .returned (.tuple #[v, .int .i64 0, .int .i64 0]) ∧ OwnT w' wr.heap.size v l ∧ Below wr.heap.size wr w') := Lib.hid hlx
              clear hlx h4
              go_wp2_with fail
              refine HLX.out.mono ?_
              rintro e w4 ⟨v, rfl, hown, hb4⟩
              have HB4 := Lib.hid (HB.out.trans (hb4.mono HB.out.size))
              obtain ⟨ad3, g3, cp3, rfl, hrow3, _⟩ := hown.cells
              have HSm := Lib.hid (same_any w4 ad3 ad g3 0 cp3 g o cp l hrow3 (HRow.out w4 HB4.out) (by omega))
              clear hown hb4 hrow3
              go_wp2_with fail
              refine HSm.out.mono ?_
              rintro e w5 ⟨rfl, hb5⟩
              have HB5 := Lib.hid (HB4.out.trans (hb5.mono HB4.out.size))
              clear hb5
              go_wp2_with fail
              go_ret
              exact ⟨rfl, HB5.out⟩
end Go.Proofs.YtcmnfbjlhdfmgaaDoor
