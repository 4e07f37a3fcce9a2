/- P5.1: a list is checked against a head just if it is its own: the walk of the law. -/
import Derived.Test.YtmegncaadglhmaaDoorKQuiet
namespace Go.Proofs.YtmegncaadglhmaaDoor
open Go.RowKit

theorem set_count (P : List UInt8) (hP : P.length = 32) (n m : Int) : (HC P n).set 32 (.int .i64 m) = HC P m := by
  unfold HC
  rw [List.set_append_right _ _ (by simp [hP])]
  simp [hP]
theorem over_hash (P Q : List UInt8) (hP : P.length = 32) (hQ : Q.length = 32) (n : Int) : over (HC P n) 0 (Q.map B) = HC Q n := by
  unfold HC over
  simp [hQ, hP]
set_option maxRecDepth 100000 in
set_option maxHeartbeats 1000000 in
theorem checks_long (w : World) (ht : Tab w) (P : List UInt8) (hP : P.length = 32) (n : Int) (ps : List Part) (ap : Option Addr) (gp op cp : Nat) (hc : Came w ap gp op ps) (x y : Bool) (hf : (decide ((ps.length : Int) ≤ (20 : Nat)) && decide ((fewS (ps.take 200) : Int) ≤ 600)) = false) :
    Calls Tryd.prog 4 #[HV P n, .slice ap ps.length cp, .agg #[.bool x, .bool y]] w fun e w' => e = .returned (.bool true) ∧ Below w.heap.size w w' := by
  have h0 := ht.size
  have HT := Lib.hid ht
  have F : Hid (∀ W, Below w.heap.size w W → Calls Tryd.prog 9 #[.slice ap ps.length cp, .int .i64 20, .int .i64 600] W fun e w' => e = .returned (.bool false) ∧ W = w') := Lib.hid (by
    intro W hW; rw [← hf]; exact few_any W ps ap gp op cp 20 (by omega) 600 (hc.parts.below hW) hc.most hc.each)
  have hL33 := length_HC P hP n
  have hone := one_HC P n
  unfold HV
  generalize HC P n = L at *
  clear hc ht hf
  go_enter Tryd.func4, Tryd.ntmps4
  go_wp2_with fail
  generalize hW : World.alloc _ _ = W0 at *
  have hb0 : Below w.heap.size w W0 := by rw [← hW]; exact ((Below.refl _ _).alloc (Nat.le_refl _) _).alloc (by simp) _
  have HB0 := Lib.hid hb0
  clear hW hb0
  refine (awake_any W0 (HT.out.below HB0.out h0)).mono ?_
  rintro e w1 ⟨rfl, hb1⟩
  have HB1 := Lib.hid (HB0.out.trans (hb1.mono HB0.out.size))
  clear hb1
  go_wp2_with fail
  refine (F.out _ HB1.out).mono ?_
  rintro e w' ⟨rfl, rfl⟩
  go_wp2_with fail
  refine (awake_any w1 (HT.out.below HB1.out h0)).mono ?_
  rintro e w2 ⟨rfl, hb2⟩
  have HB2 := Lib.hid (HB1.out.trans (hb2.mono HB1.out.size))
  clear hb2
  go_wp2_with fail
  go_ret
  exact ⟨rfl, HB2.out⟩

set_option maxRecDepth 100000 in
set_option maxHeartbeats 2000000 in
theorem checks_ff (w : World) (ht : Tab w) (P : List UInt8) (hP : P.length = 32) (n : Int) (ps : List Part) (ap : Option Addr) (gp op cp : Nat) (hc : Came w ap gp op ps) (hf : (decide ((ps.length : Int) ≤ (20 : Nat)) && decide ((fewS (ps.take 200) : Int) ≤ (600 : Nat))) = true) :
    Calls Tryd.prog 4 #[HV P n, .slice ap ps.length cp, .agg #[.bool false, .bool false]] w fun e w' => e = .returned (.bool true) ∧ Below w.heap.size w w' := by
  have h0 := ht.size
  have HT := Lib.hid ht
  have F : Hid (∀ W, Below w.heap.size w W → Calls Tryd.prog 9 #[.slice ap ps.length cp, .int .i64 20, .int .i64 600] W fun e w' => e = .returned (.bool true) ∧ W = w') := Lib.hid (by
    intro W hW; rw [← hf]; exact few_any W ps ap gp op cp 20 (by omega) 600 (hc.parts.below hW) hc.most hc.each)
  obtain ⟨hl, hle⟩ := few_small ps 20 (by omega) 600 (by omega) hf
  have hle' : ∀ p ∈ ps, p.l.length ≤ 1000 := fun p hp => Nat.le_trans (hle p hp) (by omega)
  have HH : Hid (∀ W, Below w.heap.size w W → Calls Tryd.prog 12 #[.slice ap ps.length cp] W fun e w' => e = .returned (.agg ((folded z32 ps).map B).toArray) ∧ Below W.heap.size W w') := Lib.hid (by
    intro W hW; exact refHash_any W ps ap gp op cp (hc.parts.below hW) hc.nil (by have := hW.size; omega) hle' (by omega))
  have HCk : Hid (∀ (Q : List UInt8) (m : Int), Q.length = 32 → ∀ W, Below w.heap.size w W → Calls Tryd.prog 13 #[.agg (HC Q m).toArray, .slice ap ps.length cp] W fun e w' => e = .returned (.bool (folded z32 ps == Q && (ps.length : Int) == m)) ∧ Below W.heap.size W w') := Lib.hid (by
    intro Q m hQ W hW
    exact check_any W Q hQ m ps ap gp op cp (hc.parts.below hW) (HT.out.below hW h0) hle' (by omega))
  clear hc ht hf hle hle'
  have HFL := Lib.hid (length_folded z32 rfl ps)
  have hL33 := length_HC P hP n
  have hone := one_HC P n
  have HPL := Lib.hid hP
  have hX32 : ((folded z32 ps).map B).length = 32 := by simpa using length_folded z32 rfl ps
  have hXone := one_bytes (folded z32 ps)
  unfold HV
  generalize hL : HC P n = L at *
  have HL := Lib.hid hL
  clear hL
  generalize hXX : (folded z32 ps).map B = X at *
  have HX := Lib.hid hXX
  clear hXX
  go_enter Tryd.func4, Tryd.ntmps4
  go_wp2_with fail
  generalize hW : World.alloc _ _ = W0 at *
  have hb0 : Below w.heap.size w W0 := by rw [← hW]; exact ((Below.refl _ _).alloc (Nat.le_refl _) _).alloc (by simp) _
  have g3 : W0.heap[w.heap.size]? = some (.cells L.toArray 28 (0, 0)) := by rw [← hW, Below.heap_alloc _ _ _ (by simp)]; exact heap_alloc_new _ _
  have g5 : W0.heap[w.heap.size + 1]? = some (.cells #[.bool false, .bool false] 35 (0, 0)) := by rw [← hW]; exact heap_alloc2_new _ _ _
  have HB0 := Lib.hid hb0
  have G3 := Lib.hid g3
  have G5 := Lib.hid g5
  clear hW hb0 g3 g5
  refine (awake_any W0 (HT.out.below HB0.out h0)).mono ?_
  rintro e w1 ⟨rfl, hb1⟩
  have HB1 := Lib.hid (HB0.out.trans (hb1.mono HB0.out.size))
  have H3 := Lib.hid ((hb1.block _ (lt_block G3.out)).trans G3.out)
  have H5 := Lib.hid ((hb1.block _ (lt_block G5.out)).trans G5.out)
  clear hb1 G3 G5 HB0
  go_wp2_with fail
  refine (F.out _ HB1.out).mono ?_
  rintro e w' ⟨rfl, rfl⟩
  have c0 : w1.cell? ⟨w.heap.size + 1, 0, none⟩ = some (.bool false) := cell_block H5.out 0
  have c1 : w1.cell? ⟨w.heap.size + 1, 1, none⟩ = some (.bool false) := cell_block H5.out 1
  have hE : ∃ P1 : List UInt8, P1.length = 32 ∧ w1.heap[w.heap.size]? = some (.cells (HC P1 n).toArray 28 (0, 0)) := ⟨P, HPL.out, by rw [HL.out]; exact H3.out⟩
  have HE := Lib.hid hE
  have HB3 := HB1
  clear H3 H5 hE HB1 HL
  generalize w1 = W4 at *
  obtain ⟨P1, hP1, h4⟩ := HE.out
  have HE2 : Hid (∃ n1 : Int, W4.heap[w.heap.size]? = some (.cells (HC P1 n1).toArray 28 (0, 0))) := Lib.hid ⟨_, h4⟩
  have HB5 := HB3
  clear h4 HE HB3
  go_wp2_with fail
  generalize W4 = W5 at *
  obtain ⟨n1, h5⟩ := HE2.out
  have hD33 := length_HC P1 hP1 n1
  have H5 : Hid (∀ W : World, Below W5.heap.size W5 W → W.rangeAt w.heap.size 0 (P1.map B) ∧ W.cell? ⟨w.heap.size, 32, none⟩ = some (.int .i64 n1) ∧ W.rangeAt w.heap.size 0 (HC P1 n1)) := Lib.hid fun W hW => by
    have h := (hW.block _ (lt_block h5)).trans h5
    exact ⟨range_hash h, cell_count hP1 h, range_block h⟩
  have HC1 := Lib.hid (HCk.out P1 n1 hP1)
  have heq := eqlHash 26 (Or.inl rfl) P1 (folded z32 ps) hP1 HFL.out
  have hgu := fun x y => guardHash .eql P1 (folded z32 ps) x y
  rw [HX.out] at heq hgu
  have hP1X : (P1.map B).length = 32 := by simpa using hP1
  have HCM := Lib.hid (show (folded z32 ps == P1) = (P1 == folded z32 ps) by rw [Bool.eq_iff_iff, beq_iff_eq, beq_iff_eq]; exact ⟨Eq.symm, Eq.symm⟩)
  have HEQ := Lib.hid heq
  have HGU := Lib.hid hgu
  clear h5 HE2 HCk heq hgu F hP1
  generalize hD : HC P1 n1 = D at *
  generalize hPX : P1.map B = PX at *
  clear hD hPX
  generalize hcb : (P1 == folded z32 ps) = c at *
  rw [HCM.out] at HC1
  clear HCM hcb HX
  by_cases hn : n1 = (ps.length : Int)
  · have hne : (n1 == (ps.length : Int)) = true := by simpa using hn
    have HC2 : Hid (∀ W, Below w.heap.size w W → Calls Tryd.prog 13 #[.agg D.toArray, .slice ap ps.length cp] W fun e w' => e = .returned (.bool c) ∧ Below W.heap.size W w') := Lib.hid (by
      have := HC1.out
      rwa [show ((ps.length : Int) == n1) = true by simpa using hn.symm, Bool.and_true] at this)
    clear HC1 hn
    refine wp_region_quietB (by kernel_rfl) (by kernel_rfl) ?_
    refine wpQuiet_load_mid rfl 28 (.tmp 3) rfl w.heap.size 0 rfl D _ (fun w' ⟨m, hw'⟩ => hw' ▸ (H5.out _ m.below).2.2) Tryd.underlying28 rfl (infoHead _ hD33) ?_
    simp only [Act.put, List.setIfInBounds_toArray, List.set_cons_succ, List.set_cons_zero]
    iterate 3 (go_big_quiet_step ((go_at_call 13; with_reducible exact Calls.quiet_b (HC2.out _ (HB5.out.trans ((Bl.below _).mono HB5.out.size))))))
    refine wpQuiet_of_op rfl (.int .i64 n1) (fun w' ⟨m, hw'⟩ => by subst hw'; have c := (H5.out _ m.below).2.1; go_simp) ?_
    simp only [Act.put, List.setIfInBounds_toArray, List.set_cons_succ, List.set_cons_zero]
    iterate 5 (go_big_quiet_step (fail))
    refine wpQuiet_load_midG (by rfl) 26 (.tmp 34) rfl w.heap.size 0 rfl PX _ (fun w' ⟨m, hw'⟩ => hw' ▸ (H5.out _ m.below).1) Tryd.underlying26 rfl (infoHash _ hP1X) ?_
    simp only [Act.put, List.setIfInBounds_toArray, List.set_cons_succ, List.set_cons_zero]
    iterate 2 (go_big_quiet_step ((go_at_call 12; with_reducible exact Calls.quiet_b (HH.out _ (HB5.out.trans ((Bl.below _).mono HB5.out.size))))))
    refine wpQuiet_of_opG (by rfl) (.bool c) (fun w' _ => by have k := HEQ.out; have l := HGU.out; go_simp) ?_
    simp only [Act.put, List.setIfInBounds_toArray, List.set_cons_succ, List.set_cons_zero]
    iterate 3 (go_big_quiet_step (fail))
    refine wpQuiet_nil ?_
    intro m
    have HBM := Lib.hid (HB5.out.trans (m.below.mono HB5.out.size))
    go_wp2_with fail
    go_ret
    exact ⟨by first | rfl | simp, HBM.out⟩
  · have hne : (n1 == (ps.length : Int)) = false := by simpa using hn
    have HC2 : Hid (∀ W, Below w.heap.size w W → Calls Tryd.prog 13 #[.agg D.toArray, .slice ap ps.length cp] W fun e w' => e = .returned (.bool false) ∧ Below W.heap.size W w') := Lib.hid (by
      have := HC1.out
      rwa [show ((ps.length : Int) == n1) = false by simpa using fun h => hn h.symm, Bool.and_false] at this)
    clear HC1 hn
    refine wp_region_quietB (by kernel_rfl) (by kernel_rfl) ?_
    refine wpQuiet_load_mid rfl 28 (.tmp 3) rfl w.heap.size 0 rfl D _ (fun w' ⟨m, hw'⟩ => hw' ▸ (H5.out _ m.below).2.2) Tryd.underlying28 rfl (infoHead _ hD33) ?_
    simp only [Act.put, List.setIfInBounds_toArray, List.set_cons_succ, List.set_cons_zero]
    iterate 3 (go_big_quiet_step ((go_at_call 13; with_reducible exact Calls.quiet_b (HC2.out _ (HB5.out.trans ((Bl.below _).mono HB5.out.size))))))
    refine wpQuiet_of_op rfl (.int .i64 n1) (fun w' ⟨m, hw'⟩ => by subst hw'; have c := (H5.out _ m.below).2.1; go_simp) ?_
    simp only [Act.put, List.setIfInBounds_toArray, List.set_cons_succ, List.set_cons_zero]
    iterate 12 (go_big_quiet_step (fail))
    refine wpQuiet_nil ?_
    intro m
    have HBM := Lib.hid (HB5.out.trans (m.below.mono HB5.out.size))
    go_wp2_with fail
    go_ret
    exact ⟨by first | rfl | simp, HBM.out⟩

set_option maxRecDepth 100000 in
set_option maxHeartbeats 2000000 in
theorem checks_ft (w : World) (ht : Tab w) (P : List UInt8) (hP : P.length = 32) (n : Int) (ps : List Part) (ap : Option Addr) (gp op cp : Nat) (hc : Came w ap gp op ps) (hf : (decide ((ps.length : Int) ≤ (20 : Nat)) && decide ((fewS (ps.take 200) : Int) ≤ (600 : Nat))) = true) :
    Calls Tryd.prog 4 #[HV P n, .slice ap ps.length cp, .agg #[.bool false, .bool true]] w fun e w' => e = .returned (.bool true) ∧ Below w.heap.size w w' := by
  have h0 := ht.size
  have HT := Lib.hid ht
  have F : Hid (∀ W, Below w.heap.size w W → Calls Tryd.prog 9 #[.slice ap ps.length cp, .int .i64 20, .int .i64 600] W fun e w' => e = .returned (.bool true) ∧ W = w') := Lib.hid (by
    intro W hW; rw [← hf]; exact few_any W ps ap gp op cp 20 (by omega) 600 (hc.parts.below hW) hc.most hc.each)
  obtain ⟨hl, hle⟩ := few_small ps 20 (by omega) 600 (by omega) hf
  have hle' : ∀ p ∈ ps, p.l.length ≤ 1000 := fun p hp => Nat.le_trans (hle p hp) (by omega)
  have HH : Hid (∀ W, Below w.heap.size w W → Calls Tryd.prog 12 #[.slice ap ps.length cp] W fun e w' => e = .returned (.agg ((folded z32 ps).map B).toArray) ∧ Below W.heap.size W w') := Lib.hid (by
    intro W hW; exact refHash_any W ps ap gp op cp (hc.parts.below hW) hc.nil (by have := hW.size; omega) hle' (by omega))
  have HCk : Hid (∀ (Q : List UInt8) (m : Int), Q.length = 32 → ∀ W, Below w.heap.size w W → Calls Tryd.prog 13 #[.agg (HC Q m).toArray, .slice ap ps.length cp] W fun e w' => e = .returned (.bool (folded z32 ps == Q && (ps.length : Int) == m)) ∧ Below W.heap.size W w') := Lib.hid (by
    intro Q m hQ W hW
    exact check_any W Q hQ m ps ap gp op cp (hc.parts.below hW) (HT.out.below hW h0) hle' (by omega))
  clear hc ht hf hle hle'
  have HFL := Lib.hid (length_folded z32 rfl ps)
  have hL33 := length_HC P hP n
  have hone := one_HC P n
  have HPL := Lib.hid hP
  have hX32 : ((folded z32 ps).map B).length = 32 := by simpa using length_folded z32 rfl ps
  have hXone := one_bytes (folded z32 ps)
  unfold HV
  generalize hL : HC P n = L at *
  have HL := Lib.hid hL
  clear hL
  generalize hXX : (folded z32 ps).map B = X at *
  have HX := Lib.hid hXX
  clear hXX
  go_enter Tryd.func4, Tryd.ntmps4
  go_wp2_with fail
  generalize hW : World.alloc _ _ = W0 at *
  have hb0 : Below w.heap.size w W0 := by rw [← hW]; exact ((Below.refl _ _).alloc (Nat.le_refl _) _).alloc (by simp) _
  have g3 : W0.heap[w.heap.size]? = some (.cells L.toArray 28 (0, 0)) := by rw [← hW, Below.heap_alloc _ _ _ (by simp)]; exact heap_alloc_new _ _
  have g5 : W0.heap[w.heap.size + 1]? = some (.cells #[.bool false, .bool true] 35 (0, 0)) := by rw [← hW]; exact heap_alloc2_new _ _ _
  have HB0 := Lib.hid hb0
  have G3 := Lib.hid g3
  have G5 := Lib.hid g5
  clear hW hb0 g3 g5
  refine (awake_any W0 (HT.out.below HB0.out h0)).mono ?_
  rintro e w1 ⟨rfl, hb1⟩
  have HB1 := Lib.hid (HB0.out.trans (hb1.mono HB0.out.size))
  have H3 := Lib.hid ((hb1.block _ (lt_block G3.out)).trans G3.out)
  have H5 := Lib.hid ((hb1.block _ (lt_block G5.out)).trans G5.out)
  clear hb1 G3 G5 HB0
  go_wp2_with fail
  refine (F.out _ HB1.out).mono ?_
  rintro e w' ⟨rfl, rfl⟩
  have c0 : w1.cell? ⟨w.heap.size + 1, 0, none⟩ = some (.bool false) := cell_block H5.out 0
  have c1 : w1.cell? ⟨w.heap.size + 1, 1, none⟩ = some (.bool true) := cell_block H5.out 1
  have hE : ∃ P1 : List UInt8, P1.length = 32 ∧ w1.heap[w.heap.size]? = some (.cells (HC P1 n).toArray 28 (0, 0)) := ⟨P, HPL.out, by rw [HL.out]; exact H3.out⟩
  have HE := Lib.hid hE
  have HB3 := HB1
  clear H3 H5 hE HB1 HL
  generalize w1 = W4 at *
  obtain ⟨P1, hP1, h4⟩ := HE.out
  have hin : ∃ v, W4.cell? ⟨w.heap.size, 32, none⟩ = some v := ⟨_, cell_count hP1 h4⟩
  obtain ⟨v32, c32⟩ := hin
  have f32 := frozen_of_row W4 w.heap.size 32 _ _ h4
  have hend : (W4.setCell ⟨w.heap.size, 32, none⟩ (.int .i64 (ps.length : Int))).heap[w.heap.size]? = some (.cells (HC P1 ps.length).toArray 28 (0, 0)) := by
    rw [heap_setCell_same _ _ _ _ _ _ h4, List.setIfInBounds_toArray, set_count P1 hP1]
  have hb5 : Below w.heap.size w (W4.setCell ⟨w.heap.size, 32, none⟩ (.int .i64 (ps.length : Int))) := HB3.out.setCell (Nat.le_refl _) _
  have HE2 : Hid (∃ n1 : Int, (W4.setCell ⟨w.heap.size, 32, none⟩ (.int .i64 (ps.length : Int))).heap[w.heap.size]? = some (.cells (HC P1 n1).toArray 28 (0, 0))) := Lib.hid ⟨_, hend⟩
  have HB5 := Lib.hid hb5
  clear hend hb5 h4 HE HB3
  go_wp2_with fail
  generalize World.setCell _ _ _ = W5 at *
  clear c32 f32
  obtain ⟨n1, h5⟩ := HE2.out
  have hD33 := length_HC P1 hP1 n1
  have H5 : Hid (∀ W : World, Below W5.heap.size W5 W → W.rangeAt w.heap.size 0 (P1.map B) ∧ W.cell? ⟨w.heap.size, 32, none⟩ = some (.int .i64 n1) ∧ W.rangeAt w.heap.size 0 (HC P1 n1)) := Lib.hid fun W hW => by
    have h := (hW.block _ (lt_block h5)).trans h5
    exact ⟨range_hash h, cell_count hP1 h, range_block h⟩
  have HC1 := Lib.hid (HCk.out P1 n1 hP1)
  have heq := eqlHash 26 (Or.inl rfl) P1 (folded z32 ps) hP1 HFL.out
  have hgu := fun x y => guardHash .eql P1 (folded z32 ps) x y
  rw [HX.out] at heq hgu
  have hP1X : (P1.map B).length = 32 := by simpa using hP1
  have HCM := Lib.hid (show (folded z32 ps == P1) = (P1 == folded z32 ps) by rw [Bool.eq_iff_iff, beq_iff_eq, beq_iff_eq]; exact ⟨Eq.symm, Eq.symm⟩)
  have HEQ := Lib.hid heq
  have HGU := Lib.hid hgu
  clear h5 HE2 HCk heq hgu F hP1
  generalize hD : HC P1 n1 = D at *
  generalize hPX : P1.map B = PX at *
  clear hD hPX
  generalize hcb : (P1 == folded z32 ps) = c at *
  rw [HCM.out] at HC1
  clear HCM hcb HX
  by_cases hn : n1 = (ps.length : Int)
  · have hne : (n1 == (ps.length : Int)) = true := by simpa using hn
    have HC2 : Hid (∀ W, Below w.heap.size w W → Calls Tryd.prog 13 #[.agg D.toArray, .slice ap ps.length cp] W fun e w' => e = .returned (.bool c) ∧ Below W.heap.size W w') := Lib.hid (by
      have := HC1.out
      rwa [show ((ps.length : Int) == n1) = true by simpa using hn.symm, Bool.and_true] at this)
    clear HC1 hn
    refine wp_region_quietB (by kernel_rfl) (by kernel_rfl) ?_
    refine wpQuiet_load_mid rfl 28 (.tmp 3) rfl w.heap.size 0 rfl D _ (fun w' ⟨m, hw'⟩ => hw' ▸ (H5.out _ m.below).2.2) Tryd.underlying28 rfl (infoHead _ hD33) ?_
    simp only [Act.put, List.setIfInBounds_toArray, List.set_cons_succ, List.set_cons_zero]
    iterate 3 (go_big_quiet_step ((go_at_call 13; with_reducible exact Calls.quiet_b (HC2.out _ (HB5.out.trans ((Bl.below _).mono HB5.out.size))))))
    refine wpQuiet_of_op rfl (.int .i64 n1) (fun w' ⟨m, hw'⟩ => by subst hw'; have c := (H5.out _ m.below).2.1; go_simp) ?_
    simp only [Act.put, List.setIfInBounds_toArray, List.set_cons_succ, List.set_cons_zero]
    iterate 5 (go_big_quiet_step (fail))
    refine wpQuiet_load_midG (by rfl) 26 (.tmp 34) rfl w.heap.size 0 rfl PX _ (fun w' ⟨m, hw'⟩ => hw' ▸ (H5.out _ m.below).1) Tryd.underlying26 rfl (infoHash _ hP1X) ?_
    simp only [Act.put, List.setIfInBounds_toArray, List.set_cons_succ, List.set_cons_zero]
    iterate 2 (go_big_quiet_step ((go_at_call 12; with_reducible exact Calls.quiet_b (HH.out _ (HB5.out.trans ((Bl.below _).mono HB5.out.size))))))
    refine wpQuiet_of_opG (by rfl) (.bool c) (fun w' _ => by have k := HEQ.out; have l := HGU.out; go_simp) ?_
    simp only [Act.put, List.setIfInBounds_toArray, List.set_cons_succ, List.set_cons_zero]
    iterate 3 (go_big_quiet_step (fail))
    refine wpQuiet_nil ?_
    intro m
    have HBM := Lib.hid (HB5.out.trans (m.below.mono HB5.out.size))
    go_wp2_with fail
    go_ret
    exact ⟨by first | rfl | simp, HBM.out⟩
  · have hne : (n1 == (ps.length : Int)) = false := by simpa using hn
    have HC2 : Hid (∀ W, Below w.heap.size w W → Calls Tryd.prog 13 #[.agg D.toArray, .slice ap ps.length cp] W fun e w' => e = .returned (.bool false) ∧ Below W.heap.size W w') := Lib.hid (by
      have := HC1.out
      rwa [show ((ps.length : Int) == n1) = false by simpa using fun h => hn h.symm, Bool.and_false] at this)
    clear HC1 hn
    refine wp_region_quietB (by kernel_rfl) (by kernel_rfl) ?_
    refine wpQuiet_load_mid rfl 28 (.tmp 3) rfl w.heap.size 0 rfl D _ (fun w' ⟨m, hw'⟩ => hw' ▸ (H5.out _ m.below).2.2) Tryd.underlying28 rfl (infoHead _ hD33) ?_
    simp only [Act.put, List.setIfInBounds_toArray, List.set_cons_succ, List.set_cons_zero]
    iterate 3 (go_big_quiet_step ((go_at_call 13; with_reducible exact Calls.quiet_b (HC2.out _ (HB5.out.trans ((Bl.below _).mono HB5.out.size))))))
    refine wpQuiet_of_op rfl (.int .i64 n1) (fun w' ⟨m, hw'⟩ => by subst hw'; have c := (H5.out _ m.below).2.1; go_simp) ?_
    simp only [Act.put, List.setIfInBounds_toArray, List.set_cons_succ, List.set_cons_zero]
    iterate 12 (go_big_quiet_step (fail))
    refine wpQuiet_nil ?_
    intro m
    have HBM := Lib.hid (HB5.out.trans (m.below.mono HB5.out.size))
    go_wp2_with fail
    go_ret
    exact ⟨by first | rfl | simp, HBM.out⟩

set_option maxRecDepth 100000 in
set_option maxHeartbeats 2000000 in
theorem checks_tf (w : World) (ht : Tab w) (P : List UInt8) (hP : P.length = 32) (n : Int) (ps : List Part) (ap : Option Addr) (gp op cp : Nat) (hc : Came w ap gp op ps) (hf : (decide ((ps.length : Int) ≤ (20 : Nat)) && decide ((fewS (ps.take 200) : Int) ≤ (600 : Nat))) = true) :
    Calls Tryd.prog 4 #[HV P n, .slice ap ps.length cp, .agg #[.bool true, .bool false]] w fun e w' => e = .returned (.bool true) ∧ Below w.heap.size w w' := by
  have h0 := ht.size
  have HT := Lib.hid ht
  have F : Hid (∀ W, Below w.heap.size w W → Calls Tryd.prog 9 #[.slice ap ps.length cp, .int .i64 20, .int .i64 600] W fun e w' => e = .returned (.bool true) ∧ W = w') := Lib.hid (by
    intro W hW; rw [← hf]; exact few_any W ps ap gp op cp 20 (by omega) 600 (hc.parts.below hW) hc.most hc.each)
  obtain ⟨hl, hle⟩ := few_small ps 20 (by omega) 600 (by omega) hf
  have hle' : ∀ p ∈ ps, p.l.length ≤ 1000 := fun p hp => Nat.le_trans (hle p hp) (by omega)
  have HH : Hid (∀ W, Below w.heap.size w W → Calls Tryd.prog 12 #[.slice ap ps.length cp] W fun e w' => e = .returned (.agg ((folded z32 ps).map B).toArray) ∧ Below W.heap.size W w') := Lib.hid (by
    intro W hW; exact refHash_any W ps ap gp op cp (hc.parts.below hW) hc.nil (by have := hW.size; omega) hle' (by omega))
  have HCk : Hid (∀ (Q : List UInt8) (m : Int), Q.length = 32 → ∀ W, Below w.heap.size w W → Calls Tryd.prog 13 #[.agg (HC Q m).toArray, .slice ap ps.length cp] W fun e w' => e = .returned (.bool (folded z32 ps == Q && (ps.length : Int) == m)) ∧ Below W.heap.size W w') := Lib.hid (by
    intro Q m hQ W hW
    exact check_any W Q hQ m ps ap gp op cp (hc.parts.below hW) (HT.out.below hW h0) hle' (by omega))
  clear hc ht hf hle hle'
  have HFL := Lib.hid (length_folded z32 rfl ps)
  have hL33 := length_HC P hP n
  have hone := one_HC P n
  have HPL := Lib.hid hP
  have hX32 : ((folded z32 ps).map B).length = 32 := by simpa using length_folded z32 rfl ps
  have hXone := one_bytes (folded z32 ps)
  unfold HV
  generalize hL : HC P n = L at *
  have HL := Lib.hid hL
  clear hL
  generalize hXX : (folded z32 ps).map B = X at *
  have HX := Lib.hid hXX
  clear hXX
  go_enter Tryd.func4, Tryd.ntmps4
  go_wp2_with fail
  generalize hW : World.alloc _ _ = W0 at *
  have hb0 : Below w.heap.size w W0 := by rw [← hW]; exact ((Below.refl _ _).alloc (Nat.le_refl _) _).alloc (by simp) _
  have g3 : W0.heap[w.heap.size]? = some (.cells L.toArray 28 (0, 0)) := by rw [← hW, Below.heap_alloc _ _ _ (by simp)]; exact heap_alloc_new _ _
  have g5 : W0.heap[w.heap.size + 1]? = some (.cells #[.bool true, .bool false] 35 (0, 0)) := by rw [← hW]; exact heap_alloc2_new _ _ _
  have HB0 := Lib.hid hb0
  have G3 := Lib.hid g3
  have G5 := Lib.hid g5
  clear hW hb0 g3 g5
  refine (awake_any W0 (HT.out.below HB0.out h0)).mono ?_
  rintro e w1 ⟨rfl, hb1⟩
  have HB1 := Lib.hid (HB0.out.trans (hb1.mono HB0.out.size))
  have H3 := Lib.hid ((hb1.block _ (lt_block G3.out)).trans G3.out)
  have H5 := Lib.hid ((hb1.block _ (lt_block G5.out)).trans G5.out)
  clear hb1 G3 G5 HB0
  go_wp2_with fail
  refine (F.out _ HB1.out).mono ?_
  rintro e w' ⟨rfl, rfl⟩
  have c0 : w1.cell? ⟨w.heap.size + 1, 0, none⟩ = some (.bool true) := cell_block H5.out 0
  have c1 : w1.cell? ⟨w.heap.size + 1, 1, none⟩ = some (.bool false) := cell_block H5.out 1
  clear c1
  go_wp2_with fail
  refine (HH.out _ HB1.out).mono ?_
  rintro e w2 ⟨rfl, hb2⟩
  have HB2 := Lib.hid (HB1.out.trans (hb2.mono HB1.out.size))
  have h3 := (hb2.block _ (lt_block H3.out)).trans H3.out
  have h5 := (hb2.block _ (lt_block H5.out)).trans H5.out
  have hthere := there_block h3 0 32 (by omega)
  have hend := heap_setCells _ _ X 0 _ _ h3 (by omega)
  have hk : Kept1 w.heap.size w2 (w2.setCells w.heap.size 0 X) := Kept1.setCells _ (Or.inl rfl) _ _ (Kept1.refl _ _)
  have hb3 := Kept1.mono HB2.out hk (Nat.le_refl _)
  have h53 := hk.heap h5 (by omega)
  rw [← HL.out, ← HX.out, over_hash P (folded z32 ps) HPL.out HFL.out] at hend
  have c1 : (w2.setCells w.heap.size 0 X).cell? ⟨w.heap.size + 1, 1, none⟩ = some (.bool false) := cell_block h53 1
  have hE : ∃ P1 : List UInt8, P1.length = 32 ∧ (w2.setCells w.heap.size 0 X).heap[w.heap.size]? = some (.cells (HC P1 n).toArray 28 (0, 0)) := ⟨_, HFL.out, by rw [HX.out] at hend; exact hend⟩
  have HE := Lib.hid hE
  have HB3 := Lib.hid hb3
  clear hend hk hb3 h53 h3 h5 H3 H5 hb2 hE HB1 HB2 HL c0
  go_wp2_with (refine wpList_store_mid rfl 26 (.tmp 19) (.tmp 18) rfl w.heap.size 0 X.toArray rfl rfl (by simpa [hX32] using hthere) (infoHash _ (by simpa using hX32)) (all_oneCell_toArray hXone) ?_)
  generalize World.setCells _ _ _ _ = W4 at *
  clear hthere
  obtain ⟨P1, hP1, h4⟩ := HE.out
  have HE2 : Hid (∃ n1 : Int, W4.heap[w.heap.size]? = some (.cells (HC P1 n1).toArray 28 (0, 0))) := Lib.hid ⟨_, h4⟩
  have HB5 := HB3
  clear h4 HE HB3
  go_wp2_with fail
  generalize W4 = W5 at *
  obtain ⟨n1, h5⟩ := HE2.out
  have hD33 := length_HC P1 hP1 n1
  have H5 : Hid (∀ W : World, Below W5.heap.size W5 W → W.rangeAt w.heap.size 0 (P1.map B) ∧ W.cell? ⟨w.heap.size, 32, none⟩ = some (.int .i64 n1) ∧ W.rangeAt w.heap.size 0 (HC P1 n1)) := Lib.hid fun W hW => by
    have h := (hW.block _ (lt_block h5)).trans h5
    exact ⟨range_hash h, cell_count hP1 h, range_block h⟩
  have HC1 := Lib.hid (HCk.out P1 n1 hP1)
  have heq := eqlHash 26 (Or.inl rfl) P1 (folded z32 ps) hP1 HFL.out
  have hgu := fun x y => guardHash .eql P1 (folded z32 ps) x y
  rw [HX.out] at heq hgu
  have hP1X : (P1.map B).length = 32 := by simpa using hP1
  have HCM := Lib.hid (show (folded z32 ps == P1) = (P1 == folded z32 ps) by rw [Bool.eq_iff_iff, beq_iff_eq, beq_iff_eq]; exact ⟨Eq.symm, Eq.symm⟩)
  have HEQ := Lib.hid heq
  have HGU := Lib.hid hgu
  clear h5 HE2 HCk heq hgu F hP1
  generalize hD : HC P1 n1 = D at *
  generalize hPX : P1.map B = PX at *
  clear hD hPX
  generalize hcb : (P1 == folded z32 ps) = c at *
  rw [HCM.out] at HC1
  clear HCM hcb HX
  by_cases hn : n1 = (ps.length : Int)
  · have hne : (n1 == (ps.length : Int)) = true := by simpa using hn
    have HC2 : Hid (∀ W, Below w.heap.size w W → Calls Tryd.prog 13 #[.agg D.toArray, .slice ap ps.length cp] W fun e w' => e = .returned (.bool c) ∧ Below W.heap.size W w') := Lib.hid (by
      have := HC1.out
      rwa [show ((ps.length : Int) == n1) = true by simpa using hn.symm, Bool.and_true] at this)
    clear HC1 hn
    refine wp_region_quietB (by kernel_rfl) (by kernel_rfl) ?_
    refine wpQuiet_load_mid rfl 28 (.tmp 3) rfl w.heap.size 0 rfl D _ (fun w' ⟨m, hw'⟩ => hw' ▸ (H5.out _ m.below).2.2) Tryd.underlying28 rfl (infoHead _ hD33) ?_
    simp only [Act.put, List.setIfInBounds_toArray, List.set_cons_succ, List.set_cons_zero]
    iterate 3 (go_big_quiet_step ((go_at_call 13; with_reducible exact Calls.quiet_b (HC2.out _ (HB5.out.trans ((Bl.below _).mono HB5.out.size))))))
    refine wpQuiet_of_op rfl (.int .i64 n1) (fun w' ⟨m, hw'⟩ => by subst hw'; have c := (H5.out _ m.below).2.1; go_simp) ?_
    simp only [Act.put, List.setIfInBounds_toArray, List.set_cons_succ, List.set_cons_zero]
    iterate 5 (go_big_quiet_step (fail))
    refine wpQuiet_load_midG (by rfl) 26 (.tmp 34) rfl w.heap.size 0 rfl PX _ (fun w' ⟨m, hw'⟩ => hw' ▸ (H5.out _ m.below).1) Tryd.underlying26 rfl (infoHash _ hP1X) ?_
    simp only [Act.put, List.setIfInBounds_toArray, List.set_cons_succ, List.set_cons_zero]
    iterate 2 (go_big_quiet_step ((go_at_call 12; with_reducible exact Calls.quiet_b (HH.out _ (HB5.out.trans ((Bl.below _).mono HB5.out.size))))))
    refine wpQuiet_of_opG (by rfl) (.bool c) (fun w' _ => by have k := HEQ.out; have l := HGU.out; go_simp) ?_
    simp only [Act.put, List.setIfInBounds_toArray, List.set_cons_succ, List.set_cons_zero]
    iterate 3 (go_big_quiet_step (fail))
    refine wpQuiet_nil ?_
    intro m
    have HBM := Lib.hid (HB5.out.trans (m.below.mono HB5.out.size))
    go_wp2_with fail
    go_ret
    exact ⟨by first | rfl | simp, HBM.out⟩
  · have hne : (n1 == (ps.length : Int)) = false := by simpa using hn
    have HC2 : Hid (∀ W, Below w.heap.size w W → Calls Tryd.prog 13 #[.agg D.toArray, .slice ap ps.length cp] W fun e w' => e = .returned (.bool false) ∧ Below W.heap.size W w') := Lib.hid (by
      have := HC1.out
      rwa [show ((ps.length : Int) == n1) = false by simpa using fun h => hn h.symm, Bool.and_false] at this)
    clear HC1 hn
    refine wp_region_quietB (by kernel_rfl) (by kernel_rfl) ?_
    refine wpQuiet_load_mid rfl 28 (.tmp 3) rfl w.heap.size 0 rfl D _ (fun w' ⟨m, hw'⟩ => hw' ▸ (H5.out _ m.below).2.2) Tryd.underlying28 rfl (infoHead _ hD33) ?_
    simp only [Act.put, List.setIfInBounds_toArray, List.set_cons_succ, List.set_cons_zero]
    iterate 3 (go_big_quiet_step ((go_at_call 13; with_reducible exact Calls.quiet_b (HC2.out _ (HB5.out.trans ((Bl.below _).mono HB5.out.size))))))
    refine wpQuiet_of_op rfl (.int .i64 n1) (fun w' ⟨m, hw'⟩ => by subst hw'; have c := (H5.out _ m.below).2.1; go_simp) ?_
    simp only [Act.put, List.setIfInBounds_toArray, List.set_cons_succ, List.set_cons_zero]
    iterate 12 (go_big_quiet_step (fail))
    refine wpQuiet_nil ?_
    intro m
    have HBM := Lib.hid (HB5.out.trans (m.below.mono HB5.out.size))
    go_wp2_with fail
    go_ret
    exact ⟨by first | rfl | simp, HBM.out⟩

set_option maxRecDepth 100000 in
set_option maxHeartbeats 2000000 in
theorem checks_tt (w : World) (ht : Tab w) (P : List UInt8) (hP : P.length = 32) (n : Int) (ps : List Part) (ap : Option Addr) (gp op cp : Nat) (hc : Came w ap gp op ps) (hf : (decide ((ps.length : Int) ≤ (20 : Nat)) && decide ((fewS (ps.take 200) : Int) ≤ (600 : Nat))) = true) :
    Calls Tryd.prog 4 #[HV P n, .slice ap ps.length cp, .agg #[.bool true, .bool true]] w fun e w' => e = .returned (.bool true) ∧ Below w.heap.size w w' := by
  have h0 := ht.size
  have HT := Lib.hid ht
  have F : Hid (∀ W, Below w.heap.size w W → Calls Tryd.prog 9 #[.slice ap ps.length cp, .int .i64 20, .int .i64 600] W fun e w' => e = .returned (.bool true) ∧ W = w') := Lib.hid (by
    intro W hW; rw [← hf]; exact few_any W ps ap gp op cp 20 (by omega) 600 (hc.parts.below hW) hc.most hc.each)
  obtain ⟨hl, hle⟩ := few_small ps 20 (by omega) 600 (by omega) hf
  have hle' : ∀ p ∈ ps, p.l.length ≤ 1000 := fun p hp => Nat.le_trans (hle p hp) (by omega)
  have HH : Hid (∀ W, Below w.heap.size w W → Calls Tryd.prog 12 #[.slice ap ps.length cp] W fun e w' => e = .returned (.agg ((folded z32 ps).map B).toArray) ∧ Below W.heap.size W w') := Lib.hid (by
    intro W hW; exact refHash_any W ps ap gp op cp (hc.parts.below hW) hc.nil (by have := hW.size; omega) hle' (by omega))
  have HCk : Hid (∀ (Q : List UInt8) (m : Int), Q.length = 32 → ∀ W, Below w.heap.size w W → Calls Tryd.prog 13 #[.agg (HC Q m).toArray, .slice ap ps.length cp] W fun e w' => e = .returned (.bool (folded z32 ps == Q && (ps.length : Int) == m)) ∧ Below W.heap.size W w') := Lib.hid (by
    intro Q m hQ W hW
    exact check_any W Q hQ m ps ap gp op cp (hc.parts.below hW) (HT.out.below hW h0) hle' (by omega))
  clear hc ht hf hle hle'
  have HFL := Lib.hid (length_folded z32 rfl ps)
  have hL33 := length_HC P hP n
  have hone := one_HC P n
  have HPL := Lib.hid hP
  have hX32 : ((folded z32 ps).map B).length = 32 := by simpa using length_folded z32 rfl ps
  have hXone := one_bytes (folded z32 ps)
  unfold HV
  generalize hL : HC P n = L at *
  have HL := Lib.hid hL
  clear hL
  generalize hXX : (folded z32 ps).map B = X at *
  have HX := Lib.hid hXX
  clear hXX
  go_enter Tryd.func4, Tryd.ntmps4
  go_wp2_with fail
  generalize hW : World.alloc _ _ = W0 at *
  have hb0 : Below w.heap.size w W0 := by rw [← hW]; exact ((Below.refl _ _).alloc (Nat.le_refl _) _).alloc (by simp) _
  have g3 : W0.heap[w.heap.size]? = some (.cells L.toArray 28 (0, 0)) := by rw [← hW, Below.heap_alloc _ _ _ (by simp)]; exact heap_alloc_new _ _
  have g5 : W0.heap[w.heap.size + 1]? = some (.cells #[.bool true, .bool true] 35 (0, 0)) := by rw [← hW]; exact heap_alloc2_new _ _ _
  have HB0 := Lib.hid hb0
  have G3 := Lib.hid g3
  have G5 := Lib.hid g5
  clear hW hb0 g3 g5
  refine (awake_any W0 (HT.out.below HB0.out h0)).mono ?_
  rintro e w1 ⟨rfl, hb1⟩
  have HB1 := Lib.hid (HB0.out.trans (hb1.mono HB0.out.size))
  have H3 := Lib.hid ((hb1.block _ (lt_block G3.out)).trans G3.out)
  have H5 := Lib.hid ((hb1.block _ (lt_block G5.out)).trans G5.out)
  clear hb1 G3 G5 HB0
  go_wp2_with fail
  refine (F.out _ HB1.out).mono ?_
  rintro e w' ⟨rfl, rfl⟩
  have c0 : w1.cell? ⟨w.heap.size + 1, 0, none⟩ = some (.bool true) := cell_block H5.out 0
  have c1 : w1.cell? ⟨w.heap.size + 1, 1, none⟩ = some (.bool true) := cell_block H5.out 1
  clear c1
  go_wp2_with fail
  refine (HH.out _ HB1.out).mono ?_
  rintro e w2 ⟨rfl, hb2⟩
  have HB2 := Lib.hid (HB1.out.trans (hb2.mono HB1.out.size))
  have h3 := (hb2.block _ (lt_block H3.out)).trans H3.out
  have h5 := (hb2.block _ (lt_block H5.out)).trans H5.out
  have hthere := there_block h3 0 32 (by omega)
  have hend := heap_setCells _ _ X 0 _ _ h3 (by omega)
  have hk : Kept1 w.heap.size w2 (w2.setCells w.heap.size 0 X) := Kept1.setCells _ (Or.inl rfl) _ _ (Kept1.refl _ _)
  have hb3 := Kept1.mono HB2.out hk (Nat.le_refl _)
  have h53 := hk.heap h5 (by omega)
  rw [← HL.out, ← HX.out, over_hash P (folded z32 ps) HPL.out HFL.out, HX.out] at hend
  have c1 : (w2.setCells w.heap.size 0 X).cell? ⟨w.heap.size + 1, 1, none⟩ = some (.bool true) := cell_block h53 1
  have hin : ∃ v, (w2.setCells w.heap.size 0 X).cell? ⟨w.heap.size, 32, none⟩ = some v := ⟨_, cell_count HFL.out hend⟩
  obtain ⟨v32, c32⟩ := hin
  have f32 := frozen_of_row (w2.setCells w.heap.size 0 X) w.heap.size 32 _ _ hend
  have hend2 : ((w2.setCells w.heap.size 0 X).setCell ⟨w.heap.size, 32, none⟩ (.int .i64 (ps.length : Int))).heap[w.heap.size]? = some (.cells (HC (folded z32 ps) ps.length).toArray 28 (0, 0)) := by
    rw [heap_setCell_same _ _ _ _ _ _ hend, List.setIfInBounds_toArray, set_count _ HFL.out]
  have hb5 : Below w.heap.size w ((w2.setCells w.heap.size 0 X).setCell ⟨w.heap.size, 32, none⟩ (.int .i64 (ps.length : Int))) := hb3.setCell (Nat.le_refl _) _
  have HE : Hid (∃ P1 : List UInt8, P1.length = 32 ∧ ∃ n1 : Int, ((w2.setCells w.heap.size 0 X).setCell ⟨w.heap.size, 32, none⟩ (.int .i64 (ps.length : Int))).heap[w.heap.size]? = some (.cells (HC P1 n1).toArray 28 (0, 0))) := Lib.hid ⟨_, HFL.out, _, hend2⟩
  have HB5 := Lib.hid hb5
  clear hend hend2 hk hb3 hb5 h53 h3 h5 H3 H5 hb2 HB1 HB2 HL c0
  go_wp2_with (refine wpList_store_mid rfl 26 (.tmp 19) (.tmp 18) rfl w.heap.size 0 X.toArray rfl rfl (by simpa [hX32] using hthere) (infoHash _ (by simpa using hX32)) (all_oneCell_toArray hXone) ?_)
  generalize World.setCell _ _ _ = W5 at *
  clear hthere c1 c32 f32
  obtain ⟨P1, hP1, HE2'⟩ := HE.out
  have HE2 := Lib.hid HE2'
  clear HE2' HE
  obtain ⟨n1, h5⟩ := HE2.out
  have hD33 := length_HC P1 hP1 n1
  have H5 : Hid (∀ W : World, Below W5.heap.size W5 W → W.rangeAt w.heap.size 0 (P1.map B) ∧ W.cell? ⟨w.heap.size, 32, none⟩ = some (.int .i64 n1) ∧ W.rangeAt w.heap.size 0 (HC P1 n1)) := Lib.hid fun W hW => by
    have h := (hW.block _ (lt_block h5)).trans h5
    exact ⟨range_hash h, cell_count hP1 h, range_block h⟩
  have HC1 := Lib.hid (HCk.out P1 n1 hP1)
  have heq := eqlHash 26 (Or.inl rfl) P1 (folded z32 ps) hP1 HFL.out
  have hgu := fun x y => guardHash .eql P1 (folded z32 ps) x y
  rw [HX.out] at heq hgu
  have hP1X : (P1.map B).length = 32 := by simpa using hP1
  have HCM := Lib.hid (show (folded z32 ps == P1) = (P1 == folded z32 ps) by rw [Bool.eq_iff_iff, beq_iff_eq, beq_iff_eq]; exact ⟨Eq.symm, Eq.symm⟩)
  have HEQ := Lib.hid heq
  have HGU := Lib.hid hgu
  clear h5 HE2 HCk heq hgu F hP1
  generalize hD : HC P1 n1 = D at *
  generalize hPX : P1.map B = PX at *
  clear hD hPX
  generalize hcb : (P1 == folded z32 ps) = c at *
  rw [HCM.out] at HC1
  clear HCM hcb HX
  by_cases hn : n1 = (ps.length : Int)
  · have hne : (n1 == (ps.length : Int)) = true := by simpa using hn
    have HC2 : Hid (∀ W, Below w.heap.size w W → Calls Tryd.prog 13 #[.agg D.toArray, .slice ap ps.length cp] W fun e w' => e = .returned (.bool c) ∧ Below W.heap.size W w') := Lib.hid (by
      have := HC1.out
      rwa [show ((ps.length : Int) == n1) = true by simpa using hn.symm, Bool.and_true] at this)
    clear HC1 hn
    refine wp_region_quietB (by kernel_rfl) (by kernel_rfl) ?_
    refine wpQuiet_load_mid rfl 28 (.tmp 3) rfl w.heap.size 0 rfl D _ (fun w' ⟨m, hw'⟩ => hw' ▸ (H5.out _ m.below).2.2) Tryd.underlying28 rfl (infoHead _ hD33) ?_
    simp only [Act.put, List.setIfInBounds_toArray, List.set_cons_succ, List.set_cons_zero]
    iterate 3 (go_big_quiet_step ((go_at_call 13; with_reducible exact Calls.quiet_b (HC2.out _ (HB5.out.trans ((Bl.below _).mono HB5.out.size))))))
    refine wpQuiet_of_op rfl (.int .i64 n1) (fun w' ⟨m, hw'⟩ => by subst hw'; have c := (H5.out _ m.below).2.1; go_simp) ?_
    simp only [Act.put, List.setIfInBounds_toArray, List.set_cons_succ, List.set_cons_zero]
    iterate 5 (go_big_quiet_step (fail))
    refine wpQuiet_load_midG (by rfl) 26 (.tmp 34) rfl w.heap.size 0 rfl PX _ (fun w' ⟨m, hw'⟩ => hw' ▸ (H5.out _ m.below).1) Tryd.underlying26 rfl (infoHash _ hP1X) ?_
    simp only [Act.put, List.setIfInBounds_toArray, List.set_cons_succ, List.set_cons_zero]
    iterate 2 (go_big_quiet_step ((go_at_call 12; with_reducible exact Calls.quiet_b (HH.out _ (HB5.out.trans ((Bl.below _).mono HB5.out.size))))))
    refine wpQuiet_of_opG (by rfl) (.bool c) (fun w' _ => by have k := HEQ.out; have l := HGU.out; go_simp) ?_
    simp only [Act.put, List.setIfInBounds_toArray, List.set_cons_succ, List.set_cons_zero]
    iterate 3 (go_big_quiet_step (fail))
    refine wpQuiet_nil ?_
    intro m
    have HBM := Lib.hid (HB5.out.trans (m.below.mono HB5.out.size))
    go_wp2_with fail
    go_ret
    exact ⟨by first | rfl | simp, HBM.out⟩
  · have hne : (n1 == (ps.length : Int)) = false := by simpa using hn
    have HC2 : Hid (∀ W, Below w.heap.size w W → Calls Tryd.prog 13 #[.agg D.toArray, .slice ap ps.length cp] W fun e w' => e = .returned (.bool false) ∧ Below W.heap.size W w') := Lib.hid (by
      have := HC1.out
      rwa [show ((ps.length : Int) == n1) = false by simpa using fun h => hn h.symm, Bool.and_false] at this)
    clear HC1 hn
    refine wp_region_quietB (by kernel_rfl) (by kernel_rfl) ?_
    refine wpQuiet_load_mid rfl 28 (.tmp 3) rfl w.heap.size 0 rfl D _ (fun w' ⟨m, hw'⟩ => hw' ▸ (H5.out _ m.below).2.2) Tryd.underlying28 rfl (infoHead _ hD33) ?_
    simp only [Act.put, List.setIfInBounds_toArray, List.set_cons_succ, List.set_cons_zero]
    iterate 3 (go_big_quiet_step ((go_at_call 13; with_reducible exact Calls.quiet_b (HC2.out _ (HB5.out.trans ((Bl.below _).mono HB5.out.size))))))
    refine wpQuiet_of_op rfl (.int .i64 n1) (fun w' ⟨m, hw'⟩ => by subst hw'; have c := (H5.out _ m.below).2.1; go_simp) ?_
    simp only [Act.put, List.setIfInBounds_toArray, List.set_cons_succ, List.set_cons_zero]
    iterate 12 (go_big_quiet_step (fail))
    refine wpQuiet_nil ?_
    intro m
    have HBM := Lib.hid (HB5.out.trans (m.below.mono HB5.out.size))
    go_wp2_with fail
    go_ret
    exact ⟨by first | rfl | simp, HBM.out⟩

theorem chainChecks_walk (w : World) (ht : Tab w) (P : List UInt8) (hP : P.length = 32) (n : Int) (_ : (Lit.int .i64 n).wf = true) (a : Option Addr) (cap : Nat) (ps : List Part) (g o : Nat) (hc : Came w a g o ps) (x y : Bool) :
    Calls Tryd.prog 4 #[HV P n, .slice a ps.length cap, .agg #[.bool x, .bool y]] w fun e w' => e = .returned (.bool true) ∧ Below w.heap.size w w' := by
  by_cases h : (decide ((ps.length : Int) ≤ (20 : Nat)) && decide ((fewS (ps.take 200) : Int) ≤ (600 : Nat))) = true
  · cases x <;> cases y
    · exact checks_ff w ht P hP n ps a g o cap hc h
    · exact checks_ft w ht P hP n ps a g o cap hc h
    · exact checks_tf w ht P hP n ps a g o cap hc h
    · exact checks_tt w ht P hP n ps a g o cap hc h
  · exact checks_long w ht P hP n ps a g o cap hc x y (by simpa using h)
end Go.Proofs.YtmegncaadglhmaaDoor
