/- P5.1: of all lists the head is the chapter's: the walk of the law. -/
import Derived.Test.YtmegncaadglhmaaDoorKQuiet
namespace Go.Proofs.YtmegncaadglhmaaDoor
open Go.RowKit

set_option maxRecDepth 100000 in
set_option maxHeartbeats 1000000 in
theorem heads_long (w : World) (ps : List Part) (ap : Option Addr) (gp op cp : Nat) (hc : Came w ap gp op ps) (ht : Tab w) (hf : (decide ((ps.length : Int) ≤ (20 : Nat)) && decide ((fewS (ps.take 200) : Int) ≤ 600)) = false) :
    Calls Tryd.prog 3 #[.slice ap ps.length cp] w fun e w' => e = .returned (.bool true) ∧ Below w.heap.size w w' := by
  have h0 := ht.size
  have HT := Lib.hid ht
  have F : Hid (∀ W, Below w.heap.size w W → Calls Tryd.prog 9 #[.slice ap ps.length cp, .int .i64 20, .int .i64 600] W fun e w' => e = .returned (.bool false) ∧ W = w') := Lib.hid (by
    intro W hW; rw [← hf]; exact few_any W ps ap gp op cp 20 (by omega) 600 (hc.parts.below hW) hc.most hc.each)
  clear hc ht hf
  go_enter Tryd.func3, Tryd.ntmps3
  go_wp2_with fail
  refine (awake_any w HT.out).mono ?_
  rintro e w1 ⟨rfl, hb1⟩
  have HB1 := Lib.hid hb1
  clear hb1
  go_wp2_with fail
  refine (F.out _ HB1.out).mono ?_
  rintro e w' ⟨rfl, rfl⟩
  go_wp2_with fail
  refine (awake_any w1 (HT.out.below HB1.out h0)).mono ?_
  rintro e w2 ⟨rfl, hb2⟩
  have HB2 := Lib.hid (HB1.out.trans (hb2.mono HB1.out.size))
  clear hb2
  go_wp2_with fail
  go_ret
  exact ⟨rfl, HB2.out⟩

/-- what the loop of the law keeps -/
structure HeadsRel (w : World) (G3 G4 : Nat) (ps : List Part) (k : Nat) (wr : World) : Prop where
  h : wr.heap[G3]? = some (.cells (HC (folded z32 ps) ps.length).toArray 28 (0, 0))
  g : wr.heap[G4]? = some (.cells (HC (folded z32 (ps.take k)) k).toArray 28 (0, 0))
  below : Below w.heap.size w wr
  b3 : w.heap.size ≤ G3
  b4 : w.heap.size ≤ G4
  ne : G3 ≠ G4

set_option maxRecDepth 100000 in
set_option maxHeartbeats 2000000 in
theorem heads_short (w : World) (ps : List Part) (ap : Option Addr) (gp op cp : Nat) (hc : Came w ap gp op ps) (ht : Tab w) (hf : (decide ((ps.length : Int) ≤ (20 : Nat)) && decide ((fewS (ps.take 200) : Int) ≤ (600 : Nat))) = true) :
    Calls Tryd.prog 3 #[.slice ap ps.length cp] w fun e w' => e = .returned (.bool true) ∧ Below w.heap.size w w' := by
  have h0 := ht.size
  have HT := Lib.hid ht
  have F : Hid (∀ W, Below w.heap.size w W → Calls Tryd.prog 9 #[.slice ap ps.length cp, .int .i64 20, .int .i64 600] W fun e w' => e = .returned (.bool true) ∧ W = w') := Lib.hid (by
    intro W hW; rw [← hf]; exact few_any W ps ap gp op cp 20 (by omega) 600 (hc.parts.below hW) hc.most hc.each)
  obtain ⟨hl, hle⟩ := few_small ps 20 (by omega) 600 (by omega) hf
  have hle' : ∀ p ∈ ps, p.l.length ≤ 1000 := fun p hp => Nat.le_trans (hle p hp) (by omega)
  have HA : Hid (∀ W, Below w.heap.size w W → Calls Tryd.prog 10 #[.slice ap ps.length cp] W fun e w' => e = .returned (.agg (HC (folded z32 ps) ps.length).toArray) ∧ Below W.heap.size W w') := Lib.hid (by
    intro W hW; exact all_any W ps ap gp op cp (hc.parts.below hW) (HT.out.below hW h0) hle' (by omega))
  have HH : Hid (∀ W, Below w.heap.size w W → Calls Tryd.prog 12 #[.slice ap ps.length cp] W fun e w' => e = .returned (.agg ((folded z32 ps).map B).toArray) ∧ Below W.heap.size W w') := Lib.hid (by
    intro W hW; exact refHash_any W ps ap gp op cp (hc.parts.below hW) hc.nil (by have := hW.size; omega) hle' (by omega))
  have HCk : Hid (∀ W, Below w.heap.size w W → Calls Tryd.prog 13 #[.agg (HC (folded z32 ps) ps.length).toArray, .slice ap ps.length cp] W fun e w' => e = .returned (.bool true) ∧ Below W.heap.size W w') := Lib.hid (by
    intro W hW
    have := check_any W (folded z32 ps) (length_folded z32 rfl _) ps.length ps ap gp op cp (hc.parts.below hW) (HT.out.below hW h0) hle' (by omega)
    simpa [HV] using this)
  have HP := Lib.hid hc.parts
  have HLE := Lib.hid hle'
  clear hc ht hf hle hle'
  have hz := zeroHeadV
  have hZ33 : (HC z32 0).length = 33 := rfl
  have hZone := one_HC z32 0
  have HBU := Lib.hid builtHead0
  have hD33 := length_HC (folded z32 ps) (length_folded z32 rfl _) ps.length
  have hDone := one_HC (folded z32 ps) ps.length
  have hst : ∀ (W : World) (G3 G4 : Nat), W.heap[G3]? = some (.cells (HC (folded z32 ps) ps.length).toArray 28 (0, 0)) → W.heap[G4]? = some (.cells (HC z32 0).toArray 28 (0, 0)) → Below w.heap.size w W → w.heap.size ≤ G3 → w.heap.size ≤ G4 → G3 ≠ G4 → HeadsRel w G3 G4 ps 0 W := fun W G3 G4 h1 h2 h3 h4 h5 h6 => ⟨h1, h2, h3, h4, h5, h6⟩
  have HST := Lib.hid hst
  clear hst
  have hG : ∀ (W : World) (g : Nat), W.heap[g]? = some (.cells (HC (folded z32 ps) ps.length).toArray 28 (0, 0)) → W.rangeAt g 0 ((folded z32 ps).map B) ∧ W.cell? ⟨g, 32, none⟩ = some (.int .i64 ps.length) ∧ W.rangeAt g 0 (HC (folded z32 ps) ps.length) := fun W g h => ⟨range_hash h, cell_count (length_folded z32 rfl _) h, range_block h⟩
  have HG := Lib.hid hG
  clear hG
  have hX32 : ((folded z32 ps).map B).length = 32 := by simpa using length_folded z32 rfl ps
  have heq := eqlHash 26 (Or.inl rfl) (folded z32 ps) (folded z32 ps) (length_folded z32 rfl _) (length_folded z32 rfl _)
  rw [show (folded z32 ps == folded z32 ps) = true from beq_self_eq_true _] at heq
  have hgu := fun x y => guardHash .eql (folded z32 ps) (folded z32 ps) x y
  have heh := eqlHead (folded z32 ps) (folded z32 ps) (length_folded z32 rfl _) (length_folded z32 rfl _) ps.length ps.length
  rw [show (folded z32 ps == folded z32 ps && (ps.length : Int) == (ps.length : Int)) = true by simp] at heh
  have hgh := fun x y => guardHead (folded z32 ps) (folded z32 ps) ps.length ps.length x y
  unfold HV at heh hgh
  have HEQ := Lib.hid heq
  have HGU := Lib.hid hgu
  have HEH := Lib.hid heh
  have HGH := Lib.hid hgh
  clear heq hgu heh hgh
  generalize hX : (folded z32 ps).map B = X at *
  generalize hD : HC (folded z32 ps) ps.length = D at *
  have HD := Lib.hid hD
  clear hX hD
  generalize hZ : HC z32 0 = Z at *
  clear hZ
  go_enter Tryd.func3, Tryd.ntmps3
  go_wp2_with fail
  refine (awake_any w HT.out).mono ?_
  rintro e w1 ⟨rfl, hb1⟩
  have HB1 := Lib.hid hb1
  clear hb1
  go_wp2_with fail
  refine (F.out _ HB1.out).mono ?_
  rintro e w' ⟨rfl, rfl⟩
  go_wp2_with fail
  refine (HA.out _ HB1.out).mono ?_
  rintro e w2 ⟨rfl, hb2⟩
  have HB2 := Lib.hid (HB1.out.trans (hb2.mono HB1.out.size))
  clear hb2 F HA HB1
  have hthere := there_block (heap_alloc_new w2 (.cells Z.toArray 28)) 0 33 (by omega)
  have hend := heap_setCells _ _ D 0 _ _ (heap_alloc_new w2 (.cells Z.toArray 28)) (by omega)
  rw [over_all _ _ (by omega)] at hend
  have hbe : Below w.heap.size w ((w2.alloc (.cells Z.toArray 28)).setCells w2.heap.size 0 D) :=
    (Kept1.setCells (b := w2.heap.size) w2.heap.size (Or.inl rfl) D 0 (Kept1.of_below (HB2.out.alloc HB2.out.size _) |>.trans (Kept1.refl _ _))).below HB2.out.size
  have HE := Lib.hid hend
  have HBE := Lib.hid hbe
  have hG3 : w.heap.size ≤ w2.heap.size := HB2.out.size
  clear hend hbe HB2
  go_wp2_with (refine wpList_store_mid rfl 28 (.tmp 3) (.tmp 15) rfl w2.heap.size 0 D.toArray rfl rfl (by simpa [hD33] using hthere) (infoHead _ (by simpa using hD33)) (all_oneCell_toArray hDone) ?_)
  generalize World.setCells _ _ _ _ = W3 at *
  clear hthere
  generalize w2.heap.size = G3 at *
  have hthere := there_block (heap_alloc_new W3 (.cells Z.toArray 28)) 0 33 (by omega)
  have hend := heap_setCells _ _ Z 0 _ _ (heap_alloc_new W3 (.cells Z.toArray 28)) (by omega)
  rw [over_all _ _ (by omega)] at hend
  have hk4 : Kept1 W3.heap.size W3 ((W3.alloc (.cells Z.toArray 28)).setCells W3.heap.size 0 Z) :=
    (Kept1.setCells (b := W3.heap.size) W3.heap.size (Or.inl rfl) Z 0 ((Kept1.refl _ _).alloc _))
  have R0 : HeadsRel w G3 W3.heap.size ps 0 ((W3.alloc (.cells Z.toArray 28)).setCells W3.heap.size 0 Z) :=
    HST.out _ _ _ (hk4.heap HE.out (by have := lt_block HE.out; omega)) hend (Kept1.mono HBE.out hk4 HBE.out.size) hG3 HBE.out.size (by have := lt_block HE.out; omega)
  have HR0 := Lib.hid R0
  clear R0 hend hk4 HST HE HBE hG3
  have hsc := run_store0 (P := Tryd.prog) _ _ Z (by rw [hZ33]; exact hthere) hZone
  go_wp2_with (simp only [hsc])
  have R0 := HR0.out
  generalize World.setCells _ _ _ _ = W4 at *
  clear hthere HR0 hsc
  generalize W3.heap.size = G4 at *
  go_loopw [5] (fun i wr => ∃ k : Nat, k ≤ ps.length ∧ i = .int .i64 k ∧ HeadsRel w G3 G4 ps k wr) (fun i _ => ps.length - (intOf i).toNat)
  case atStart => exact ⟨0, by omega, rfl, R0⟩
  case round =>
    clear R0
    obtain ⟨k, hk, rfl, hr⟩ := hrel
    have hf32 := length_folded z32 rfl (ps.take k)
    have hl33 := length_HC (folded z32 (ps.take k)) hf32 k
    by_cases hlt : k < ps.length
    · have hd : decide ((k : Int) < (ps.length : Int)) = true := by simp; omega
      obtain rfl := HP.out.at' (by intro e; rw [e] at hlt; cases hlt)
      have HIN : Hid (∀ W : World, Below wr.heap.size wr W → W.cell? ⟨gp, op + k, none⟩ = some (.slice ps[k].ad ps[k].l.length ps[k].cap) ∧ W.rangeAt G4 0 (HC (folded z32 (ps.take k)) k) ∧
          Calls Tryd.prog 11 #[.agg (HC (folded z32 (ps.take k)) k).toArray, .slice ps[k].ad ps[k].l.length ps[k].cap] W fun e w' => e = .returned (.agg (HC (folded z32 (ps.take (k + 1))) (k + 1)).toArray) ∧ Below W.heap.size W w') := Lib.hid fun W hW => by
        have hbW := hr.below.trans (hW.mono hr.below.size)
        refine ⟨by rw [hbW.cell (by exact HP.out.lt), HP.out.cell k hlt]; rfl, range_block ((hW.block _ (lt_block hr.g)).trans hr.g), ?_⟩
        rw [folded_snoc z32 ps k hlt]
        exact next_any W _ hf32 k (by omega) ps[k] ((HP.out.parts ps[k] (List.getElem_mem hlt)).below hbW) (HT.out.below hbW h0) (HLE.out _ (List.getElem_mem hlt))
      have hn33 := length_HC (folded z32 (ps.take (k + 1))) (length_folded z32 rfl _) (k + 1)
      have hnone := one_HC (folded z32 (ps.take (k + 1))) (k + 1)
      generalize ps[k] = q at *
      have HR := Lib.hid hr
      clear hr
      have hE : HC (folded z32 (ps.take (k + 1))) ((k + 1 : Nat) : Int) = HC (folded z32 (ps.take (k + 1))) (k + 1) := by congr 1
      have HE := Lib.hid hE
      clear hE
      generalize hN : HC (folded z32 (ps.take (k + 1))) (k + 1) = N at *
      clear hN
      generalize hL1 : HC (folded z32 (ps.take k)) k = L1 at *
      have HL1 := Lib.hid hL1
      clear hL1
      go_wp2_with fail
      refine wp_region_quiet_tailB 6 (by kernel_rfl) (by kernel_rfl) ?_
      simp only [List.take_succ_cons, List.take_zero, List.drop_succ_cons, List.drop_zero]
      refine wpQuiet_load_mid rfl 28 (.tmp 4) rfl G4 0 rfl L1 _ (fun w' ⟨m, hw'⟩ => hw' ▸ (HIN.out _ m.below).2.1) Tryd.underlying28 rfl (infoHead _ hl33) ?_
      simp only [Act.put, List.setIfInBounds_toArray, List.set_cons_succ, List.set_cons_zero]
      iterate 3 (go_big_quiet_step (fail))
      refine wpQuiet_of_op rfl (.slice q.ad q.l.length q.cap) (fun w' ⟨m, hw'⟩ => by subst hw'; have c := (HIN.out _ m.below).1; go_simp) ?_
      simp only [Act.put, List.setIfInBounds_toArray, List.set_cons_succ, List.set_cons_zero]
      go_big_quiet_step ((go_at_call 11; with_reducible exact Calls.quiet_b (HIN.out _ (Bl.below _)).2.2))
      refine wpQuiet_nil ?_
      intro m
      have hb2 := m.below
      generalize m.wr = w5 at *
      clear m
      have hat := (hb2.block _ (lt_block HR.out.g)).trans HR.out.g
      rw [HL1.out] at hat
      have hres := (hb2.block _ (lt_block HR.out.h)).trans HR.out.h
      have hbel := HR.out.below.trans (hb2.mono HR.out.below.size)
      have hthere := there_block hat 0 33 (by omega)
      have hend := heap_setCells _ _ N 0 _ _ hat (by omega)
      rw [over_all _ _ (by omega)] at hend
      have hk1 : Kept1 G4 w5 (w5.setCells G4 0 N) := Kept1.setCells _ (Or.inl rfl) _ _ (Kept1.refl _ _)
      have R2 : HeadsRel w G3 G4 ps (k + 1) (w5.setCells G4 0 N) := ⟨hk1.heap hres HR.out.ne, by rw [HE.out]; exact hend, Kept1.mono hbel hk1 HR.out.b4, HR.out.b3, HR.out.b4, HR.out.ne⟩
      have HR2 := Lib.hid R2
      clear hat hres hbel hend hk1 R2 hb2 HR HIN
      go_wp2_with (refine wpList_store_mid rfl 28 (.tmp 4) (.tmp 28) rfl G4 0 N.toArray rfl rfl (by simpa [hn33] using hthere) (infoHead _ (by simpa using hn33)) (all_oneCell_toArray hnone) ?_)
      go_roundw
      case rel => exact ⟨k + 1, by omega, by go_num, HR2.out⟩
      case measure => simp [intOf]; omega
    · have hd : decide ((k : Int) < (ps.length : Int)) = false := by simp; omega
      obtain rfl : k = ps.length := by omega
      have h3 := hr.h
      have h4 := hr.g
      rw [HD.out] at h3
      rw [List.take_length, HD.out] at h4
      have HBR := Lib.hid hr.below
      have H3 : Hid (∀ W : World, Below wr.heap.size wr W → W.rangeAt G3 0 X ∧ W.cell? ⟨G3, 32, none⟩ = some (.int .i64 ps.length) ∧ W.rangeAt G3 0 D) := Lib.hid fun W hW => HG.out W G3 ((hW.block _ (lt_block h3)).trans h3)
      have H4 : Hid (∀ W : World, Below wr.heap.size wr W → W.rangeAt G4 0 D) := Lib.hid fun W hW => (HG.out W G4 ((hW.block _ (lt_block h4)).trans h4)).2.2
      clear hr h3 h4 hl33 hf32
      go_wp2_with fail
      refine wp_region_quietB (by kernel_rfl) (by kernel_rfl) ?_
      go_big_quiet_step (fail)
      refine wpQuiet_load_mid rfl 26 (.tmp 29) rfl G3 0 rfl X _ (fun w' ⟨m, hw'⟩ => hw' ▸ (H3.out _ m.below).1) Tryd.underlying26 rfl (infoHash _ hX32) ?_
      simp only [Act.put, List.setIfInBounds_toArray, List.set_cons_succ, List.set_cons_zero]
      iterate 2 (go_big_quiet_step ((go_at_call 12; with_reducible exact Calls.quiet_b (HH.out _ (HBR.out.trans ((Bl.below _).mono HBR.out.size))))))
      refine wpQuiet_of_op rfl (.bool true) (fun w' _ => by have k := HEQ.out; have l := HGU.out; go_simp) ?_
      simp only [Act.put, List.setIfInBounds_toArray, List.set_cons_succ, List.set_cons_zero]
      iterate 2 (go_big_quiet_step (fail))
      refine wpQuiet_of_opG (by rfl) (.int .i64 ps.length) (fun w' ⟨m, hw'⟩ => by subst hw'; have c := (H3.out _ m.below).2.1; go_simp) ?_
      simp only [Act.put, List.setIfInBounds_toArray, List.set_cons_succ, List.set_cons_zero]
      iterate 5 (go_big_quiet_step (fail))
      refine wpQuiet_load_midG (by rfl) 28 (.tmp 3) rfl G3 0 rfl D _ (fun w' ⟨m, hw'⟩ => hw' ▸ (H3.out _ m.below).2.2) Tryd.underlying28 rfl (infoHead _ hD33) ?_
      simp only [Act.put, List.setIfInBounds_toArray, List.set_cons_succ, List.set_cons_zero]
      refine wpQuiet_load_midG (by rfl) 28 (.tmp 4) rfl G4 0 rfl D _ (fun w' ⟨m, hw'⟩ => hw' ▸ H4.out _ m.below) Tryd.underlying28 rfl (infoHead _ hD33) ?_
      simp only [Act.put, List.setIfInBounds_toArray, List.set_cons_succ, List.set_cons_zero]
      refine wpQuiet_of_opG (by rfl) (.bool true) (fun w' _ => by have k := HEH.out; have l := HGH.out; go_simp) ?_
      simp only [Act.put, List.setIfInBounds_toArray, List.set_cons_succ, List.set_cons_zero]
      iterate 2 (go_big_quiet_step (fail))
      refine wpQuiet_load_midG (by rfl) 28 (.tmp 3) rfl G3 0 rfl D _ (fun w' ⟨m, hw'⟩ => hw' ▸ (H3.out _ m.below).2.2) Tryd.underlying28 rfl (infoHead _ hD33) ?_
      simp only [Act.put, List.setIfInBounds_toArray, List.set_cons_succ, List.set_cons_zero]
      iterate 4 (go_big_quiet_step ((go_at_call 13; with_reducible exact Calls.quiet_b (HCk.out _ (HBR.out.trans ((Bl.below _).mono HBR.out.size))))))
      refine wpQuiet_nil ?_
      intro m
      have HBM := Lib.hid (HBR.out.trans (m.below.mono HBR.out.size))
      go_wp2_with fail
      go_ret
      exact ⟨rfl, HBM.out⟩
theorem chainHeads_walk (w : World) (ht : Tab w) (a : Option Addr) (cap : Nat) (ps : List Part) (g o : Nat) (hc : Came w a g o ps) :
    Calls Tryd.prog 3 #[.slice a ps.length cap] w fun e w' => e = .returned (.bool true) ∧ Below w.heap.size w w' := by
  by_cases h : (decide ((ps.length : Int) ≤ (20 : Nat)) && decide ((fewS (ps.take 200) : Int) ≤ (600 : Nat))) = true
  · exact heads_short w ps a g o cap hc ht h
  · exact heads_long w ps a g o cap hc ht (by simpa using h)
end Go.Proofs.YtmegncaadglhmaaDoor
