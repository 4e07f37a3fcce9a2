/- The document's fingerprint of a list. -/
import Derived.Test.YtmegncaadglhmaaDoorKSmall
namespace Go.Proofs.YtmegncaadglhmaaDoor
open Go.RowKit

/-- what the loop over records keeps -/
structure HashRel (w : World) (ps : List Part) (k : Nat) (wr : World) : Prop where
  at' : wr.heap[w.heap.size + 1]? = some (.cells ((folded z32 (ps.take k)).map B).toArray 25 (0, 0))
  res : wr.heap[w.heap.size]? = some (.cells (z32.map B).toArray 25 (0, 0))
  below : Below w.heap.size w wr
theorem zeroHashV : ∀ w, (zeroValue 25).run Tryd.prog w = .ok (.agg (z32.map B).toArray) w := fun _ => by kernel_rfl
theorem zeroHashV' : ∀ w, (zeroValue 26).run Tryd.prog w = .ok (.agg (z32.map B).toArray) w := fun _ => by kernel_rfl
theorem one_bytes (P : List UInt8) : ∀ v ∈ P.map B, v.oneCell' = true := by intro v hv; obtain ⟨x, _, rfl⟩ := List.mem_map.1 hv; rfl
set_option maxRecDepth 100000 in
set_option maxHeartbeats 1000000 in
theorem refHash_any (w : World) (ps : List Part) (ap : Option Addr) (gp op cp : Nat) (hp : PartsIn w ap gp op ps) (hnil : ∀ p ∈ ps, p.ad = none → p.cap = 0) (ht : 0 < w.heap.size) (hl : ∀ p ∈ ps, p.l.length ≤ 1000) (hm : ps.length ≤ 1000) :
    Calls Tryd.prog 12 #[.slice ap ps.length cp] w fun e w' => e = .returned (.agg ((folded z32 ps).map B).toArray) ∧ Below w.heap.size w w' := by
  have HP := Lib.hid hp
  have HL := Lib.hid hl
  have HNI := Lib.hid hnil
  have hz := zeroHashV
  have hZ32 : (z32.map B).length = 32 := rfl
  have hst : ∀ W : World, W.heap[w.heap.size + 1]? = some (.cells (z32.map B).toArray 25 (0, 0)) → W.heap[w.heap.size]? = some (.cells (z32.map B).toArray 25 (0, 0)) → Below w.heap.size w W → HashRel w ps 0 W := fun W h1 h2 h3 => ⟨h1, h2, h3⟩
  clear hp hl hnil
  have HST := Lib.hid hst
  clear hst
  generalize hZZ : z32.map B = Z at *
  have HZZ := Lib.hid hZZ
  clear hZZ
  go_enter Tryd.func12, Tryd.ntmps12
  go_wp2_with fail
  generalize hW : World.alloc _ _ = W0 at *
  have R0 : HashRel w ps 0 W0 := by
    refine HST.out W0 ?_ ?_ ?_
    · rw [← hW]; exact heap_alloc2_new _ _ _
    · rw [← hW, Below.heap_alloc _ _ _ (by simp)]; exact heap_alloc_new _ _
    · rw [← hW]; exact ((Below.refl _ _).alloc (Nat.le_refl _) _).alloc (by simp) _
  clear hW HST
  go_loopw [4] (fun i wr => ∃ k : Nat, k ≤ ps.length ∧ i = .int .i64 k ∧ HashRel w ps k wr) (fun i _ => ps.length - (intOf i).toNat)
  case atStart => exact ⟨0, by omega, rfl, R0⟩
  case round =>
    clear R0
    obtain ⟨k, hk, rfl, hr⟩ := hrel
    have hf32 := length_folded z32 rfl (ps.take k)
    have hl32 : ((folded z32 (ps.take k)).map B).length = 32 := by simpa using hf32
    by_cases hlt : k < ps.length
    · have hd : decide ((k : Int) < (ps.length : Int)) = true := by simp; omega
      obtain rfl := HP.out.at' (by intro e; rw [e] at hlt; cases hlt)
      have HIN : Hid (∀ W : World, Below wr.heap.size wr W → W.cell? ⟨gp, op + k, none⟩ = some (.slice ps[k].ad ps[k].l.length ps[k].cap) ∧ W.rangeAt (w.heap.size + 1) 0 ((folded z32 (ps.take k)).map B) ∧
          Calls Tryd.prog 17 #[.agg ((folded z32 (ps.take k)).map B).toArray, .slice ps[k].ad ps[k].l.length ps[k].cap] W fun e w' => e = .returned (.agg ((folded z32 (ps.take (k + 1))).map B).toArray) ∧ Below W.heap.size W w') := Lib.hid fun W hW => by
        have hbW := hr.below.trans (hW.mono hr.below.size)
        refine ⟨by rw [hbW.cell (by exact HP.out.lt), HP.out.cell k hlt]; rfl, range_block ((hW.block _ (lt_block hr.at')).trans hr.at'), ?_⟩
        rw [folded_snoc z32 ps k hlt]
        exact refLink_any W _ hf32 ps[k] ((HP.out.parts ps[k] (List.getElem_mem hlt)).below hbW) (HNI.out _ (List.getElem_mem hlt)) (by have := hbW.size; omega) (HL.out _ (List.getElem_mem hlt))
      have hn32 : ((folded z32 (ps.take (k + 1))).map B).length = 32 := by simpa using length_folded z32 rfl (ps.take (k + 1))
      have hnone := one_bytes (folded z32 (ps.take (k + 1)))
      generalize ps[k] = q at *
      have HR := Lib.hid hr
      clear hr
      generalize hD : (folded z32 (ps.take (k + 1))).map B = D at *
      have HD := Lib.hid hD
      clear hD
      generalize hL1 : (folded z32 (ps.take k)).map B = L1 at *
      have HL1 := Lib.hid hL1
      clear hL1
      go_wp2_with fail
      refine wp_region_quiet_tailB 6 (by kernel_rfl) (by kernel_rfl) ?_
      simp only [List.take_succ_cons, List.take_zero, List.drop_succ_cons, List.drop_zero]
      refine wpQuiet_load_mid rfl 25 (.tmp 3) rfl (w.heap.size + 1) 0 rfl L1 _ (fun w' ⟨m, hw'⟩ => hw' ▸ (HIN.out _ m.below).2.1) Tryd.underlying25 rfl (info32 _ hl32) ?_
      simp only [Act.put, List.setIfInBounds_toArray, List.set_cons_succ, List.set_cons_zero]
      iterate 3 (go_big_quiet_step (fail))
      refine wpQuiet_of_op rfl (.slice q.ad q.l.length q.cap) (fun w' ⟨m, hw'⟩ => by subst hw'; have c := (HIN.out _ m.below).1; go_simp) ?_
      simp only [Act.put, List.setIfInBounds_toArray, List.set_cons_succ, List.set_cons_zero]
      go_big_quiet_step ((go_at_call 17; with_reducible exact Calls.quiet_b (HIN.out _ (Bl.below _)).2.2))
      refine wpQuiet_nil ?_
      intro m
      have hb2 := m.below
      generalize m.wr = w2 at *
      clear m
      have hat := (hb2.block _ (lt_block HR.out.at')).trans HR.out.at'
      rw [HL1.out] at hat
      have hres := (hb2.block _ (lt_block HR.out.res)).trans HR.out.res
      have hbel := HR.out.below.trans (hb2.mono HR.out.below.size)
      have hthere := there_block hat 0 32 (by omega)
      have hend := heap_setCells _ _ D 0 _ _ hat (by omega)
      rw [over_all _ _ (by omega)] at hend
      have hk1 : Kept1 (w.heap.size + 1) w2 (w2.setCells (w.heap.size + 1) 0 D) := Kept1.setCells _ (Or.inl rfl) _ _ (Kept1.refl _ _)
      have R2 : HashRel w ps (k + 1) (w2.setCells (w.heap.size + 1) 0 D) := ⟨by rw [HD.out]; exact hend, hk1.heap hres (by omega), Kept1.mono hbel hk1 (by omega)⟩
      have HR2 := Lib.hid R2
      clear hat hres hbel hend hk1 R2 hb2 HR HIN
      go_wp2_with (refine wpList_store_mid rfl 25 (.tmp 3) (.tmp 16) rfl (w.heap.size + 1) 0 D.toArray rfl rfl (by simpa [hn32] using hthere) (info32 _ (by simpa using hn32)) (all_oneCell_toArray hnone) ?_)
      go_roundw
      case rel => exact ⟨k + 1, by omega, by go_num, HR2.out⟩
      case measure => simp [intOf]; omega
    · have hd : decide ((k : Int) < (ps.length : Int)) = false := by simp; omega
      obtain rfl : k = ps.length := by omega
      have hnone := one_bytes (folded z32 (ps.take ps.length))
      have hrange := range_block hr.at'
      have hres := hr.res
      rw [HZZ.out] at hres
      have hthere := there_block hres 0 32 (by omega)
      have hend := heap_setCells _ _ ((folded z32 (ps.take ps.length)).map B) 0 _ _ hres (by omega)
      rw [over_all _ _ (by omega)] at hend
      have hkl := (Kept1.setCells (b := w.heap.size) w.heap.size (Or.inl rfl) ((folded z32 (ps.take ps.length)).map B) 0 (Kept1.of_below hr.below)).below (Nat.le_refl _)
      rw [List.take_length] at *
      generalize hD : (folded z32 ps).map B = D at *
      have Hend := Lib.hid hend
      have Hkl := Lib.hid hkl
      have HD := Lib.hid hD
      clear hend hkl hr hres hD
      go_wp2_with (first | (refine wpList_load_mid rfl 25 (.tmp 3) rfl (w.heap.size + 1) 0 rfl D _ hrange Tryd.underlying25 rfl (info32 _ hl32) ?_) | (refine wpList_store_mid rfl 25 (.tmp 2) (.tmp 17) rfl w.heap.size 0 D.toArray rfl rfl (by simpa [hl32] using hthere) (info32 _ (by simpa using hl32)) (all_oneCell_toArray hnone) ?_))
      exact bodyPost_ret (v := .agg D.toArray) (results_cell_row Tryd.results12 _ _ w.heap.size 25 D.toArray (0, 0) _ rfl Hend.out Tryd.underlying25 rfl (info32 _ (by simpa using hl32))) rfl ⟨by rw [HD.out], Hkl.out⟩
end Go.Proofs.YtmegncaadglhmaaDoor
