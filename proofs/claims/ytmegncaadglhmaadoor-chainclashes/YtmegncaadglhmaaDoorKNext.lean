/- The head behind a record. -/
import Derived.Test.YtmegncaadglhmaaDoorKEq
namespace Go.Proofs.YtmegncaadglhmaaDoor
open Go.RowKit

theorem H_lnk (P l : List UInt8) : H (P ++ (len4 l.length ++ l)) = .agg ((lnk P l).map B).toArray := rfl
theorem range_hash {w : World} {g : Nat} {P : List UInt8} {n : Int} {t : TypeId} {fr : Nat × Nat} (h : w.heap[g]? = some (.cells (HC P n).toArray t fr)) : w.rangeAt g 0 (P.map B) := fun j v hv => by
  rw [Nat.zero_add, cell_block h, List.getElem?_toArray, HC, List.getElem?_append_left (List.getElem?_eq_some_iff.1 hv).1]
  exact hv
theorem cell_count {w : World} {g : Nat} {P : List UInt8} (hP : P.length = 32) {n : Int} {t : TypeId} {fr : Nat × Nat} (h : w.heap[g]? = some (.cells (HC P n).toArray t fr)) : w.cell? ⟨g, 32, none⟩ = some (.int .i64 n) := by
  rw [cell_block h, List.getElem?_toArray, HC, List.getElem?_append_right (by simp [hP])]
  simp [hP]

set_option maxRecDepth 100000 in
set_option maxHeartbeats 1000000 in
theorem next_any (w : World) (P : List UInt8) (hP : P.length = 32) (n : Int) (hn : -9223372036854775808 ≤ n ∧ n ≤ 4611686018427387904) (p : Part) (hp : p.In w) (ht : Tab w) (hl : p.l.length ≤ 1000) :
    Calls Tryd.prog 11 #[HV P n, p.val] w fun e w' => e = .returned (HV (lnk P p.l) (n + 1)) ∧ Below w.heap.size w w' := by
  have h0 := ht.size
  have hL33 := length_HC P hP n
  have hone := one_HC P n
  have hz : ∀ w, (zeroValue 28).run Tryd.prog w = .ok (.agg (HC z32 0).toArray) w := fun _ => by kernel_rfl
  have HLk : Hid (∀ W, Below w.heap.size w W → Calls Tryd.prog 21 #[.agg (P.map B).toArray, .slice p.ad p.l.length p.cap] W fun e w' => e = .returned (.agg ((lnk P p.l).map B).toArray) ∧ Below W.heap.size W w') := Lib.hid (by
    intro W hW; exact link_any W P hP p (hp.below hW) (ht.below hW h0) hl)
  have hgP : ∀ (W : World) (g : Nat) (fr : Nat × Nat), W.heap[g]? = some (.cells (HC P n).toArray 28 fr) → W.rangeAt g 0 (P.map B) ∧ W.cell? ⟨g, 32, none⟩ = some (.int .i64 n) := fun W g fr h => ⟨range_hash h, cell_count hP h⟩
  have hbu := builtHead (lnk P p.l) (length_lnk _ _) (n + 1)
  have hLP : (P.map B).length = 32 := by simp [hP]
  unfold Part.val
  clear hp ht
  unfold HV
  have hZ33 : (HC z32 0).length = 33 := rfl
  generalize HC z32 0 = Z at *
  generalize HC P n = L at *
  generalize P.map B = PL at *
  generalize hD : HC (lnk P p.l) (n + 1) = D at *
  have hD33 : D.length = 33 := by rw [← hD]; exact length_HC _ (length_lnk _ _) _
  have hDone : ∀ v ∈ D, v.oneCell' = true := by rw [← hD]; exact one_HC _ _
  generalize ((lnk P p.l).map B).toArray = X at *
  clear hD
  have HBU := Lib.hid hbu
  clear hbu
  go_enter Tryd.func11, Tryd.ntmps11
  go_wp2_with fail
  generalize hW : World.alloc _ _ = W0 at *
  have hb0 : Below w.heap.size w W0 := by rw [← hW]; exact ((Below.refl _ _).alloc (Nat.le_refl _) _).alloc (by simp) _
  have gP : W0.heap[w.heap.size]? = some (.cells L.toArray 28 (0, 0)) := by rw [← hW, Below.heap_alloc _ _ _ (by simp)]; exact heap_alloc_new _ _
  have gR : W0.heap[w.heap.size + 1]? = some (.cells Z.toArray 28 (0, 0)) := by rw [← hW]; exact heap_alloc2_new _ _ _
  clear hW
  have HB0 := Lib.hid hb0
  have GP := Lib.hid gP
  have GR := Lib.hid gR
  have HG := Lib.hid hgP
  have hlt0 := lt_block gP
  have hcc : ∀ W : World, Below W0.heap.size W0 W → W.cell? ⟨w.heap.size, 32, none⟩ = some (.int .i64 n) := fun W hW => (hgP W _ _ ((hW.block _ (lt_block gP)).trans gP)).2
  clear hb0 gP gR hgP
  refine wp_region_quiet_tailB 7 (by kernel_rfl) (by kernel_rfl) ?_
  simp only [List.take_succ_cons, List.take_zero, List.drop_succ_cons, List.drop_zero]
  go_big_quiet_step (fail)
  refine wpQuiet_load_mid rfl 26 (.tmp 5) rfl w.heap.size 0 rfl PL _ (fun w' ⟨m, hw'⟩ => hw' ▸ (HG.out _ _ _ ((m.below.block _ (lt_block GP.out)).trans GP.out)).1) Tryd.underlying26 rfl (infoHash _ hLP) ?_
  simp only [Act.put, List.setIfInBounds_toArray, List.set_cons_succ, List.set_cons_zero]
  iterate 3 (go_big_quiet_step ((go_at_call 21; with_reducible exact Calls.quiet_b (HLk.out _ (HB0.out.trans ((Bl.below _).mono HB0.out.size))))))
  refine wpQuiet_of_op rfl (.int .i64 n) (fun w' ⟨m, hw'⟩ => by subst hw'; have c := hcc _ m.below; clear hcc; go_simp) ?_
  simp only [Act.put, List.setIfInBounds_toArray, List.set_cons_succ, List.set_cons_zero]
  clear hcc
  go_big_quiet_step (fail)
  refine wpQuiet_nil ?_
  intro m
  have HBM := Lib.hid (HB0.out.trans (m.below.mono HB0.out.size))
  have GM := Lib.hid ((m.below.block _ (lt_block GR.out)).trans GR.out)
  generalize m.wr = W1 at *
  clear m HB0 GP GR HLk HG
  refine wpList_buildd rfl 28 #[(0, .tmp 8), (1, .tmp 11)] rfl [(0, .agg X), (1, .int .i64 (n + 1))] (by kernel_rfl) D.toArray HBU.out ?_
  simp only [Act.put, List.setIfInBounds_toArray, List.set_cons_succ, List.set_cons_zero]
  have hthere := there_block GM.out 0 33 (by omega)
  have hend := heap_setCells _ _ D 0 _ _ GM.out (by omega)
  rw [over_all _ _ (by omega)] at hend
  have hkl := (Kept1.setCells (b := w.heap.size + 1) (w.heap.size + 1) (Or.inl rfl) D 0 (Kept1.of_below HBM.out)).below (by omega)
  have Hend := Lib.hid hend
  have Hkl := Lib.hid hkl
  clear hend hkl
  go_wp2_with (refine wpList_store_mid rfl 28 (.tmp 4) (.tmp 12) rfl (w.heap.size + 1) 0 D.toArray rfl rfl (by simpa [hD33] using hthere) (infoHead _ (by simpa using hD33)) (all_oneCell_toArray hDone) ?_)
  exact bodyPost_ret (v := .agg D.toArray) (results_cell_row Tryd.results11 _ _ (w.heap.size + 1) 28 D.toArray (0, 0) _ rfl Hend.out Tryd.underlying28 rfl (infoHead _ (by simpa using hD33))) rfl ⟨rfl, Hkl.out⟩
end Go.Proofs.YtmegncaadglhmaaDoor
