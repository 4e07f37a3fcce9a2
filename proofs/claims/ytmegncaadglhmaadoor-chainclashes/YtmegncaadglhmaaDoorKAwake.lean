/- What a program that does nothing doesn't answer. -/
import Derived.Test.YtmegncaadglhmaaDoorKRef
import Derived.Test.YtmegncaadglhmaaDoorKOrd
namespace Go.Proofs.YtmegncaadglhmaaDoor
open Go.RowKit

theorem built32 : Tryd.prog.built 25 [] = some (z32.map B).toArray := by kernel_rfl
/-- the list of one record "a" -/
theorem all_a (W : World) (g1 g2 : Nat) (h1 : W.heap[g1]? = some (.cells (([97] : List UInt8).map B).toArray 5 (1, 2))) (h2 : W.heap[g2]? = some (.cells #[.slice (some ⟨g1, 0, none⟩) 1 1] 31 (0, 0))) (ht : Tab W) :
    Calls Tryd.prog 10 #[.slice (some ⟨g2, 0, none⟩) 1 1] W fun e w' => e = .returned (.agg (HC (lnk z32 [97]) 1).toArray) ∧ Below W.heap.size W w' := by
  have hin : (Part.mk (some ⟨g1, 0, none⟩) g1 0 1 [97]).In W := partNew (l := [97]) h1
  refine all_any W [⟨some ⟨g1, 0, none⟩, g1, 0, 1, [97]⟩] (some ⟨g2, 0, none⟩) g2 0 1 ⟨fun _ => rfl, fun i hi => ?_, lt_block h2, fun q hq => ?_⟩ ht (fun q hq => ?_) (by simp)
  · obtain rfl : i = 0 := by simpa using hi
    rw [cell_block h2]; rfl
  · obtain rfl := List.mem_singleton.1 hq; exact hin
  · obtain rfl := List.mem_singleton.1 hq; simp
theorem reflink_a (W : World) (g1 : Nat) (h1 : W.heap[g1]? = some (.cells (([97] : List UInt8).map B).toArray 5 (1, 2))) (h0 : 0 < W.heap.size) :
    Calls Tryd.prog 17 #[.agg (z32.map B).toArray, .slice (some ⟨g1, 0, none⟩) 1 1] W fun e w' => e = .returned (.agg ((lnk z32 [97]).map B).toArray) ∧ Below W.heap.size W w' :=
  refLink_any W z32 rfl ⟨some ⟨g1, 0, none⟩, g1, 0, 1, [97]⟩ (partNew (l := [97]) h1) (fun h => by cases h) h0 (by simp)

set_option maxRecDepth 100000 in
set_option maxHeartbeats 1000000 in
theorem awake_any (w : World) (ht : Tab w) : Calls Tryd.prog 8 #[] w fun e w' => e = .returned (.bool true) ∧ Below w.heap.size w w' := by
  have h0 := ht.size
  have HT := Lib.hid ht
  clear ht
  have kc := fun (w : World) (C : Array Value) (n c : Nat) => Lib.run_convert_bytes_const (P := Tryd.prog) w 31 5 C n c Tryd.underlying31 Tryd.underlying5
  have KC := Lib.hid kc
  have hz := zeroHeadV
  have hZ33 : (HC z32 0).length = 33 := rfl
  generalize HC z32 0 = Z at *
  go_enter Tryd.func8, Tryd.ntmps8
  go_wp2_with fail
  generalize hW : World.alloc _ _ = W1
  have hb1 : Below w.heap.size w W1 := by rw [← hW]; exact ((Below.refl _ _).alloc (Nat.le_refl _) _).alloc (by simp) _
  have g1 : W1.heap[w.heap.size]? = some (.cells (([97] : List UInt8).map B).toArray 5 (1, 2)) := by
    rw [← hW, Below.heap_alloc _ _ _ (by simp)]; exact heap_alloc_new _ _
  have g2 : W1.heap[w.heap.size + 1]? = some (.cells #[.slice (some ⟨w.heap.size, 0, none⟩) 1 1] 31 (0, 0)) := by
    rw [← hW]; exact heap_alloc2_new _ _ _
  clear hW kc
  refine (all_a W1 _ _ g1 g2 (HT.out.below hb1 h0)).mono ?_
  rintro e w2 ⟨rfl, hb2⟩
  have HBW := Lib.hid (hb1.trans (hb2.mono hb1.size))
  clear g1 g2 hb1 hb2
  have hD33 := length_HC (lnk z32 [97]) (length_lnk _ _) 1
  have hDone := one_HC (lnk z32 [97]) 1
  have hG : ∀ (W : World) (g : Nat), W.heap[g]? = some (.cells (HC (lnk z32 [97]) 1).toArray 28 (0, 0)) → W.rangeAt g 0 ((lnk z32 [97]).map B) ∧ W.cell? ⟨g, 32, none⟩ = some (.int .i64 1) := fun W g h => ⟨range_hash h, cell_count (length_lnk _ _) h⟩
  have HG := Lib.hid hG
  have hl32 : ((lnk z32 [97]).map B).length = 32 := by simp [length_lnk]
  have heq := eqlHash 26 (Or.inl rfl) (lnk z32 [97]) (lnk z32 [97]) (length_lnk _ _) (length_lnk _ _)
  have hgu := fun x y => guardHash .eql (lnk z32 [97]) (lnk z32 [97]) x y
  rw [show (lnk z32 [97] == lnk z32 [97]) = true from beq_self_eq_true _] at heq
  have HRL := Lib.hid reflink_a
  generalize HC (lnk z32 [97]) 1 = D at *
  generalize (lnk z32 [97]).map B = X at *
  have HEQ := Lib.hid heq
  have HGU := Lib.hid hgu
  have HB32 := Lib.hid built32
  generalize z32.map B = Z32 at *
  clear hG heq hgu
  have hthere := there_block (heap_alloc_new w2 (.cells Z.toArray 28)) 0 33 (by omega)
  have hend := heap_setCells _ _ D 0 _ _ (heap_alloc_new w2 (.cells Z.toArray 28)) (by omega)
  rw [over_all _ _ (by omega)] at hend
  have hbe : Below w.heap.size w ((w2.alloc (.cells Z.toArray 28)).setCells w2.heap.size 0 D) :=
    (Kept1.setCells (b := w2.heap.size) w2.heap.size (Or.inl rfl) D 0 (Kept1.of_below (HBW.out.alloc HBW.out.size _) |>.trans (Kept1.refl _ _))).below HBW.out.size
  have HE := Lib.hid hend
  have HBE := Lib.hid hbe
  clear hend hbe HBW
  go_wp2_with (refine wpList_store_mid rfl 28 (.tmp 1) (.tmp 5) rfl w2.heap.size 0 D.toArray rfl rfl (by simpa [hD33] using hthere) (infoHead _ (by simpa using hD33)) (all_oneCell_toArray hDone) ?_)
  generalize World.setCells _ _ _ _ = W3 at *
  clear hthere
  generalize w2.heap.size = G at *
  refine wp_region_held (S := fun W => Below W3.heap.size W3 W) (by kernel_rfl) ?_
  change wpAnyH _ _ _ _ _ _ _ _ (World.drew _)
  have hS0 : Below W3.heap.size W3 W3.drew := (Below.refl _ _).drew
  generalize W3.drew = Wd at *
  refine held_take (i := 0) (some 6) rfl (by rfl) (by kernel_rfl) (by kernel_rfl) (by kernel_rfl) (.pointer (some ⟨G, 32, none⟩)) (fun _ _ _ h => h) (by rfl) (fun w hS => by clear hS; go_simp; try with_reducible rfl) hS0 ?_
  simp only [Act.put, List.setIfInBounds_toArray, List.set_cons_succ, List.set_cons_zero]
  refine held_take (i := 1) (some 7) rfl (by rfl) (by kernel_rfl) (by kernel_rfl) (by kernel_rfl) (.int .i64 1) (fun _ _ _ h => h) (by rfl) (fun w hS => by have c := (HG.out w G ((hS.block _ (lt_block HE.out)).trans HE.out)).2; clear hS; go_simp; try with_reducible rfl) hS0 ?_
  simp only [Act.put, List.setIfInBounds_toArray, List.set_cons_succ, List.set_cons_zero]
  refine held_take (i := 2) (some 8) rfl (by rfl) (by kernel_rfl) (by kernel_rfl) (by kernel_rfl) (.bool true) (fun _ _ _ h => h) (by rfl) (fun w hS => by clear hS; go_simp; try with_reducible rfl) hS0 ?_
  simp only [Act.put, List.setIfInBounds_toArray, List.set_cons_succ, List.set_cons_zero]
  refine held_take (i := 3) (some 9) rfl (by rfl) (by kernel_rfl) (by kernel_rfl) (by kernel_rfl) (.bool true) (fun _ _ _ h => h) (by rfl) (fun w hS => by clear hS; go_simp; try with_reducible rfl) hS0 ?_
  simp only [Act.put, List.setIfInBounds_toArray, List.set_cons_succ, List.set_cons_zero]
  refine held_take (i := 4) (some 10) rfl (by rfl) (by kernel_rfl) (by kernel_rfl) (by kernel_rfl) (.pointer (some ⟨G, 0, none⟩)) (fun _ _ _ h => h) (by rfl) (fun w hS => by clear hS; go_simp; try with_reducible rfl) hS0 ?_
  simp only [Act.put, List.setIfInBounds_toArray, List.set_cons_succ, List.set_cons_zero]
  refine held_take (i := 5) (some 11) rfl (by rfl) (by kernel_rfl) (by kernel_rfl) (by kernel_rfl) (.agg X.toArray) (fun _ _ _ h => h) (by rfl) (fun w hS => by exact run_load_op 26 (.tmp 10) (by rfl) G 0 (by rfl) X _ (HG.out w G ((hS.block _ (lt_block HE.out)).trans HE.out)).1 Tryd.underlying26 rfl (infoHash _ hl32)) hS0 ?_
  simp only [Act.put, List.setIfInBounds_toArray, List.set_cons_succ, List.set_cons_zero]
  refine held_take (i := 6) (some 12) rfl (by rfl) (by kernel_rfl) (by kernel_rfl) (by kernel_rfl) (.agg Z32.toArray) (fun _ _ _ h => h) (by rfl) (fun w hS => by exact run_buildd_op 25 #[] (by rfl) [] (by kernel_rfl) Z32.toArray HB32.out) hS0 ?_
  simp only [Act.put, List.setIfInBounds_toArray, List.set_cons_succ, List.set_cons_zero]
  have hbA : Below W3.heap.size W3 (Wd.alloc (.cells #[.int .u8 97] 5 (1, 2))) := hS0.alloc hS0.size _
  have hgA : (Wd.alloc (.cells #[.int .u8 97] 5 (1, 2))).heap[Wd.heap.size]? = some (.cells (([97] : List UInt8).map B).toArray 5 (1, 2)) := heap_alloc_new _ _
  refine held_run (i := 7) (some 13) rfl (by rfl) (by kernel_rfl) (by rfl) (.slice (some ⟨Wd.heap.size, 0, none⟩) 1 1) (Wd.alloc (.cells #[.int .u8 97] 5)) (by go_simp; try with_reducible rfl) (hS0.alloc hS0.size _) ?_
  simp only [Act.put, List.setIfInBounds_toArray, List.set_cons_succ, List.set_cons_zero]
  refine held_run (i := 8) (some 14) rfl (by rfl) (by kernel_rfl) (by rfl) (.slice (some ⟨Wd.heap.size, 0, none⟩) 1 1) (Wd.alloc (.cells #[.int .u8 97] 5 (1, 2))) (by have k := KC.out Wd #[.int .u8 97] 1 1; go_simp; try with_reducible rfl) hbA ?_
  simp only [Act.put, List.setIfInBounds_toArray, List.set_cons_succ, List.set_cons_zero]
  refine held_call (i := 9) (some 15) rfl (by rfl) (by kernel_rfl) (by rfl) 17 #[.agg Z32.toArray, .slice (some ⟨Wd.heap.size, 0, none⟩) 1 1] (by go_simp; try with_reducible rfl) ((HRL.out _ _ hgA (by have := lt_block hgA; omega)).mono ?_)
  rintro e w4 ⟨rfl, hb4⟩
  have hS4 : Below W3.heap.size W3 w4 := hbA.trans (hb4.mono hbA.size)
  refine ⟨_, rfl, hS4, ?_⟩
  simp only [Act.put, List.setIfInBounds_toArray, List.set_cons_succ, List.set_cons_zero]
  refine held_run (i := 10) (some 16) rfl (by rfl) (by kernel_rfl) (by rfl) (.bool true) (w4) (by have k := HEQ.out; have l := HGU.out; go_simp; try with_reducible rfl) hS4 ?_
  simp only [Act.put, List.setIfInBounds_toArray, List.set_cons_succ, List.set_cons_zero]
  refine held_run (i := 11) (some 17) rfl (by rfl) (by kernel_rfl) (by rfl) (.bool true) (w4) (by go_simp; try with_reducible rfl) hS4 ?_
  simp only [Act.put, List.setIfInBounds_toArray, List.set_cons_succ, List.set_cons_zero]
  refine held_run (i := 12) (some 0) rfl (by rfl) (by kernel_rfl) (by rfl) (.bool true) (w4) (by go_simp; try with_reducible rfl) hS4 ?_
  simp only [Act.put, List.setIfInBounds_toArray, List.set_cons_zero]
  refine wpAnyH_done (by kernel_rfl) ?_ _
  have HB4 := Lib.hid (HBE.out.trans (hS4.mono HBE.out.size))
  clear hS4 hb4 hbA hgA hS0
  go_wp2_with fail
  go_ret
  exact ⟨rfl, HB4.out⟩
end Go.Proofs.YtmegncaadglhmaaDoor
