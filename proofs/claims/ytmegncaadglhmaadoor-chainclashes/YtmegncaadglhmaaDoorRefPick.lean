/- Of each truth of the first, where it is true the second's, else the third's. -/
import Derived.Test.YtmegncaadglhmaaDoorBits
import Derived.Test.YtmegncaadglhmaaDoorQTail
namespace Go.Proofs.YtmegncaadglhmaaDoor
open Go.RowKit

set_option maxRecDepth 100000 in
set_option maxHeartbeats 2000000 in
theorem pick_any (x y z : BitVec 32) (w : World) :
    Calls Tryd.prog 37 #[BV x, BV y, BV z] w fun e w' => e = .returned (BV ((x &&& y) ||| (~~~ x &&& z))) ∧ Below w.heap.size w w' := by
  unfold BV
  have hzv : ∀ w, (zeroValue 57).run Tryd.prog w = .ok (.agg (bitsC fun _ => false).toArray) w := fun _ => by kernel_rfl
  go_enter Tryd.func37, Tryd.ntmps37
  have hrz := range_block (heap_allocs [.cells (bitsV x).toArray 57, .cells (bitsV y).toArray 57, .cells (bitsV z).toArray 57, .cells (bitsC fun _ => false).toArray 57] w 2 (by simp))
  have hth := there_block (heap_allocs [.cells (bitsV x).toArray 57, .cells (bitsV y).toArray 57, .cells (bitsV z).toArray 57, .cells (bitsC fun _ => false).toArray 57, .cells (bitsC fun _ => false).toArray 57] w 4 (by simp)) 0 32 (by rw [length_bitsC]; omega)
  simp only [List.foldl_cons, List.foldl_nil] at hrz hth
  have Hrz := Lib.hid hrz
  have Hth := Lib.hid hth
  clear hrz hth
  generalize hZ : (bitsC fun _ => false) = Z at *
  have HZ := Lib.hid hZ
  clear hZ
  go_wp2_with (first
    | (refine wpList_load_mid rfl 57 (.tmp 5) rfl (w.heap.size + 1 + 1) 0 rfl (bitsV z) _ Hrz.out Tryd.underlying57 rfl (infoBitsL _ (length_bitsV z)) ?_)
    | (refine wpList_store_mid rfl 57 (.tmp 7) (.tmp 9) rfl (w.heap.size + 1 + 1 + 1 + 1) 0 (bitsV z).toArray rfl rfl (by rw [show (bitsV z).toArray.size = 32 from length_bitsV z]; exact Hth.out) (infoBitsL _ (length_bitsV z)) (all_oneCell_toArray (one_bitsC _)) ?_))
  generalize hW : World.setCells _ _ _ _ = w1
  have hZ32 : Z.length = 32 := by rw [← HZ.out, length_bitsC]
  have R : BitRel w.heap.size [x, y, z] z.getLsbD w w1 := by
    rw [← hW]
    have hh := heap_allocs [.cells (bitsV x).toArray 57, .cells (bitsV y).toArray 57, .cells (bitsV z).toArray 57, .cells Z.toArray 57, .cells Z.toArray 57] w
    have hs : ∀ i, i < 4 → (([.cells (bitsV x).toArray 57, .cells (bitsV y).toArray 57, .cells (bitsV z).toArray 57, .cells Z.toArray 57, .cells Z.toArray 57] : List Obj).foldl World.alloc w |>.setCells (w.heap.size + 4) 0 (bitsV z)).heap[w.heap.size + i]? = ([.cells (bitsV x).toArray 57, .cells (bitsV y).toArray 57, .cells (bitsV z).toArray 57, .cells Z.toArray 57, .cells Z.toArray 57] : List Obj)[i]? := fun i hi => by
      rw [World.heap_setCells_other _ _ _ _ (by simp; omega) (by omega)]; exact hh i (by simp; omega)
    refine ⟨fun i hi => ?_, ⟨fun _ => false, by rw [HZ.out]; exact hs 3 (by omega)⟩, ?_, ?_⟩
    · match i, hi with
      | 0, _ => exact hs 0 (by omega)
      | 1, _ => exact hs 1 (by omega)
      | 2, _ => exact hs 2 (by omega)
    · refine (heap_setCells (w.heap.size + 4) 57 (bitsV z) 0 Z _ (hh 4 (by simp)) (by rw [length_bitsV, hZ32]; omega)).trans ?_
      rw [over_all _ _ (by rw [length_bitsV, hZ32])]; rfl
    · exact (Kept1.setCells (b := w.heap.size + 4) _ (Or.inl rfl) _ _ (Kept1.of_below (below_allocs [_, _, _, _, _] w (Below.refl _ _) (Nat.le_refl _)))).below (by omega)
  clear hW Hrz Hth
  go_loopw [8] (fun i wr => ∃ k : Nat, k ≤ 32 ∧ i = .int .i64 k ∧ BitRel w.heap.size [x, y, z] (fun i => if i < k then ((x &&& y) ||| (~~~ x &&& z)).getLsbD i else z.getLsbD i) w wr) (fun i _ => 32 - (intOf i).toNat)
  case atStart => exact ⟨0, by omega, rfl, R.congr (fun i _ => by simp)⟩
  case round =>
    clear R
    obtain ⟨k, hk, rfl, hr⟩ := hrel
    by_cases hlt : k < 32
    · have hd : decide ((k : Int) < 32) = true := by simp; omega
      have ca : wr.cell? ⟨w.heap.size, k, none⟩ = some (.bool (x.getLsbD k)) := hr.cell 0 (by simp) k hlt
      have cb : wr.cell? ⟨w.heap.size + 1, k, none⟩ = some (.bool (y.getLsbD k)) := hr.cell 1 (by simp) k hlt
      obtain ⟨v, cv⟩ : ∃ v, wr.cell? ⟨w.heap.size + 1 + 1 + 1 + 1, k, none⟩ = some v := ⟨_, hr.outSome k hlt⟩
      have cf : wr.frozen? ⟨w.heap.size + 1 + 1 + 1 + 1, k, none⟩ = false := hr.outFree k
      have Hr := Lib.hid hr
      clear hr
      cases hxa : x.getLsbD k
      · rw [hxa] at ca
        have Hx := Lib.hid hxa
        clear hxa
        go_wp2_with fail
        go_roundw
        case rel =>
          refine ⟨k + 1, by omega, by go_num, Hr.out.congr (fun i _ => ?_)⟩
          by_cases h : i = k
          · subst h; rw [if_neg (by omega), if_pos (by omega), BitVec.getLsbD_or, BitVec.getLsbD_and, BitVec.getLsbD_and, BitVec.getLsbD_not, Hx.out]; simp [hlt]
          · by_cases h2 : i < k
            · rw [if_pos h2, if_pos (by omega)]
            · rw [if_neg h2, if_neg (by omega)]
        case measure => simp [intOf]; omega
      · rw [hxa] at ca
        generalize hya : y.getLsbD k = ya at *
        have Hx := Lib.hid hxa
        have Hy := Lib.hid hya
        clear hxa hya
        go_wp2_with fail
        go_roundw
        case rel =>
          refine ⟨k + 1, by omega, by go_num, ?_⟩
          exact (Hr.out.set k ya).congr (g := fun i => if i < k + 1 then ((x &&& y) ||| (~~~ x &&& z)).getLsbD i else z.getLsbD i) (fun i _ => by
          by_cases h : i = k
          · subst h; rw [if_pos rfl, if_pos (by omega), BitVec.getLsbD_or, BitVec.getLsbD_and, BitVec.getLsbD_and, BitVec.getLsbD_not, Hx.out, Hy.out]; simp
          · rw [if_neg h]; by_cases h2 : i < k
            · rw [if_pos h2, if_pos (by omega)]
            · rw [if_neg h2, if_neg (by omega)])
        case measure => simp [intOf]; omega
    · have hd : decide ((k : Int) < 32) = false := by simp; omega
      obtain rfl : k = 32 := by omega
      have hr' := hr.congr (g := ((x &&& y) ||| (~~~ x &&& z)).getLsbD) (fun i hi => by rw [if_pos hi])
      obtain ⟨hrange, hthere, hend, hbel⟩ := hr'.fin rfl
      have Hend := Lib.hid hend
      have Hbel := Lib.hid hbel
      have hlen := length_bitsC ((x &&& y) ||| (~~~ x &&& z)).getLsbD
      have hone := all_oneCell_toArray (one_bitsC ((x &&& y) ||| (~~~ x &&& z)).getLsbD)
      have hL : BV ((x &&& y) ||| (~~~ x &&& z)) = .agg (bitsC ((x &&& y) ||| (~~~ x &&& z)).getLsbD).toArray := rfl
      generalize bitsC ((x &&& y) ||| (~~~ x &&& z)).getLsbD = L at *
      have HL := Lib.hid hL
      have hi := infoBitsL _ hlen
      clear hr hr' hend hbel hL
      go_wp2_with (first
        | (refine wpList_load_mid rfl 57 (.tmp 7) rfl (w.heap.size + 1 + 1 + 1 + 1) 0 rfl L _ hrange Tryd.underlying57 rfl hi ?_)
        | (refine wpList_store_mid rfl 57 (.tmp 6) (.tmp 22) rfl (w.heap.size + 1 + 1 + 1) 0 L.toArray rfl rfl (by simpa [hlen] using hthere) (by simpa using hi) hone ?_))
      exact bodyPost_ret (v := .agg L.toArray) (results_cell_row Tryd.results37 _ _ (w.heap.size + 1 + 1 + 1) 57 L.toArray (0, 0) _ rfl Hend.out Tryd.underlying57 rfl (by simpa using hi)) rfl ⟨by rw [← HL.out]; rfl, Hbel.out⟩
end Go.Proofs.YtmegncaadglhmaaDoor
