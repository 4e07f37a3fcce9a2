/- Two words added, with carries, going round. -/
import Derived.Test.YtmegncaadglhmaaDoorBits
import Derived.Test.YtmegncaadglhmaaDoorQTail
namespace Go.Proofs.YtmegncaadglhmaaDoor
open Go.RowKit

set_option maxRecDepth 100000 in
set_option maxHeartbeats 2000000 in
theorem plus_any (x y : BitVec 32) (w : World) :
    Calls Tryd.prog 36 #[BV x, BV y] w fun e w' => e = .returned (BV (x + y)) ∧ Below w.heap.size w w' := by
  unfold BV
  go_enter Tryd.func36, Tryd.ntmps36
  go_wp2_with fail
  generalize hW : World.alloc _ _ = w1
  have R : BitRel w.heap.size [x, y] (fun _ => false) w w1 := by
    rw [← hW]
    have hh := heap_allocs [.cells (bitsV x).toArray 57, .cells (bitsV y).toArray 57, .cells (bitsC fun _ => false).toArray 57, .cells (bitsC fun _ => false).toArray 57] w
    refine ⟨fun i hi => ?_, ⟨fun _ => false, hh 2 (by simp)⟩, hh 3 (by simp), below_allocs [_, _, _, _] w (Below.refl _ _) (Nat.le_refl _)⟩
    match i, hi with
    | 0, _ => exact hh 0 (by simp)
    | 1, _ => exact hh 1 (by simp)
  clear hW
  go_loopw [6, 7] (fun c i wr => ∃ k : Nat, k ≤ 32 ∧ i = .int .i64 k ∧ c = .bool (BitVec.carry k x y false) ∧ BitRel w.heap.size [x, y] (fun i => if i < k then (x + y).getLsbD i else false) w wr) (fun _ i _ => 32 - (intOf i).toNat)
  case atStart => exact ⟨0, by omega, rfl, by rw [BitVec.carry_zero], R.congr (fun i _ => by simp)⟩
  case round =>
    clear R
    obtain ⟨k, hk, rfl, rfl, hr⟩ := hrel
    by_cases hlt : k < 32
    · have hd : decide ((k : Int) < 32) = true := by simp; omega
      have ca : wr.cell? ⟨w.heap.size, k, none⟩ = some (.bool (x.getLsbD k)) := hr.cell 0 (by simp) k hlt
      have cb : wr.cell? ⟨w.heap.size + 1, k, none⟩ = some (.bool (y.getLsbD k)) := hr.cell 1 (by simp) k hlt
      obtain ⟨v, cv⟩ : ∃ v, wr.cell? ⟨w.heap.size + 1 + 1 + 1, k, none⟩ = some v := ⟨_, hr.outSome k hlt⟩
      have cf : wr.frozen? ⟨w.heap.size + 1 + 1 + 1, k, none⟩ = false := hr.outFree k
      have hcs := BitVec.carry_succ (i := k) (x := x) (y := y) (c := false)
      have hga := BitVec.getLsbD_add (i := k) hlt x y
      have Hr := Lib.hid hr
      clear hr
      cases hxa : x.getLsbD k <;> cases hya : y.getLsbD k <;> cases hza : BitVec.carry k x y false
      all_goals
        rw [hxa] at ca
        rw [hya] at cb
        rw [hxa, hya, hza] at hcs hga
        have Hcs := Lib.hid hcs
        have Hga := Lib.hid hga
        clear hxa hya hza hcs hga
        go_wp2_with fail
        go_roundw
        case rel =>
          refine ⟨k + 1, by omega, by go_num, by rw [Hcs.out]; rfl, ?_⟩
          exact (Hr.out.set k _).congr (g := fun i => if i < k + 1 then (x + y).getLsbD i else false) (fun i _ => by
          by_cases h : i = k
          · subst h; rw [if_pos rfl, if_pos (by omega), Hga.out]; rfl
          · rw [if_neg h]; by_cases h2 : i < k
            · rw [if_pos h2, if_pos (by omega)]
            · rw [if_neg h2, if_neg (by omega)])
        case measure => simp [intOf]; omega
    · have hd : decide ((k : Int) < 32) = false := by simp; omega
      obtain rfl : k = 32 := by omega
      have hr' := hr.congr (g := (x + y).getLsbD) (fun i hi => by rw [if_pos hi])
      obtain ⟨hrange, hthere, hend, hbel⟩ := hr'.fin rfl
      have Hend := Lib.hid hend
      have Hbel := Lib.hid hbel
      have hlen := length_bitsC (x + y).getLsbD
      have hone := all_oneCell_toArray (one_bitsC (x + y).getLsbD)
      have hL : BV (x + y) = .agg (bitsC (x + y).getLsbD).toArray := rfl
      generalize bitsC (x + y).getLsbD = L at *
      have HL := Lib.hid hL
      have hi := infoBitsL _ hlen
      clear hr hr' hend hbel hL
      go_wp2_with (first
        | (refine wpList_load_mid rfl 57 (.tmp 5) rfl (w.heap.size + 1 + 1 + 1) 0 rfl L _ hrange Tryd.underlying57 rfl hi ?_)
        | (refine wpList_store_mid rfl 57 (.tmp 4) (.tmp 33) rfl (w.heap.size + 1 + 1) 0 L.toArray rfl rfl (by simpa [hlen] using hthere) (by simpa using hi) hone ?_))
      exact bodyPost_ret (v := .agg L.toArray) (results_cell_row Tryd.results36 _ _ (w.heap.size + 1 + 1) 57 L.toArray (0, 0) _ rfl Hend.out Tryd.underlying57 rfl (by simpa using hi)) rfl ⟨by rw [← HL.out]; rfl, Hbel.out⟩
end Go.Proofs.YtmegncaadglhmaaDoor
