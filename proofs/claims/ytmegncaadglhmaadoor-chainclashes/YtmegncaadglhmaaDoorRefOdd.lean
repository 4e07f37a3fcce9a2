/- The reference's operations on words: where an odd number is true. -/
import Derived.Test.YtmegncaadglhmaaDoorBits
import Derived.Test.YtmegncaadglhmaaDoorQTail
namespace Go.Proofs.YtmegncaadglhmaaDoor
open Go.RowKit

set_option maxRecDepth 100000 in
set_option maxHeartbeats 1000000 in
theorem odd_any (x y z : BitVec 32) (w : World) :
    Calls Tryd.prog 34 #[BV x, BV y, BV z] w fun e w' => e = .returned (BV (x ^^^ y ^^^ z)) ∧ Below w.heap.size w w' := by
  unfold BV
  go_enter Tryd.func34, Tryd.ntmps34
  go_wp2_with fail
  generalize hW : World.alloc _ _ = w1
  have R : BitRel w.heap.size [x, y, z] (fun _ => false) w w1 := by
    rw [← hW]
    have hh := heap_allocs [.cells (bitsV x).toArray 57, .cells (bitsV y).toArray 57, .cells (bitsV z).toArray 57, .cells (bitsC fun _ => false).toArray 57, .cells (bitsC fun _ => false).toArray 57] w
    refine ⟨fun i hi => ?_, ⟨fun _ => false, hh 3 (by simp)⟩, hh 4 (by simp), below_allocs [_, _, _, _, _] w (Below.refl _ _) (Nat.le_refl _)⟩
    match i, hi with
    | 0, _ => exact hh 0 (by simp)
    | 1, _ => exact hh 1 (by simp)
    | 2, _ => exact hh 2 (by simp)
  clear hW
  go_loopw [8] (fun i wr => ∃ k : Nat, k ≤ 32 ∧ i = .int .i64 k ∧ BitRel w.heap.size [x, y, z] (fun i => if i < k then (x ^^^ y ^^^ z).getLsbD i else false) w wr) (fun i _ => 32 - (intOf i).toNat)
  case atStart => exact ⟨0, by omega, rfl, R.congr (fun i _ => by simp)⟩
  case round =>
    clear R
    obtain ⟨k, hk, rfl, hr⟩ := hrel
    by_cases hlt : k < 32
    · have hd : decide ((k : Int) < 32) = true := by simp; omega
      have ca : wr.cell? ⟨w.heap.size, k, none⟩ = some (.bool (x.getLsbD k)) := hr.cell 0 (by simp) k hlt
      have cb : wr.cell? ⟨w.heap.size + 1, k, none⟩ = some (.bool (y.getLsbD k)) := hr.cell 1 (by simp) k hlt
      have cc : wr.cell? ⟨w.heap.size + 1 + 1, k, none⟩ = some (.bool (z.getLsbD k)) := hr.cell 2 (by simp) k hlt
      obtain ⟨v, cv⟩ : ∃ v, wr.cell? ⟨w.heap.size + 1 + 1 + 1 + 1, k, none⟩ = some v := ⟨_, hr.outSome k hlt⟩
      have cf : wr.frozen? ⟨w.heap.size + 1 + 1 + 1 + 1, k, none⟩ = false := hr.outFree k
      have Hr := Lib.hid hr
      clear hr
      generalize hxa : x.getLsbD k = xa at *
      generalize hya : y.getLsbD k = ya at *
      generalize hza : z.getLsbD k = za at *
      have Hx := Lib.hid hxa
      have Hy := Lib.hid hya
      have Hz := Lib.hid hza
      clear hxa hya hza
      go_wp2_with fail
      refine wp_region_quiet_tail 13 (by kernel_rfl) (by kernel_rfl) ?_
      simp only [List.take_succ_cons, List.take_zero, List.drop_succ_cons, List.drop_zero]
      iterate 13 (go_big_quiet_step (fail))
      refine wpQuiet_nil ?_
      intro q
      go_wp2_with fail
      go_roundw
      case rel =>
        refine ⟨k + 1, by omega, by go_num, ?_⟩
        have := ((Hr.out.drewN q).set k ((xa != ya) != za)).congr (g := fun i => if i < k + 1 then (x ^^^ y ^^^ z).getLsbD i else false) (fun i _ => by
          by_cases h : i = k
          · subst h; simp [← Hx.out, ← Hy.out, ← Hz.out, BitVec.getLsbD_xor]
          · rw [if_neg h]; by_cases h2 : i < k
            · rw [if_pos h2, if_pos (by omega)]
            · rw [if_neg h2, if_neg (by omega)])
        exact this
      case measure => simp [intOf]; omega
    · have hd : decide ((k : Int) < 32) = false := by simp; omega
      obtain rfl : k = 32 := by omega
      have hr' := hr.congr (g := (x ^^^ y ^^^ z).getLsbD) (fun i hi => by rw [if_pos hi])
      obtain ⟨hrange, hthere, hend, hbel⟩ := hr'.fin rfl
      have Hend := Lib.hid hend
      have Hbel := Lib.hid hbel
      have hlen := length_bitsC (x ^^^ y ^^^ z).getLsbD
      have hone := all_oneCell_toArray (one_bitsC (x ^^^ y ^^^ z).getLsbD)
      have hL : BV (x ^^^ y ^^^ z) = .agg (bitsC (x ^^^ y ^^^ z).getLsbD).toArray := rfl
      generalize bitsC (x ^^^ y ^^^ z).getLsbD = L at *
      have HL := Lib.hid hL
      have hi := infoBitsL _ hlen
      clear hr hr' hend hbel hL
      go_wp2_with (first
        | (refine wpList_load_mid rfl 57 (.tmp 7) rfl (w.heap.size + 1 + 1 + 1 + 1) 0 rfl L _ hrange Tryd.underlying57 rfl hi ?_)
        | (refine wpList_store_mid rfl 57 (.tmp 6) (.tmp 26) rfl (w.heap.size + 1 + 1 + 1) 0 L.toArray rfl rfl (by simpa [hlen] using hthere) (by simpa using hi) hone ?_))
      exact bodyPost_ret (v := .agg L.toArray) (results_cell_row Tryd.results34 _ _ (w.heap.size + 1 + 1 + 1) 57 L.toArray (0, 0) _ rfl Hend.out Tryd.underlying57 rfl (by simpa using hi)) rfl ⟨by rw [← HL.out]; rfl, Hbel.out⟩
end Go.Proofs.YtmegncaadglhmaaDoor
