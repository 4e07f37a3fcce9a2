/- The schedule of a block. -/
import Derived.Test.YtmegncaadglhmaaDoorLeaf
import Derived.Test.YtmegncaadglhmaaDoorQTail
namespace Go.Proofs.YtmegncaadglhmaaDoor
open Go.RowKit

/-- the word behind those of l -/
def planNext (bs : List UInt8) (l : List (BitVec 32)) (k : Nat) : BitVec 32 :=
  if k < 16 then be32 (bs.getD (4 * k) 0) (bs.getD (4 * k + 1) 0) (bs.getD (4 * k + 2) 0) (bs.getD (4 * k + 3) 0)
  else spr (l.getD (k - 2) 0) 17 19 10 + l.getD (k - 7) 0 + spr (l.getD (k - 15) 0) 7 18 3 + l.getD (k - 16) 0
/-- the first k words of a block's plan -/
def plan (bs : List UInt8) : Nat → List (BitVec 32)
  | 0 => []
  | k + 1 => plan bs k ++ [planNext bs (plan bs k) k]
theorem length_plan (bs : List UInt8) : ∀ k, (plan bs k).length = k
  | 0 => rfl
  | k + 1 => by simp [plan, length_plan bs k]
/-- the plan's array when k words are there -/
def planCells (bs : List UInt8) (k : Nat) : List Value := (plan bs k).map W ++ List.replicate (64 - k) (W 0)
theorem length_planCells (bs : List UInt8) (k : Nat) (hk : k ≤ 64) : (planCells bs k).length = 64 := by simp [planCells, length_plan]; omega
theorem planCells_get (bs : List UInt8) (k j : Nat) (hj : j < k) : (planCells bs k)[j]? = some (W ((plan bs k).getD j 0)) := by
  have := length_plan bs k
  simp [planCells, List.getElem?_append, this, hj, List.getD]
theorem planCells_some (bs : List UInt8) (k j : Nat) (hk : k ≤ 64) (hj : j < 64) : ∃ v, (planCells bs k)[j]? = some v :=
  ⟨(planCells bs k)[j]'(by rw [length_planCells bs k hk]; exact hj), by simp⟩
theorem planCells_set (bs : List UInt8) (k : Nat) (hk : k < 64) : (planCells bs k).set k (W (planNext bs (plan bs k) k)) = planCells bs (k + 1) := by
  have := length_plan bs k
  unfold planCells
  rw [List.set_append_right _ _ (by simp [this])]
  obtain ⟨m, hm⟩ : ∃ m, 64 - k = m + 1 := ⟨63 - k, by omega⟩
  rw [hm, List.replicate_succ]
  simp [this, plan, show 64 - (k + 1) = m by omega]

/-- a piece of an array's end -/
theorem slice64 (g o l : Nat) (hl : l < 64) (w : World) : (Instr.sliceAt 81 (.pointer (some ⟨g, o, none⟩)) (some (.int .i64 (l : Int))) none none).run Tryd.prog w = .ok (.slice (some ⟨g, o + l, none⟩) (64 - l) (64 - l)) w := by
  rw [run_sliceAt_array_l (P := Tryd.prog) w 81 ⟨g, o, none⟩ (by kernel_rfl) .i64 l (by omega) (by show (l : Int) ≤ 64; omega)]
  have e1 : Tryd.prog.elem 81 = 5 := by kernel_rfl
  have e2 : Tryd.prog.arrayLen 81 = 64 := by kernel_rfl
  have e3 : ∀ w, (sizeOf 5).run Tryd.prog w = .ok 1 w := fun _ => by kernel_rfl
  rw [e1, e2, e3]
  simp [slicedAt, Result.andThen, Addr.add_mid, show ¬ 64 = l by omega]

theorem heap_alloc2_old' (w : World) (A B C : Obj) : (((w.alloc A).alloc B).alloc C).heap[w.heap.size + 1]? = some B := by
  rw [Below.heap_alloc _ _ _ (by simp), heap_alloc2_new]
theorem heap_alloc3_new (w : World) (A B C : Obj) : (((w.alloc A).alloc B).alloc C).heap[w.heap.size + 1 + 1]? = some C := by
  have := heap_alloc_new ((w.alloc A).alloc B) C
  simpa using this
/-- what the loops of the schedule keep -/
structure SchedRel (bs : List UInt8) (n k : Nat) (w wr : World) : Prop where
  src : wr.heap[n]? = some (.cells (bs.map B).toArray 81 (0, 0))
  res : wr.heap[n + 1]? = some (.cells (planCells bs 0).toArray 93 (0, 0))
  pl : wr.heap[n + 1 + 1]? = some (.cells (planCells bs k).toArray 93 (0, 0))
  below : Below n w wr
theorem SchedRel.drewN {bs : List UInt8} {n k : Nat} {w wr : World} (h : SchedRel bs n k w wr) (m : Nat) : SchedRel bs n k w (wr.drewN m) := ⟨h.src, h.res, h.pl, below_drewN h.below m⟩
theorem SchedRel.step {bs : List UInt8} {n k : Nat} {w wr : World} (h : SchedRel bs n k w wr) (hk : k < 64) :
    SchedRel bs n (k + 1) w (wr.setCell ⟨n + 1 + 1, k, none⟩ (W (planNext bs (plan bs k) k))) := by
  refine ⟨?_, ?_, ?_, h.below.setCell (by simp; omega) _⟩
  · rw [heap_setCell_other _ _ _ _ (by simp; omega)]; exact h.src
  · rw [heap_setCell_other _ _ _ _ (by simp)]; exact h.res
  · rw [heap_setCell_same _ _ _ _ _ _ h.pl, ← planCells_set bs k hk]; simp

/-- a block's cells from o on, as a range -/
theorem range_block {w : World} {g : Nat} {L : List Value} {t : TypeId} {fr : Nat × Nat} (h : w.heap[g]? = some (.cells L.toArray t fr)) : w.rangeAt g 0 L := fun j v hv => by
  rw [cell_block h, Nat.zero_add]; simpa using hv
theorem there_block {w : World} {g : Nat} {L : List Value} {t : TypeId} (h : w.heap[g]? = some (.cells L.toArray t (0, 0))) (o n : Nat) (hn : o + n ≤ L.length) : w.there g o n := fun j hj =>
  ⟨by rw [cell_block h]; simp; omega, frozen_of_row w g (o + j) _ t h⟩
theorem over_all (L vs : List Value) (h : vs.length = L.length) : over L 0 vs = vs := by simp [over, h]
theorem info71 (n : Nat) (h : n = 64) : (Tryd.prog.info? 93).map (·.size) = some n := by subst h; kernel_rfl
theorem one_W (l : List (BitVec 32)) : (l.map W).toArray.all (·.oneCell') = true := all_oneCell_toArray (by intro v hv; obtain ⟨x, _, rfl⟩ := List.mem_map.1 hv; rfl)
theorem planCells_64 (bs : List UInt8) : planCells bs 64 = (plan bs 64).map W := by simp [planCells]

set_option maxHeartbeats 400000 in
theorem sched_any (bs : List UInt8) (hbs : bs.length = 64) (w : World) :
    Calls Tryd.prog 49 #[.agg (bs.map B).toArray] w fun e w' => e = .returned (.agg ((plan bs 64).map W).toArray) ∧ Below w.heap.size w w' := by
  go_enter Tryd.func49, Tryd.ntmps49
  go_wp2_with fail
  go_loopw [6] (fun i wr => ∃ k : Nat, k ≤ 16 ∧ i = .int .i64 k ∧ SchedRel bs w.heap.size k w wr) (fun i _ => 16 - (intOf i).toNat)
  case atStart => 
    refine ⟨0, by omega, rfl, ?_, ?_, ?_, ?_⟩
    · rw [Below.heap_alloc _ _ _ (by simp; omega), Below.heap_alloc _ _ _ (by simp), heap_alloc_new]
    · rw [heap_alloc2_old' w _ _ _]; rfl
    · rw [heap_alloc3_new w _ _ _]; rfl
    · exact (((Below.refl _ _).alloc (Nat.le_refl _) _).alloc (by simp) _).alloc (by simp; omega) _
  case round =>
    obtain ⟨k, hk, rfl, hr⟩ := hrel
    by_cases hlt : k < 16
    · have h0 : wr.cell? ⟨w.heap.size, 4 * k, none⟩ = some (B (bs.getD (4 * k) 0)) := by rw [cell_block hr.src]; simp [hbs, show 4 * k < 64 by omega]
      have h1 : wr.cell? ⟨w.heap.size, 4 * k + 1, none⟩ = some (B (bs.getD (4 * k + 1) 0)) := by rw [cell_block hr.src]; simp [hbs, show 4 * k + 1 < 64 by omega]
      have h2 : wr.cell? ⟨w.heap.size, 4 * k + 2, none⟩ = some (B (bs.getD (4 * k + 2) 0)) := by rw [cell_block hr.src]; simp [hbs, show 4 * k + 2 < 64 by omega]
      have h3 : wr.cell? ⟨w.heap.size, 4 * k + 3, none⟩ = some (B (bs.getD (4 * k + 3) 0)) := by rw [cell_block hr.src]; simp [hbs, show 4 * k + 3 < 64 by omega]
      have hs := slice64 w.heap.size 0 (4 * k) (by omega)
      rw [Nat.zero_add, show ((4 * k : Nat) : Int) = 4 * (k : Int) by omega] at hs
      have hp : ∃ v, wr.cell? ⟨w.heap.size + 1 + 1, k, none⟩ = some v := by rw [cell_block hr.pl]; simpa using planCells_some bs k k (by omega) (by omega)
      obtain ⟨v, hv⟩ := hp
      have hf := frozen_of_row wr _ k _ _ hr.pl
      have hd : decide ((k : Int) < 16) = true := by simp; omega
      go_wp2_with fail
      refine (word_any _ _ _ _ _ _ _ _ _ ?_ ?_ h0 h1 h2 h3).mono ?_
      · omega
      · omega
      rintro e w1 ⟨rfl, m, rfl⟩
      go_wp2
      go_roundw
      case rel =>
        refine ⟨k + 1, by omega, by go_num, ?_⟩
        have := (hr.drewN m).step (by omega)
        unfold planNext at this
        rw [if_pos hlt] at this
        exact this
      case measure => simp [intOf]; omega
    · have hd : decide ((k : Int) < 16) = false := by simp; omega
      obtain rfl : k = 16 := by omega
      clear hlt hk
      go_wp2_with fail
      go_loopw [5] (fun i wr => ∃ k : Nat, 16 ≤ k ∧ k ≤ 64 ∧ i = .int .i64 k ∧ SchedRel bs w.heap.size k w wr) (fun i _ => 64 - (intOf i).toNat)
      case atStart => exact ⟨16, by omega, by omega, rfl, hr⟩
      case round =>
        clear hr hd
        obtain ⟨k, hk1, hk2, rfl, hr⟩ := hrel
        by_cases hlt : k < 64
        · have c2 : wr.cell? ⟨w.heap.size + 1 + 1, k - 2, none⟩ = some (W ((plan bs k).getD (k - 2) 0)) := by rw [cell_block hr.pl]; simpa using planCells_get bs k (k - 2) (by omega)
          have c7 : wr.cell? ⟨w.heap.size + 1 + 1, k - 7, none⟩ = some (W ((plan bs k).getD (k - 7) 0)) := by rw [cell_block hr.pl]; simpa using planCells_get bs k (k - 7) (by omega)
          have c15 : wr.cell? ⟨w.heap.size + 1 + 1, k - 15, none⟩ = some (W ((plan bs k).getD (k - 15) 0)) := by rw [cell_block hr.pl]; simpa using planCells_get bs k (k - 15) (by omega)
          have c16 : wr.cell? ⟨w.heap.size + 1 + 1, k - 16, none⟩ = some (W ((plan bs k).getD (k - 16) 0)) := by rw [cell_block hr.pl]; simpa using planCells_get bs k (k - 16) (by omega)
          have hp : ∃ v, wr.cell? ⟨w.heap.size + 1 + 1, k, none⟩ = some v := by rw [cell_block hr.pl]; simpa using planCells_some bs k k (by omega) (by omega)
          obtain ⟨v, hv⟩ := hp
          have hf := frozen_of_row wr _ k _ _ hr.pl
          have hd : decide ((k : Int) < 64) = true := by simp; omega
          go_wp2_with fail
          have i2 : IntKind.i64.wrap ((k : Int) - 2) = (k : Int) - 2 := IntWalk.i64_in _ (by omega)
          have i7 : IntKind.i64.wrap ((k : Int) - 7) = (k : Int) - 7 := IntWalk.i64_in _ (by omega)
          have i15 : IntKind.i64.wrap ((k : Int) - 15) = (k : Int) - 15 := IntWalk.i64_in _ (by omega)
          have i16 : IntKind.i64.wrap ((k : Int) - 16) = (k : Int) - 16 := IntWalk.i64_in _ (by omega)
          have n2 : ((k : Int) - 2).toNat = k - 2 := by omega
          have n7 : ((k : Int) - 7).toNat = k - 7 := by omega
          have n15 : ((k : Int) - 15).toNat = k - 15 := by omega
          have n16 : ((k : Int) - 16).toNat = k - 16 := by omega
          have p2 : 0 ≤ (k : Int) - 2 := by omega
          have p7 : 0 ≤ (k : Int) - 7 := by omega
          have p15 : 0 ≤ (k : Int) - 15 := by omega
          have p16 : 0 ≤ (k : Int) - 16 := by omega
          refine wp_region_quiet_tail 23 (by kernel_rfl) (by kernel_rfl) ?_
          simp only [List.take_succ_cons, List.take_zero, List.drop_succ_cons, List.drop_zero]
          repeat (go_big_quiet_step ((go_at_call 52; exact Calls.quiet_of (spread_any _ _ _ _ (by decide) (by decide) (by decide) (by decide) (by decide) (by decide) _))))
          refine wpQuiet_nil ?_
          intro m
          go_wp2
          go_roundw
          case rel =>
            refine ⟨k + 1, by omega, by omega, by go_num, ?_⟩
            have := (hr.drewN m).step hlt
            unfold planNext at this
            rw [if_neg (by omega)] at this
            rw [sum4]
            exact this
          case measure => simp [intOf]; omega
        · obtain rfl : k = 64 := by omega
          clear hlt hk1 hk2
          have hrange := range_block hr.pl
          have hthere := there_block hr.res 0 64 (by rw [length_planCells _ _ (by omega)]; omega)
          rw [planCells_64] at hrange
          have hlen : ((plan bs 64).map W).length = 64 := by simp [length_plan]
          have hend := heap_setCells _ _ ((plan bs 64).map W) 0 _ _ hr.res (by rw [length_planCells _ _ (by omega), hlen]; omega)
          rw [over_all _ _ (by rw [length_planCells _ _ (by omega), hlen])] at hend
          have hbel : Below w.heap.size w (wr.setCells (w.heap.size + 1) 0 ((plan bs 64).map W)) := (Kept1.setCells (b := w.heap.size + 1) _ (Or.inl rfl) _ _ ⟨hr.below.os, hr.below.tape, hr.below.output, hr.below.size, fun k hk _ => hr.below.block k hk⟩).below (by omega)
          have hi := info71 _ hlen
          have ho := one_W (plan bs 64)
          generalize hLe : (plan bs 64).map W = L at *
          have HL := Lib.hid hLe
          clear hr hLe
          go_wp2_with (first
            | (refine wpList_load_mid rfl 93 (.tmp 3) rfl (w.heap.size + 1 + 1) 0 rfl L _ hrange Tryd.underlying93 rfl hi ?_)
            | (refine wpList_store_mid rfl 93 (.tmp 2) (.tmp 43) rfl (w.heap.size + 1) 0 L.toArray rfl rfl (by simpa [hlen] using hthere) (by simpa using hi) ho ?_))
          exact bodyPost_ret (v := .agg L.toArray) (results_cell_row Tryd.results49 _ _ (w.heap.size + 1) 93 L.toArray (0, 0) _ rfl hend Tryd.underlying93 rfl (by simpa using hi)) rfl ⟨by rw [HL.out], hbel⟩
end Go.Proofs.YtmegncaadglhmaaDoor
