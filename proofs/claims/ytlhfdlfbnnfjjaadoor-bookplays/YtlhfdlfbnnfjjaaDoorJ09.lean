/- The small functions of package sha, each by its contract; The schedule of a block; The rounds over a plan. -/
import Derived.Test.YtlhfdlfbnnfjjaaDoorRows
import Derived.Test.YtlhfdlfbnnfjjaaDoorJ08
import Derived.Test.YtlhfdlfbnnfjjaaDoorJ01
import Derived.WalkKit
import Derived.WalkSpells
import Derived.WalkLawsBesides
import Derived.Lib.Hide
import Derived.Deep.QuietTactic
import Derived.BigQuiet
import Derived.Test.YtlhfdlfbnnfjjaaDoorJ03
namespace Go.Proofs.YtlhfdlfbnnfjjaaDoor
open Go.RowKit

set_option maxRecDepth 100000 in
set_option maxHeartbeats 400000 in
theorem rotl_any (x : BitVec 32) (k : Int) (n : Nat) (h1 : 1 ≤ n) (h2 : n ≤ 31) (hk : k = -(n : Int)) (w : World) :
    Calls Tryd.prog 92 #[.int .u32 (x.toNat : Int), .int .i64 k] w fun e w' => e = .returned (.int .u32 ((rotr x n).toNat : Int)) ∧ w = w' := by
  subst hk
  have hs := and31 n h1 h2
  obtain ⟨s, hs'⟩ : ∃ s : Nat, s = 32 - n := ⟨_, rfl⟩
  rw [← hs'] at hs
  have b1 : 1 ≤ s := by omega
  have b2 : s ≤ 31 := by omega
  have HS := Lib.hid hs'
  clear hs'
  go_enter Tryd.func92, Tryd.ntmps92
  go_wp2
  go_ret
  refine ⟨?_, rfl⟩
  show Ending.returned (.int .u32 (bits BinOp.or IntKind.u32 (↑x.toNat * 2 ^ s % 4294967296) (↑x.toNat / 2 ^ (32 - s)))) = _
  rw [shl32', shr32, or32, HS.out, show 32 - (32 - n) = n by omega]; rfl

set_option maxRecDepth 100000 in
theorem ret_int {k : IntKind} {a b : Int} (h : a = b) : Ending.returned (.int k a) = .returned (.int k b) := by rw [h]

set_option maxRecDepth 100000 in
set_option maxHeartbeats 400000 in
theorem turn_any (x : BitVec 32) (i j k : Int) (i1 : 1 ≤ i) (i2 : i ≤ 31) (j1 : 1 ≤ j) (j2 : j ≤ 31) (k1 : 1 ≤ k) (k2 : k ≤ 31) (w : World) :
    Calls Tryd.prog 89 #[.int .u32 (x.toNat : Int), .int .i64 i, .int .i64 j, .int .i64 k] w fun e w' => e = .returned (.int .u32 ((trn x i.toNat j.toNat k.toNat).toNat : Int)) ∧ w = w' := by
  obtain ⟨i, rfl⟩ := Int.eq_ofNat_of_zero_le (show 0 ≤ i by omega)
  obtain ⟨j, rfl⟩ := Int.eq_ofNat_of_zero_le (show 0 ≤ j by omega)
  obtain ⟨k, rfl⟩ := Int.eq_ofNat_of_zero_le (show 0 ≤ k by omega)
  simp only [Int.toNat_natCast]
  go_enter Tryd.func89, Tryd.ntmps89
  go_wp2_with (go_at_call 92; refine (rotl_any x _ _ ?_ ?_ rfl _).mono ?_; omega; omega; rintro e w' ⟨rfl, rfl⟩)
  go_ret
  refine ⟨ret_int (?_ : bits _ _ _ _ = _), rfl⟩
  rw [xor32, xor32]; rfl

set_option maxRecDepth 100000 in
set_option maxHeartbeats 400000 in
theorem spread_any (x : BitVec 32) (i j k : Int) (i1 : 1 ≤ i) (i2 : i ≤ 31) (j1 : 1 ≤ j) (j2 : j ≤ 31) (k1 : 1 ≤ k) (k2 : k ≤ 31) (w : World) :
    Calls Tryd.prog 91 #[.int .u32 (x.toNat : Int), .int .i64 i, .int .i64 j, .int .i64 k] w fun e w' => e = .returned (.int .u32 ((spr x i.toNat j.toNat k.toNat).toNat : Int)) ∧ ∃ m, w' = w.drewN m := by
  obtain ⟨i, rfl⟩ := Int.eq_ofNat_of_zero_le (show 0 ≤ i by omega)
  obtain ⟨j, rfl⟩ := Int.eq_ofNat_of_zero_le (show 0 ≤ j by omega)
  obtain ⟨k, rfl⟩ := Int.eq_ofNat_of_zero_le (show 0 ≤ k by omega)
  simp only [Int.toNat_natCast]
  go_enter Tryd.func91, Tryd.ntmps91
  go_wp2_with fail
  go_quiet ((go_at_call 92; refine Calls.quiet_w (rotl_any x _ _ ?_ ?_ rfl _) <;> omega))
  go_wp2
  go_ret
  refine ⟨ret_int (?_ : bits _ _ _ _ = _), _, rfl⟩
  rw [xor32, shr32, xor32]; rfl

set_option maxRecDepth 100000 in
set_option maxHeartbeats 400000 in
theorem word_any (g o len cap : Nat) (c0 c1 c2 c3 : UInt8) (w : World) (hl : 4 ≤ len) (hm : len ≤ 1000000)
    (h0 : w.cell? ⟨g, o, none⟩ = some (B c0)) (h1 : w.cell? ⟨g, o + 1, none⟩ = some (B c1))
    (h2 : w.cell? ⟨g, o + 2, none⟩ = some (B c2)) (h3 : w.cell? ⟨g, o + 3, none⟩ = some (B c3)) :
    Calls Tryd.prog 90 #[.slice (some ⟨g, o, none⟩) len cap] w fun e w' => e = .returned (.int .u32 ((be32 c0 c1 c2 c3).toNat : Int)) ∧ ∃ m, w' = w.drewN m := by
  unfold B at *
  go_enter Tryd.func90, Tryd.ntmps90
  go_wp2
  go_quiet (fail)
  go_wp2
  go_ret
  exact ⟨ret_int (be32_eq c0 c1 c2 c3), _, rfl⟩

set_option maxRecDepth 100000 in
set_option maxHeartbeats 400000 in
theorem start_any (w : World) :
    Calls Tryd.prog 86 #[] w fun e w' => e = .returned (.agg #[W 0x6a09e667, W 0xbb67ae85, W 0x3c6ef372, W 0xa54ff53a, W 0x510e527f, W 0x9b05688c, W 0x1f83d9ab, W 0x5be0cd19]) ∧ Below w.heap.size w w' := by
  go_enter Tryd.func86, Tryd.ntmps86
  go_wp2
  exact bodyPost_ret (v := .agg #[W 0x6a09e667, W 0xbb67ae85, W 0x3c6ef372, W 0xa54ff53a, W 0x510e527f, W 0x9b05688c, W 0x1f83d9ab, W 0x5be0cd19]) (by simp [results, Tryd.results86, go_sem]) rfl ⟨rfl, (Below.refl _ _).alloc (Nat.le_refl _) _⟩

set_option maxRecDepth 100000 in
set_option maxHeartbeats 400000 in
theorem put_any (g o len cap : Nat) (x : BitVec 32) (w : World) (hl : 4 ≤ len) (hm : len ≤ 1000000) (L : List Value) (t : TypeId) (hL : o + 4 ≤ L.length)
    (hb : w.heap[g]? = some (.cells L.toArray t (0, 0))) :
    Calls Tryd.prog 68 #[.slice (some ⟨g, o, none⟩) len cap, .int .u32 (x.toNat : Int)] w fun e w' => e = .returned (.tuple #[]) ∧ w.setCells g o [B (byteOf x 0), B (byteOf x 1), B (byteOf x 2), B (byteOf x 3)] = w' := by
  have hc : ∀ j, j < 4 → ∃ v, w.cell? ⟨g, o + j, none⟩ = some v := fun j hj => ⟨L[o + j], by rw [cell_block hb]; simp [show o + j < L.length by omega]⟩
  obtain ⟨v0, c0⟩ := hc 0 (by omega)
  obtain ⟨v1, c1⟩ := hc 1 (by omega)
  obtain ⟨v2, c2⟩ := hc 2 (by omega)
  obtain ⟨v3, c3⟩ := hc 3 (by omega)
  have f0 := frozen_of_row w g o _ t hb
  have f1 := frozen_of_row w g (o + 1) _ t hb
  have f2 := frozen_of_row w g (o + 2) _ t hb
  have f3 := frozen_of_row w g (o + 3) _ t hb
  have hx := x.isLt
  clear hc hb hL
  rw [Nat.add_zero] at c0
  go_enter Tryd.func68, Tryd.ntmps68
  go_wp2
  refine wp_loop_rounds 5 ?_
  rw [rounds_succ]
  go_wp2
  rw [rounds_succ]
  go_wp2
  rw [rounds_succ]
  go_wp2
  rw [rounds_succ]
  go_wp2
  rw [rounds_succ]
  go_wp2
  go_end0
  refine ⟨rfl, ?_⟩
  simp only [World.setCells, B, byteOf0, byteOf1, byteOf2, byteOf3]
end Go.Proofs.YtlhfdlfbnnfjjaaDoor
namespace Go.Proofs.YtlhfdlfbnnfjjaaDoor
open Go.RowKit

/-- the word behind those of l -/
def planNext (bs : List UInt8) (l : List (BitVec 32)) (k : Nat) : BitVec 32 :=
  if k < 16 then be32 (bs.getD (4 * k) 0) (bs.getD (4 * k + 1) 0) (bs.getD (4 * k + 2) 0) (bs.getD (4 * k + 3) 0)
  else spr (l.getD (k - 2) 0) 17 19 10 + l.getD (k - 7) 0 + spr (l.getD (k - 15) 0) 7 18 3 + l.getD (k - 16) 0
/-- the first k words of a block's plan -/
def plan (bs : List UInt8) : Nat → List (BitVec 32)
  | 0 => []
  | k + 1 => plan bs k ++ [planNext bs (plan bs k) k]
set_option maxRecDepth 100000 in
theorem length_plan (bs : List UInt8) : ∀ k, (plan bs k).length = k
  | 0 => rfl
  | k + 1 => by simp [plan, length_plan bs k]
/-- the plan's array when k words are there -/
def planCells (bs : List UInt8) (k : Nat) : List Value := (plan bs k).map W ++ List.replicate (64 - k) (W 0)
set_option maxRecDepth 100000 in
theorem length_planCells (bs : List UInt8) (k : Nat) (hk : k ≤ 64) : (planCells bs k).length = 64 := by simp [planCells, length_plan]; omega
set_option maxRecDepth 100000 in
theorem planCells_get (bs : List UInt8) (k j : Nat) (hj : j < k) : (planCells bs k)[j]? = some (W ((plan bs k).getD j 0)) := by
  have := length_plan bs k
  simp [planCells, List.getElem?_append, this, hj, List.getD]
set_option maxRecDepth 100000 in
theorem planCells_some (bs : List UInt8) (k j : Nat) (hk : k ≤ 64) (hj : j < 64) : ∃ v, (planCells bs k)[j]? = some v :=
  ⟨(planCells bs k)[j]'(by rw [length_planCells bs k hk]; exact hj), by simp⟩
set_option maxRecDepth 100000 in
theorem planCells_set (bs : List UInt8) (k : Nat) (hk : k < 64) : (planCells bs k).set k (W (planNext bs (plan bs k) k)) = planCells bs (k + 1) := by
  have := length_plan bs k
  unfold planCells
  rw [List.set_append_right _ _ (by simp [this])]
  obtain ⟨m, hm⟩ : ∃ m, 64 - k = m + 1 := ⟨63 - k, by omega⟩
  rw [hm, List.replicate_succ]
  simp [this, plan, show 64 - (k + 1) = m by omega]

set_option maxRecDepth 100000 in
/-- a piece of an array's end -/
theorem slice64 (g o l : Nat) (hl : l < 64) (w : World) : (Instr.sliceAt 85 (.pointer (some ⟨g, o, none⟩)) (some (.int .i64 (l : Int))) none none).run Tryd.prog w = .ok (.slice (some ⟨g, o + l, none⟩) (64 - l) (64 - l)) w := by
  rw [run_sliceAt_array_l (P := Tryd.prog) w 85 ⟨g, o, none⟩ (by kernel_rfl) .i64 l (by omega) (by show (l : Int) ≤ 64; omega)]
  have e1 : Tryd.prog.elem 85 = 5 := by kernel_rfl
  have e2 : Tryd.prog.arrayLen 85 = 64 := by kernel_rfl
  have e3 : ∀ w, (sizeOf 5).run Tryd.prog w = .ok 1 w := fun _ => by kernel_rfl
  rw [e1, e2, e3]
  simp [slicedAt, Result.andThen, Addr.add_mid, show ¬ 64 = l by omega]

set_option maxRecDepth 100000 in
theorem heap_alloc2_old' (w : World) (A B C : Obj) : (((w.alloc A).alloc B).alloc C).heap[w.heap.size + 1]? = some B := by
  rw [Below.heap_alloc _ _ _ (by simp), heap_alloc2_new]
set_option maxRecDepth 100000 in
theorem heap_alloc3_new (w : World) (A B C : Obj) : (((w.alloc A).alloc B).alloc C).heap[w.heap.size + 1 + 1]? = some C := by
  have := heap_alloc_new ((w.alloc A).alloc B) C
  simpa using this
/-- what the loops of the schedule keep -/
structure SchedRel (bs : List UInt8) (n k : Nat) (w wr : World) : Prop where
  src : wr.heap[n]? = some (.cells (bs.map B).toArray 85 (0, 0))
  res : wr.heap[n + 1]? = some (.cells (planCells bs 0).toArray 147 (0, 0))
  pl : wr.heap[n + 1 + 1]? = some (.cells (planCells bs k).toArray 147 (0, 0))
  below : Below n w wr
set_option maxRecDepth 100000 in
theorem SchedRel.drewN {bs : List UInt8} {n k : Nat} {w wr : World} (h : SchedRel bs n k w wr) (m : Nat) : SchedRel bs n k w (wr.drewN m) := ⟨h.src, h.res, h.pl, below_drewN h.below m⟩
set_option maxRecDepth 100000 in
theorem SchedRel.step {bs : List UInt8} {n k : Nat} {w wr : World} (h : SchedRel bs n k w wr) (hk : k < 64) :
    SchedRel bs n (k + 1) w (wr.setCell ⟨n + 1 + 1, k, none⟩ (W (planNext bs (plan bs k) k))) := by
  refine ⟨?_, ?_, ?_, h.below.setCell (by simp; omega) _⟩
  · rw [heap_setCell_other _ _ _ _ (by simp; omega)]; exact h.src
  · rw [heap_setCell_other _ _ _ _ (by simp)]; exact h.res
  · rw [heap_setCell_same _ _ _ _ _ _ h.pl, ← planCells_set bs k hk]; simp

set_option maxRecDepth 100000 in
/-- a block's cells from o on, as a range -/
theorem range_block {w : World} {g : Nat} {L : List Value} {t : TypeId} {fr : Nat × Nat} (h : w.heap[g]? = some (.cells L.toArray t fr)) : w.rangeAt g 0 L := fun j v hv => by
  rw [cell_block h, Nat.zero_add]; simpa using hv
set_option maxRecDepth 100000 in
theorem there_block {w : World} {g : Nat} {L : List Value} {t : TypeId} (h : w.heap[g]? = some (.cells L.toArray t (0, 0))) (o n : Nat) (hn : o + n ≤ L.length) : w.there g o n := fun j hj =>
  ⟨by rw [cell_block h]; simp; omega, frozen_of_row w g (o + j) _ t h⟩
set_option maxRecDepth 100000 in
theorem over_all (L vs : List Value) (h : vs.length = L.length) : over L 0 vs = vs := by simp [over, h]
set_option maxRecDepth 100000 in
theorem info71 (n : Nat) (h : n = 64) : (Tryd.prog.info? 147).map (·.size) = some n := by subst h; kernel_rfl
set_option maxRecDepth 100000 in
theorem one_W (l : List (BitVec 32)) : (l.map W).toArray.all (·.oneCell') = true := all_oneCell_toArray (by intro v hv; obtain ⟨x, _, rfl⟩ := List.mem_map.1 hv; rfl)
set_option maxRecDepth 100000 in
theorem planCells_64 (bs : List UInt8) : planCells bs 64 = (plan bs 64).map W := by simp [planCells]

set_option maxRecDepth 100000 in
set_option maxHeartbeats 400000 in
theorem sched_any (bs : List UInt8) (hbs : bs.length = 64) (w : World) :
    Calls Tryd.prog 88 #[.agg (bs.map B).toArray] w fun e w' => e = .returned (.agg ((plan bs 64).map W).toArray) ∧ Below w.heap.size w w' := by
  go_enter Tryd.func88, Tryd.ntmps88
  go_wp2_with fail
  go_loopw [6] (fun i wr => ∃ k : Nat, k ≤ 16 ∧ i = .int .i64 k ∧ SchedRel bs w.heap.size k w wr) (fun i _ => 16 - (intOf i).toNat)
  case atStart => 
    refine ⟨0, by omega, rfl, ?_, ?_, ?_, ?_⟩
    · rw [Below.heap_alloc _ _ _ (by simp; omega), Below.heap_alloc _ _ _ (by simp), heap_alloc_new]
    · rw [heap_alloc2_old' w _ _ _]; rfl
    · rw [heap_alloc3_new w _ _ _]; rfl
    · exact (((Below.refl _ _).alloc (Nat.le_refl _) _).alloc (by simp) _).alloc (by simp; omega) _
  case round =>
    obtain ⟨k, hk, rfl, hr⟩ := hrel
    by_cases hlt : k < 16
    · have h0 : wr.cell? ⟨w.heap.size, 4 * k, none⟩ = some (B (bs.getD (4 * k) 0)) := by rw [cell_block hr.src]; simp [hbs, show 4 * k < 64 by omega]
      have h1 : wr.cell? ⟨w.heap.size, 4 * k + 1, none⟩ = some (B (bs.getD (4 * k + 1) 0)) := by rw [cell_block hr.src]; simp [hbs, show 4 * k + 1 < 64 by omega]
      have h2 : wr.cell? ⟨w.heap.size, 4 * k + 2, none⟩ = some (B (bs.getD (4 * k + 2) 0)) := by rw [cell_block hr.src]; simp [hbs, show 4 * k + 2 < 64 by omega]
      have h3 : wr.cell? ⟨w.heap.size, 4 * k + 3, none⟩ = some (B (bs.getD (4 * k + 3) 0)) := by rw [cell_block hr.src]; simp [hbs, show 4 * k + 3 < 64 by omega]
      have hs := slice64 w.heap.size 0 (4 * k) (by omega)
      rw [Nat.zero_add, show ((4 * k : Nat) : Int) = 4 * (k : Int) by omega] at hs
      have hp : ∃ v, wr.cell? ⟨w.heap.size + 1 + 1, k, none⟩ = some v := by rw [cell_block hr.pl]; simpa using planCells_some bs k k (by omega) (by omega)
      obtain ⟨v, hv⟩ := hp
      have hf := frozen_of_row wr _ k _ _ hr.pl
      have hd : decide ((k : Int) < 16) = true := by simp; omega
      go_wp2_with fail
      refine (word_any _ _ _ _ _ _ _ _ _ ?_ ?_ h0 h1 h2 h3).mono ?_
      · omega
      · omega
      rintro e w1 ⟨rfl, m, rfl⟩
      go_wp2
      go_roundw
      case rel =>
        refine ⟨k + 1, by omega, by go_num, ?_⟩
        have := (hr.drewN m).step (by omega)
        unfold planNext at this
        rw [if_pos hlt] at this
        exact this
      case measure => simp [intOf]; omega
    · have hd : decide ((k : Int) < 16) = false := by simp; omega
      obtain rfl : k = 16 := by omega
      clear hlt hk
      go_wp2_with fail
      go_loopw [5] (fun i wr => ∃ k : Nat, 16 ≤ k ∧ k ≤ 64 ∧ i = .int .i64 k ∧ SchedRel bs w.heap.size k w wr) (fun i _ => 64 - (intOf i).toNat)
      case atStart => exact ⟨16, by omega, by omega, rfl, hr⟩
      case round =>
        clear hr hd
        obtain ⟨k, hk1, hk2, rfl, hr⟩ := hrel
        by_cases hlt : k < 64
        · have c2 : wr.cell? ⟨w.heap.size + 1 + 1, k - 2, none⟩ = some (W ((plan bs k).getD (k - 2) 0)) := by rw [cell_block hr.pl]; simpa using planCells_get bs k (k - 2) (by omega)
          have c7 : wr.cell? ⟨w.heap.size + 1 + 1, k - 7, none⟩ = some (W ((plan bs k).getD (k - 7) 0)) := by rw [cell_block hr.pl]; simpa using planCells_get bs k (k - 7) (by omega)
          have c15 : wr.cell? ⟨w.heap.size + 1 + 1, k - 15, none⟩ = some (W ((plan bs k).getD (k - 15) 0)) := by rw [cell_block hr.pl]; simpa using planCells_get bs k (k - 15) (by omega)
          have c16 : wr.cell? ⟨w.heap.size + 1 + 1, k - 16, none⟩ = some (W ((plan bs k).getD (k - 16) 0)) := by rw [cell_block hr.pl]; simpa using planCells_get bs k (k - 16) (by omega)
          have hp : ∃ v, wr.cell? ⟨w.heap.size + 1 + 1, k, none⟩ = some v := by rw [cell_block hr.pl]; simpa using planCells_some bs k k (by omega) (by omega)
          obtain ⟨v, hv⟩ := hp
          have hf := frozen_of_row wr _ k _ _ hr.pl
          have hd : decide ((k : Int) < 64) = true := by simp; omega
          go_wp2_with fail
          have i2 : IntKind.i64.wrap ((k : Int) - 2) = (k : Int) - 2 := IntWalk.i64_in _ (by omega)
          have i7 : IntKind.i64.wrap ((k : Int) - 7) = (k : Int) - 7 := IntWalk.i64_in _ (by omega)
          have i15 : IntKind.i64.wrap ((k : Int) - 15) = (k : Int) - 15 := IntWalk.i64_in _ (by omega)
          have i16 : IntKind.i64.wrap ((k : Int) - 16) = (k : Int) - 16 := IntWalk.i64_in _ (by omega)
          have n2 : ((k : Int) - 2).toNat = k - 2 := by omega
          have n7 : ((k : Int) - 7).toNat = k - 7 := by omega
          have n15 : ((k : Int) - 15).toNat = k - 15 := by omega
          have n16 : ((k : Int) - 16).toNat = k - 16 := by omega
          have p2 : 0 ≤ (k : Int) - 2 := by omega
          have p7 : 0 ≤ (k : Int) - 7 := by omega
          have p15 : 0 ≤ (k : Int) - 15 := by omega
          have p16 : 0 ≤ (k : Int) - 16 := by omega
          refine wp_region_quiet_tail 23 (by kernel_rfl) (by kernel_rfl) ?_
          simp only [List.take_succ_cons, List.take_zero, List.drop_succ_cons, List.drop_zero]
          repeat (go_big_quiet_step ((go_at_call 91; exact Calls.quiet_of (spread_any _ _ _ _ (by decide) (by decide) (by decide) (by decide) (by decide) (by decide) _))))
          refine wpQuiet_nil ?_
          intro m
          go_wp2
          go_roundw
          case rel =>
            refine ⟨k + 1, by omega, by omega, by go_num, ?_⟩
            have := (hr.drewN m).step hlt
            unfold planNext at this
            rw [if_neg (by omega)] at this
            rw [sum4]
            exact this
          case measure => simp [intOf]; omega
        · obtain rfl : k = 64 := by omega
          clear hlt hk1 hk2
          have hrange := range_block hr.pl
          have hthere := there_block hr.res 0 64 (by rw [length_planCells _ _ (by omega)]; omega)
          rw [planCells_64] at hrange
          have hlen : ((plan bs 64).map W).length = 64 := by simp [length_plan]
          have hend := heap_setCells _ _ ((plan bs 64).map W) 0 _ _ hr.res (by rw [length_planCells _ _ (by omega), hlen]; omega)
          rw [over_all _ _ (by rw [length_planCells _ _ (by omega), hlen])] at hend
          have hbel : Below w.heap.size w (wr.setCells (w.heap.size + 1) 0 ((plan bs 64).map W)) := (Kept1.setCells (b := w.heap.size + 1) _ (Or.inl rfl) _ _ ⟨hr.below.os, hr.below.tape, hr.below.output, hr.below.size, fun k hk _ => hr.below.block k hk⟩).below (by omega)
          have hi := info71 _ hlen
          have ho := one_W (plan bs 64)
          generalize hLe : (plan bs 64).map W = L at *
          have HL := Lib.hid hLe
          clear hr hLe
          go_wp2_with (first
            | (refine wpList_load_mid rfl 147 (.tmp 3) rfl (w.heap.size + 1 + 1) 0 rfl L _ hrange Tryd.underlying147 rfl hi ?_)
            | (refine wpList_store_mid rfl 147 (.tmp 2) (.tmp 43) rfl (w.heap.size + 1) 0 L.toArray rfl rfl (by simpa [hlen] using hthere) (by simpa using hi) ho ?_))
          exact bodyPost_ret (v := .agg L.toArray) (results_cell_row Tryd.results88 _ _ (w.heap.size + 1) 147 L.toArray (0, 0) _ rfl hend Tryd.underlying147 rfl (by simpa using hi)) rfl ⟨by rw [HL.out], hbel⟩
end Go.Proofs.YtlhfdlfbnnfjjaaDoor
namespace Go.Proofs.YtlhfdlfbnnfjjaaDoor
open Go.RowKit

/-- eight words -/
structure St8 where
  a : BitVec 32
  b : BitVec 32
  c : BitVec 32
  d : BitVec 32
  e : BitVec 32
  f : BitVec 32
  g : BitVec 32
  h : BitVec 32
def St8.list (s : St8) : List (BitVec 32) := [s.a, s.b, s.c, s.d, s.e, s.f, s.g, s.h]
def ch (x y z : BitVec 32) : BitVec 32 := (x &&& y) ^^^ (~~~ x &&& z)
def maj (x y z : BitVec 32) : BitVec 32 := (x &&& y) ^^^ (x &&& z) ^^^ (y &&& z)
/-- the first sum of a round -/
def sumA (s : St8) (k p : BitVec 32) : BitVec 32 := s.h + trn s.e 6 11 25 + ch s.e s.f s.g + k + p
/-- a round -/
def rnd (s : St8) (k p : BitVec 32) : St8 := ⟨sumA s k p + (trn s.a 2 13 22 + maj s.a s.b s.c), s.a, s.b, s.c, s.d + sumA s k p, s.e, s.f, s.g⟩
/-- the rounds' constants -/
def consts : List (BitVec 32) := [0x428a2f98, 0x71374491, 0xb5c0fbcf, 0xe9b5dba5, 0x3956c25b, 0x59f111f1, 0x923f82a4, 0xab1c5ed5,
  0xd807aa98, 0x12835b01, 0x243185be, 0x550c7dc3, 0x72be5d74, 0x80deb1fe, 0x9bdc06a7, 0xc19bf174,
  0xe49b69c1, 0xefbe4786, 0x0fc19dc6, 0x240ca1cc, 0x2de92c6f, 0x4a7484aa, 0x5cb0a9dc, 0x76f988da,
  0x983e5152, 0xa831c66d, 0xb00327c8, 0xbf597fc7, 0xc6e00bf3, 0xd5a79147, 0x06ca6351, 0x14292967,
  0x27b70a85, 0x2e1b2138, 0x4d2c6dfc, 0x53380d13, 0x650a7354, 0x766a0abb, 0x81c2c92e, 0x92722c85,
  0xa2bfe8a1, 0xa81a664b, 0xc24b8b70, 0xc76c51a3, 0xd192e819, 0xd6990624, 0xf40e3585, 0x106aa070,
  0x19a4c116, 0x1e376c08, 0x2748774c, 0x34b0bcb5, 0x391c0cb3, 0x4ed8aa4a, 0x5b9cca4f, 0x682e6ff3,
  0x748f82ee, 0x78a5636f, 0x84c87814, 0x8cc70208, 0x90befffa, 0xa4506ceb, 0xbef9a3f7, 0xc67178f2]
/-- behind k rounds -/
def rnds (s : St8) (p : List (BitVec 32)) : Nat → St8
  | 0 => s
  | k + 1 => rnd (rnds s p k) (consts.getD k 0) (p.getD k 0)
/-- added word by word -/
def St8.plus (s t : St8) : St8 := ⟨s.a + t.a, s.b + t.b, s.c + t.c, s.d + t.d, s.e + t.e, s.f + t.f, s.g + t.g, s.h + t.h⟩

/-- the table of constants lies in its place -/
def Tab (w : World) : Prop := ∀ k, k < 64 → w.cell? ⟨0, k, none⟩ = some (W (consts.getD k 0))

set_option maxRecDepth 100000 in
theorem index64 (L : List (BitVec 32)) (k : Nat) (hL : L.length = 64) (hk : k < 64) (w : World) : (Instr.index 147 (.agg (L.map W).toArray) (.int .i64 (k : Int))).run Tryd.prog w = .ok (W (L.getD k 0)) w := by
  have e3 : ∀ w, (sizeOf 121).run Tryd.prog w = .ok 1 w := fun _ => by kernel_rfl
  have e4 : ∀ w, (isAgg 121).run Tryd.prog w = .ok false w := fun _ => by kernel_rfl
  have h1 : (0 : Int) ≤ (k : Int) ∧ (k : Int) < 64 := by omega
  have h2 : L[k]? = some (L.getD k 0) := by simp [hL, hk]
  simp [Instr.index, run_underlying Tryd.underlying147, asIntOf, h1, part, e3, e4, hL, hk, go_sem]

set_option maxRecDepth 100000 in
theorem notX (x : BitVec 32) : bits BinOp.xor IntKind.u32 4294967295 (x.toNat : Int) = ((~~~ x).toNat : Int) := by
  have := xor32 (BitVec.allOnes 32) x
  rw [BitVec.allOnes_xor] at this
  exact this
set_option maxRecDepth 100000 in
theorem chI (x y z : BitVec 32) : bits BinOp.xor IntKind.u32 (bits BinOp.and IntKind.u32 (x.toNat : Int) (y.toNat : Int)) (bits BinOp.and IntKind.u32 (bits BinOp.xor IntKind.u32 4294967295 (x.toNat : Int)) (z.toNat : Int)) = ((ch x y z).toNat : Int) := by
  rw [notX, and32, and32, xor32]; rfl
set_option maxRecDepth 100000 in
theorem majI (x y z : BitVec 32) : bits BinOp.xor IntKind.u32 (bits BinOp.xor IntKind.u32 (bits BinOp.and IntKind.u32 (x.toNat : Int) (y.toNat : Int)) (bits BinOp.and IntKind.u32 (x.toNat : Int) (z.toNat : Int))) (bits BinOp.and IntKind.u32 (y.toNat : Int) (z.toNat : Int)) = ((maj x y z).toNat : Int) := by
  rw [and32, and32, and32, xor32, xor32]; rfl

/-- what the rounds keep in memory -/
structure MixRel (s : St8) (n : Nat) (w wr : World) : Prop where
  src : wr.heap[n]? = some (.cells (s.list.map W).toArray 138 (0, 0))
  res : wr.heap[n + 1 + 1]? = some (.cells ((St8.list ⟨0, 0, 0, 0, 0, 0, 0, 0⟩).map W).toArray 138 (0, 0))
  below : Below n w wr
set_option maxRecDepth 100000 in
theorem MixRel.drewN {s : St8} {n : Nat} {w wr : World} (h : MixRel s n w wr) (m : Nat) : MixRel s n w (wr.drewN m) := ⟨h.src, h.res, below_drewN h.below m⟩
set_option maxRecDepth 100000 in
theorem Tab.drewN {w : World} (h : Tab w) (m : Nat) : Tab (w.drewN m) := h
set_option maxRecDepth 100000 in
theorem Tab.below {n : Nat} {w w' : World} (h : Tab w) (hb : Below n w w') (hn : 0 < n) : Tab w' := fun k hk => by rw [hb.cell (by exact hn)]; exact h k hk
set_option maxRecDepth 100000 in
theorem Tab.size {w : World} (h : Tab w) : 0 < w.heap.size := block_lt_of_cell (h 0 (by omega))

/-- the state in the slots -/
def InSlots (s : St8) (a b c d e f g h : Value) : Prop := a = W s.a ∧ b = W s.b ∧ c = W s.c ∧ d = W s.d ∧ e = W s.e ∧ f = W s.f ∧ g = W s.g ∧ h = W s.h

set_option maxRecDepth 100000 in
set_option maxHeartbeats 1000000 in
theorem mixed_any (s : St8) (p : List (BitVec 32)) (hp : p.length = 64) (w : World) (ht : Tab w) :
    Calls Tryd.prog 87 #[.agg (s.list.map W).toArray, .agg (p.map W).toArray] w fun e w' => e = .returned (.agg ((s.plus (rnds s p 64)).list.map W).toArray) ∧ Below w.heap.size w w' := by
  have R0 : MixRel s w.heap.size w (((w.alloc (.cells (s.list.map W).toArray 138)).alloc (.cells (p.map W).toArray 147)).alloc (.cells #[.int .u32 0, .int .u32 0, .int .u32 0, .int .u32 0, .int .u32 0, .int .u32 0, .int .u32 0, .int .u32 0] 138)) := by
    refine ⟨?_, ?_, ?_⟩
    · rw [Below.heap_alloc _ _ _ (by simp; omega), Below.heap_alloc _ _ _ (by simp), heap_alloc_new]
    · rw [heap_alloc3_new w _ _ _]; rfl
    · exact (((Below.refl _ _).alloc (Nat.le_refl _) _).alloc (by simp) _).alloc (by simp; omega) _
  have Rp : (((w.alloc (.cells (s.list.map W).toArray 138)).alloc (.cells (p.map W).toArray 147)).alloc (.cells #[.int .u32 0, .int .u32 0, .int .u32 0, .int .u32 0, .int .u32 0, .int .u32 0, .int .u32 0, .int .u32 0] 138)).heap[w.heap.size + 1]? = some (.cells (p.map W).toArray 147 (0, 0)) := by
    rw [heap_alloc2_old' w _ _ _]
  have T0 := ht.below R0.below ht.size
  go_enter Tryd.func87, Tryd.ntmps87
  have HR := Lib.hid R0
  have HP := Lib.hid Rp
  have HT := Lib.hid T0
  clear R0 Rp T0
  go_wp2_with fail
  revert HR HP HT
  generalize (((w.alloc (.cells (s.list.map W).toArray 138)).alloc (.cells (p.map W).toArray 147)).alloc (.cells #[.int .u32 0, .int .u32 0, .int .u32 0, .int .u32 0, .int .u32 0, .int .u32 0, .int .u32 0, .int .u32 0] 138)) = w3
  intro HR HP HT
  have c0 : w3.cell? ⟨w.heap.size, 0, none⟩ = some (W s.a) := cell_block HR.out.src 0
  have c1 : w3.cell? ⟨w.heap.size, 1, none⟩ = some (W s.b) := cell_block HR.out.src 1
  have c2 : w3.cell? ⟨w.heap.size, 2, none⟩ = some (W s.c) := cell_block HR.out.src 2
  have c3 : w3.cell? ⟨w.heap.size, 3, none⟩ = some (W s.d) := cell_block HR.out.src 3
  have c4 : w3.cell? ⟨w.heap.size, 4, none⟩ = some (W s.e) := cell_block HR.out.src 4
  have c5 : w3.cell? ⟨w.heap.size, 5, none⟩ = some (W s.f) := cell_block HR.out.src 5
  have c6 : w3.cell? ⟨w.heap.size, 6, none⟩ = some (W s.g) := cell_block HR.out.src 6
  have c7 : w3.cell? ⟨w.heap.size, 7, none⟩ = some (W s.h) := cell_block HR.out.src 7
  go_quiet (fail)
  have hlen : (p.map W).length = 64 := by simp [hp]
  have hi := info71 _ hlen
  have hrange : (w3.drewN nq).rangeAt (w.heap.size + 1) 0 (p.map W) := range_block (w := w3.drewN nq) HP.out
  clear c0 c1 c2 c3 c4 c5 c6 c7
  go_wp2_with (refine wpList_load_mid rfl 147 (.tmp 3) rfl (w.heap.size + 1) 0 rfl (p.map W) _ hrange Tryd.underlying147 rfl hi ?_)
  clear hrange hi hlen
  go_loopw [5, 6, 7, 8, 9, 10, 11, 12, 36] (fun a b c d e f g h i wr => ∃ k : Nat, k ≤ 64 ∧ i = .int .i64 k ∧ InSlots (rnds s p k) a b c d e f g h ∧ MixRel s w.heap.size w wr) (fun _ _ _ _ _ _ _ _ i _ => 64 - (intOf i).toNat)
  case atStart => exact ⟨0, by omega, rfl, ⟨rfl, rfl, rfl, rfl, rfl, rfl, rfl, rfl⟩, HR.out.drewN _⟩
  case round =>
    obtain ⟨k, hk, rfl, hs, hr⟩ := hrel
    generalize hq : rnds s p k = q at *
    obtain ⟨rfl, rfl, rfl, rfl, rfl, rfl, rfl, rfl⟩ := hs
    have Hq := Lib.hid hq
    clear hq HR HP
    have T1 := ht.below hr.below ht.size
    by_cases hlt : k < 64
    · have hd : decide ((k : Int) < 64) = true := by simp; omega
      have hix := index64 p k hp hlt
      have hc := T1 k hlt
      have Hr := Lib.hid hr
      clear hr HT ht T1
      generalize hpk : p.getD k 0 = pk at *
      generalize hck : consts.getD k 0 = ck at *
      have Hpk := Lib.hid hpk
      have Hck := Lib.hid hck
      clear hpk hck
      have hsg : IntKind.u32.signed = false := rfl
      have hmx : IntKind.u32.max = 4294967295 := by decide
      go_wp2_with (go_at_call 89; refine (turn_any _ _ _ _ (by decide) (by decide) (by decide) (by decide) (by decide) (by decide) _).mono ?_; rintro e w' ⟨rfl, rfl⟩)
      go_quiet ((go_at_call 89; exact Calls.quiet_w (turn_any _ _ _ _ (by decide) (by decide) (by decide) (by decide) (by decide) (by decide) _)))
      go_wp2_with (go_at_call 89; refine (turn_any _ _ _ _ (by decide) (by decide) (by decide) (by decide) (by decide) (by decide) _).mono ?_; rintro e w' ⟨rfl, rfl⟩)
      go_roundw
      case rel =>
        refine ⟨k + 1, by omega, by go_num, ?_, Hr.out.drewN _⟩
        show InSlots (rnd (rnds s p k) (consts.getD k 0) (p.getD k 0)) _ _ _ _ _ _ _ _
        rw [Hq.out, Hpk.out, Hck.out, chI, majI, sum5, add32', add32', add32']
        exact ⟨rfl, rfl, rfl, rfl, rfl, rfl, rfl, rfl⟩
      case measure => simp [intOf]; omega
    · have hd : decide ((k : Int) < 64) = false := by simp; omega
      obtain rfl : k = 64 := by omega
      have c0 : wr.cell? ⟨w.heap.size, 0, none⟩ = some (W s.a) := cell_block hr.src 0
      have c1 : wr.cell? ⟨w.heap.size, 1, none⟩ = some (W s.b) := cell_block hr.src 1
      have c2 : wr.cell? ⟨w.heap.size, 2, none⟩ = some (W s.c) := cell_block hr.src 2
      have c3 : wr.cell? ⟨w.heap.size, 3, none⟩ = some (W s.d) := cell_block hr.src 3
      have c4 : wr.cell? ⟨w.heap.size, 4, none⟩ = some (W s.e) := cell_block hr.src 4
      have c5 : wr.cell? ⟨w.heap.size, 5, none⟩ = some (W s.f) := cell_block hr.src 5
      have c6 : wr.cell? ⟨w.heap.size, 6, none⟩ = some (W s.g) := cell_block hr.src 6
      have c7 : wr.cell? ⟨w.heap.size, 7, none⟩ = some (W s.h) := cell_block hr.src 7
      have hthere := there_block hr.res 0 8 (by decide)
      have Hr := Lib.hid hr
      clear hr HT ht T1 hlt hk
      go_wp2_with (refine wpList_store_mid rfl 138 (.tmp 4) (.tmp 120) rfl (w.heap.size + 1 + 1) 0 #[.int .u32 (((s.a.toNat : Int) + (q.a.toNat : Int)) % 4294967296), .int .u32 (((s.b.toNat : Int) + (q.b.toNat : Int)) % 4294967296), .int .u32 (((s.c.toNat : Int) + (q.c.toNat : Int)) % 4294967296), .int .u32 (((s.d.toNat : Int) + (q.d.toNat : Int)) % 4294967296), .int .u32 (((s.e.toNat : Int) + (q.e.toNat : Int)) % 4294967296), .int .u32 (((s.f.toNat : Int) + (q.f.toNat : Int)) % 4294967296), .int .u32 (((s.g.toNat : Int) + (q.g.toNat : Int)) % 4294967296), .int .u32 (((s.h.toNat : Int) + (q.h.toNat : Int)) % 4294967296)] rfl rfl hthere (by kernel_rfl) (by simp [Value.oneCell']) ?_)
      have hl : ([.int .u32 (((s.a.toNat : Int) + (q.a.toNat : Int)) % 4294967296), .int .u32 (((s.b.toNat : Int) + (q.b.toNat : Int)) % 4294967296), .int .u32 (((s.c.toNat : Int) + (q.c.toNat : Int)) % 4294967296), .int .u32 (((s.d.toNat : Int) + (q.d.toNat : Int)) % 4294967296), .int .u32 (((s.e.toNat : Int) + (q.e.toNat : Int)) % 4294967296), .int .u32 (((s.f.toNat : Int) + (q.f.toNat : Int)) % 4294967296), .int .u32 (((s.g.toNat : Int) + (q.g.toNat : Int)) % 4294967296), .int .u32 (((s.h.toNat : Int) + (q.h.toNat : Int)) % 4294967296)] : List Value) = (s.plus q).list.map W := by simp only [St8.list, St8.plus, List.map, W, add32']
      have hend := heap_setCells _ _ ((s.plus q).list.map W) 0 _ _ Hr.out.res (by simp [St8.list])
      rw [over_all _ _ (by simp [St8.list])] at hend
      have hbel : Below w.heap.size w (wr.setCells (w.heap.size + 1 + 1) 0 ((s.plus q).list.map W)) := (Kept1.setCells (b := w.heap.size + 1 + 1) _ (Or.inl rfl) _ _ ⟨Hr.out.below.os, Hr.out.below.tape, Hr.out.below.output, Hr.out.below.size, fun k hk _ => Hr.out.below.block k hk⟩).below (by omega)
      rw [hl]
      exact bodyPost_ret (v := .agg ((s.plus q).list.map W).toArray) (results_cell_row Tryd.results87 _ _ (w.heap.size + 1 + 1) 138 _ (0, 0) _ rfl hend Tryd.underlying138 rfl (by kernel_rfl)) rfl ⟨by rw [Hq.out], hbel⟩
end Go.Proofs.YtlhfdlfbnnfjjaaDoor
