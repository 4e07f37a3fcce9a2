/- The small functions of package sha, each by its contract. -/
import Derived.Test.YtmegncaadglhmaaDoorRows
import Derived.Test.YtmegncaadglhmaaDoorBv
import Derived.Test.YtmegncaadglhmaaDoorMem
import Derived.WalkKit
import Derived.WalkSpells
import Derived.WalkLawsBesides
import Derived.Lib.Hide
import Derived.Deep.QuietTactic
import Derived.BigQuiet
namespace Go.Proofs.YtmegncaadglhmaaDoor
open Go.RowKit

set_option maxHeartbeats 400000 in
theorem rotl_any (x : BitVec 32) (k : Int) (n : Nat) (h1 : 1 ≤ n) (h2 : n ≤ 31) (hk : k = -(n : Int)) (w : World) :
    Calls Tryd.prog 53 #[.int .u32 (x.toNat : Int), .int .i64 k] w fun e w' => e = .returned (.int .u32 ((rotr x n).toNat : Int)) ∧ w = w' := by
  subst hk
  have hs := and31 n h1 h2
  obtain ⟨s, hs'⟩ : ∃ s : Nat, s = 32 - n := ⟨_, rfl⟩
  rw [← hs'] at hs
  have b1 : 1 ≤ s := by omega
  have b2 : s ≤ 31 := by omega
  have HS := Lib.hid hs'
  clear hs'
  go_enter Tryd.func53, Tryd.ntmps53
  go_wp2
  go_ret
  refine ⟨?_, rfl⟩
  show Ending.returned (.int .u32 (bits BinOp.or IntKind.u32 (↑x.toNat * 2 ^ s % 4294967296) (↑x.toNat / 2 ^ (32 - s)))) = _
  rw [shl32', shr32, or32, HS.out, show 32 - (32 - n) = n by omega]; rfl

theorem ret_int {k : IntKind} {a b : Int} (h : a = b) : Ending.returned (.int k a) = .returned (.int k b) := by rw [h]

set_option maxHeartbeats 400000 in
theorem turn_any (x : BitVec 32) (i j k : Int) (i1 : 1 ≤ i) (i2 : i ≤ 31) (j1 : 1 ≤ j) (j2 : j ≤ 31) (k1 : 1 ≤ k) (k2 : k ≤ 31) (w : World) :
    Calls Tryd.prog 50 #[.int .u32 (x.toNat : Int), .int .i64 i, .int .i64 j, .int .i64 k] w fun e w' => e = .returned (.int .u32 ((trn x i.toNat j.toNat k.toNat).toNat : Int)) ∧ w = w' := by
  obtain ⟨i, rfl⟩ := Int.eq_ofNat_of_zero_le (show 0 ≤ i by omega)
  obtain ⟨j, rfl⟩ := Int.eq_ofNat_of_zero_le (show 0 ≤ j by omega)
  obtain ⟨k, rfl⟩ := Int.eq_ofNat_of_zero_le (show 0 ≤ k by omega)
  simp only [Int.toNat_natCast]
  go_enter Tryd.func50, Tryd.ntmps50
  go_wp2_with (go_at_call 53; refine (rotl_any x _ _ ?_ ?_ rfl _).mono ?_; omega; omega; rintro e w' ⟨rfl, rfl⟩)
  go_ret
  refine ⟨ret_int (?_ : bits _ _ _ _ = _), rfl⟩
  rw [xor32, xor32]; rfl

set_option maxHeartbeats 400000 in
theorem spread_any (x : BitVec 32) (i j k : Int) (i1 : 1 ≤ i) (i2 : i ≤ 31) (j1 : 1 ≤ j) (j2 : j ≤ 31) (k1 : 1 ≤ k) (k2 : k ≤ 31) (w : World) :
    Calls Tryd.prog 52 #[.int .u32 (x.toNat : Int), .int .i64 i, .int .i64 j, .int .i64 k] w fun e w' => e = .returned (.int .u32 ((spr x i.toNat j.toNat k.toNat).toNat : Int)) ∧ ∃ m, w' = w.drewN m := by
  obtain ⟨i, rfl⟩ := Int.eq_ofNat_of_zero_le (show 0 ≤ i by omega)
  obtain ⟨j, rfl⟩ := Int.eq_ofNat_of_zero_le (show 0 ≤ j by omega)
  obtain ⟨k, rfl⟩ := Int.eq_ofNat_of_zero_le (show 0 ≤ k by omega)
  simp only [Int.toNat_natCast]
  go_enter Tryd.func52, Tryd.ntmps52
  go_wp2_with fail
  go_quiet ((go_at_call 53; refine Calls.quiet_w (rotl_any x _ _ ?_ ?_ rfl _) <;> omega))
  go_wp2
  go_ret
  refine ⟨ret_int (?_ : bits _ _ _ _ = _), _, rfl⟩
  rw [xor32, shr32, xor32]; rfl

set_option maxHeartbeats 400000 in
theorem word_any (g o len cap : Nat) (c0 c1 c2 c3 : UInt8) (w : World) (hl : 4 ≤ len) (hm : len ≤ 1000000)
    (h0 : w.cell? ⟨g, o, none⟩ = some (B c0)) (h1 : w.cell? ⟨g, o + 1, none⟩ = some (B c1))
    (h2 : w.cell? ⟨g, o + 2, none⟩ = some (B c2)) (h3 : w.cell? ⟨g, o + 3, none⟩ = some (B c3)) :
    Calls Tryd.prog 51 #[.slice (some ⟨g, o, none⟩) len cap] w fun e w' => e = .returned (.int .u32 ((be32 c0 c1 c2 c3).toNat : Int)) ∧ ∃ m, w' = w.drewN m := by
  unfold B at *
  go_enter Tryd.func51, Tryd.ntmps51
  go_wp2
  go_quiet (fail)
  go_wp2
  go_ret
  exact ⟨ret_int (be32_eq c0 c1 c2 c3), _, rfl⟩

set_option maxHeartbeats 400000 in
theorem start_any (w : World) :
    Calls Tryd.prog 47 #[] w fun e w' => e = .returned (.agg #[W 0x6a09e667, W 0xbb67ae85, W 0x3c6ef372, W 0xa54ff53a, W 0x510e527f, W 0x9b05688c, W 0x1f83d9ab, W 0x5be0cd19]) ∧ Below w.heap.size w w' := by
  go_enter Tryd.func47, Tryd.ntmps47
  go_wp2
  exact bodyPost_ret (v := .agg #[W 0x6a09e667, W 0xbb67ae85, W 0x3c6ef372, W 0xa54ff53a, W 0x510e527f, W 0x9b05688c, W 0x1f83d9ab, W 0x5be0cd19]) (by simp [results, Tryd.results47, go_sem]) rfl ⟨rfl, (Below.refl _ _).alloc (Nat.le_refl _) _⟩

set_option maxHeartbeats 400000 in
theorem put_any (g o len cap : Nat) (x : BitVec 32) (w : World) (hl : 4 ≤ len) (hm : len ≤ 1000000) (L : List Value) (t : TypeId) (hL : o + 4 ≤ L.length)
    (hb : w.heap[g]? = some (.cells L.toArray t (0, 0))) :
    Calls Tryd.prog 28 #[.slice (some ⟨g, o, none⟩) len cap, .int .u32 (x.toNat : Int)] w fun e w' => e = .returned (.tuple #[]) ∧ w.setCells g o [B (byteOf x 0), B (byteOf x 1), B (byteOf x 2), B (byteOf x 3)] = w' := by
  have hc : ∀ j, j < 4 → ∃ v, w.cell? ⟨g, o + j, none⟩ = some v := fun j hj => ⟨L[o + j], by rw [cell_block hb]; simp [show o + j < L.length by omega]⟩
  obtain ⟨v0, c0⟩ := hc 0 (by omega)
  obtain ⟨v1, c1⟩ := hc 1 (by omega)
  obtain ⟨v2, c2⟩ := hc 2 (by omega)
  obtain ⟨v3, c3⟩ := hc 3 (by omega)
  have f0 := frozen_of_row w g o _ t hb
  have f1 := frozen_of_row w g (o + 1) _ t hb
  have f2 := frozen_of_row w g (o + 2) _ t hb
  have f3 := frozen_of_row w g (o + 3) _ t hb
  have hx := x.isLt
  clear hc hb hL
  rw [Nat.add_zero] at c0
  go_enter Tryd.func28, Tryd.ntmps28
  go_wp2
  refine wp_loop_rounds 5 ?_
  rw [rounds_succ]
  go_wp2
  rw [rounds_succ]
  go_wp2
  rw [rounds_succ]
  go_wp2
  rw [rounds_succ]
  go_wp2
  rw [rounds_succ]
  go_wp2
  go_end0
  refine ⟨rfl, ?_⟩
  simp only [World.setCells, B, byteOf0, byteOf1, byteOf2, byteOf3]
end Go.Proofs.YtmegncaadglhmaaDoor
