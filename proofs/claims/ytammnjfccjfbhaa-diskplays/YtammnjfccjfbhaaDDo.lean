/- The document's calls: what is refused, what is read, the fuse. -/
import Derived.Test.YtammnjfccjfbhaaDRef
import Derived.BigQuiet
import Derived.IntWalk
namespace Go.Proofs.Ytammnjfccjfbhaa
open Go.RowKit

/-- a call, as it comes in -/
structure OpR where
  k : UInt8
  i : Int
  n : Int
  ba : Option Addr
  bc : Nat
  l : List UInt8
  pa : Option Addr
  pc : Nat
  pg : Nat
  po : Nat
  bs : List Bool
def OpR.cells (x : OpR) : List Value := [.int .u8 (x.k.toNat : Int), .int .i64 x.i, .int .i64 x.n, .slice x.ba x.l.length x.bc, .slice x.pa x.bs.length x.pc]
def OpR.val (x : OpR) : Value := .agg #[.int .u8 (x.k.toNat : Int), .int .i64 x.i, .int .i64 x.n, .slice x.ba x.l.length x.bc, .slice x.pa x.bs.length x.pc]
/-- what it points to lies there -/
structure OpIn (w : World) (x : OpR) : Prop where
  src : BSrc w (.slice x.ba x.l.length x.bc) x.l
  pad : x.bs ≠ [] → x.pa = some ⟨x.pg, x.po, none⟩
  pcell : ∀ j, (h : j < x.bs.length) → w.cell? ⟨x.pg, x.po + j, none⟩ = some (.bool x.bs[j])
theorem OpIn.below {w w' : World} {x : OpR} (h : OpIn w x) (hb : Below w.heap.size w w') : OpIn w' x :=
  ⟨h.src.below hb, h.pad, fun j hj => (hb.cell (block_lt_of_cell (h.pcell j hj))).trans (h.pcell j hj)⟩
/-- what a call leaves -/
structure Did (w : World) (N d : Nat) (v : Value) (t : RSt) (v' : Value) (w' : World) : Prop where
  at' : RAt w' N d v' t
  kept : KeptF (footR d v) w w'
  own : ∀ k, v'.ownBlock = some k → v.ownBlock = some k ∨ w.heap.size ≤ k
theorem Did.of_below {w w' : World} {N d : Nat} {v : Value} {t : RSt} (h : RAt w N d v t) (hb : Below w.heap.size w w') : Did w N d v t v w' := ⟨h.below hb, .of_below hb, fun _ h => .inl h⟩
/-- no bytes -/
def noS : Value := .string ⟨#[]⟩

set_option maxRecDepth 100000 in
set_option maxHeartbeats 1000000 in
theorem do_lost (w : World) (N d : Nat) (v : Value) (t : RSt) (h : RAt w N d v t) (x : OpR) (q : Nat) (hq : x.k.toNat % 5 = q) (hq3 : q < 3) (hf : t.fuse = 0) :
    Calls Try.prog 17 #[.pointer (some ⟨d, 0, none⟩), x.val] w fun e w' => e = .returned (.tuple #[noS, .int .i64 5]) ∧ Below w.heap.size w w' := by
  obtain ⟨c0, c1, c2⟩ := h.cell
  rw [hf] at c2
  have hd := lt_block h.blk
  have hqi : (x.k.toNat : Int) % 5 = (q : Int) := by omega
  have hk := x.k.toNat_lt
  have d1 : decide ((q : Int) < 3) = true := by simp; omega
  unfold OpR.val noS
  have c2' : (w.alloc (.cells #[.int .u8 (x.k.toNat : Int), .int .i64 x.i, .int .i64 x.n, .slice x.ba x.l.length x.bc, .slice x.pa x.bs.length x.pc] 33)).cell? ⟨d, 2, none⟩ = some (.int .i64 0) := by rw [World.cell?_alloc_lt _ _ _ (by exact hd)]; exact c2
  clear h c0 c1 c2 hf hq
  go_enter Try.func17, Try.ntmps17
  go_wp2_with fail
  go_ret2
  exact ⟨rfl, (Below.refl _ _).alloc (Nat.le_refl _) _⟩

set_option maxRecDepth 100000 in
set_option maxHeartbeats 2000000 in
theorem do_arg (w : World) (N d : Nat) (v : Value) (t : RSt) (h : RAt w N d v t) (x : OpR) (q : Nat) (hq : x.k.toNat % 5 = q) (hq2 : q < 2) (hf : t.fuse ≠ 0) (hi : ¬ (0 ≤ x.i ∧ x.i < t.n)) :
    Calls Try.prog 17 #[.pointer (some ⟨d, 0, none⟩), x.val] w fun e w' => e = .returned (.tuple #[noS, .int .i64 1]) ∧ Below w.heap.size w w' := by
  obtain ⟨c0, c1, c2⟩ := h.cell
  have hd := lt_block h.blk
  have hqi : (x.k.toNat : Int) % 5 = (q : Int) := by omega
  have hk := x.k.toNat_lt
  have d1 : decide ((q : Int) < 3) = true := by simp; omega
  have d2 : decide ((q : Int) < 2) = true := by simp; omega
  have d3 : (t.fuse == 0) = false := by simpa using hf
  unfold OpR.val noS
  obtain ⟨W, hW⟩ : ∃ W, w.alloc (.cells #[.int .u8 (x.k.toNat : Int), .int .i64 x.i, .int .i64 x.n, .slice x.ba x.l.length x.bc, .slice x.pa x.bs.length x.pc] 33) = W := ⟨_, rfl⟩
  have hB : Below w.heap.size w W := by rw [← hW]; exact (Below.refl _ _).alloc (Nat.le_refl _) _
  have c0' : W.cell? ⟨d, 0, none⟩ = some (.int .i64 (t.n : Int)) := by rw [hB.cell (by exact hd)]; exact c0
  have c2' : W.cell? ⟨d, 2, none⟩ = some (.int .i64 t.fuse) := by rw [hB.cell (by exact hd)]; exact c2
  have hO : W.heap[w.heap.size]? = some (.cells #[.int .u8 (x.k.toNat : Int), .int .i64 x.i, .int .i64 x.n, .slice x.ba x.l.length x.bc, .slice x.pa x.bs.length x.pc] 33 (0, 0)) := by rw [← hW]; exact heap_alloc_new _ _
  have o0 : W.cell? ⟨w.heap.size, 0, none⟩ = some (.int .u8 (x.k.toNat : Int)) := cell_block hO 0
  have o1 : W.cell? ⟨w.heap.size, 1, none⟩ = some (.int .i64 x.i) := cell_block hO 1
  have HB := Lib.hid hB
  have Hi := Lib.hid hi
  clear h c0 c1 c2 hf hq hO hB hi
  by_cases hneg : x.i < 0
  · have d4 : decide (x.i < 0) = true := by simpa using hneg
    go_enter Try.func17, Try.ntmps17
    go_wp2_with (rw [hW])
    go_quiet (fail)
    go_wp2_with fail
    go_ret2
    exact ⟨rfl, below_drewN HB.out _⟩
  · have d4 : decide (x.i < 0) = false := by simpa using hneg
    have d5 : decide ((t.n : Int) ≤ x.i) = true := by have := Hi.out; simp; omega
    go_enter Try.func17, Try.ntmps17
    go_wp2_with (rw [hW])
    go_quiet (fail)
    go_wp2_with fail
    go_ret2
    exact ⟨rfl, below_drewN HB.out _⟩
end Go.Proofs.Ytammnjfccjfbhaa
