/- The document's calls that are done: reading, the fuse. -/
import Derived.Test.YtammnjfccjfbhaaDDo
namespace Go.Proofs.Ytammnjfccjfbhaa
open Go.RowKit

set_option maxRecDepth 100000 in
set_option maxHeartbeats 4000000 in
theorem do_len (w : World) (N d : Nat) (v : Value) (t : RSt) (h : RAt w N d v t) (x : OpR) (hq : x.k.toNat % 5 = 0) (hf : t.fuse ≠ 0) (hi : 0 ≤ x.i ∧ x.i < t.n) (hl : x.l.length ≠ 64) :
    Calls Try.prog 17 #[.pointer (some ⟨d, 0, none⟩), x.val] w fun e w' => e = .returned (.tuple #[noS, .int .i64 1]) ∧ Below w.heap.size w w' := by
  obtain ⟨c0, c1, c2⟩ := h.cell
  have hd := lt_block h.blk
  have hk := x.k.toNat_lt
  have f1 := h.frozen 1
  have f2 := h.frozen 2
  unfold OpR.val
  try unfold noS
  obtain ⟨W, hW⟩ : ∃ W, w.alloc (.cells #[.int .u8 (x.k.toNat : Int), .int .i64 x.i, .int .i64 x.n, .slice x.ba x.l.length x.bc, .slice x.pa x.bs.length x.pc] 33) = W := ⟨_, rfl⟩
  have hB : Below w.heap.size w W := by rw [← hW]; exact (Below.refl _ _).alloc (Nat.le_refl _) _
  have hO : W.heap[w.heap.size]? = some (.cells #[.int .u8 (x.k.toNat : Int), .int .i64 x.i, .int .i64 x.n, .slice x.ba x.l.length x.bc, .slice x.pa x.bs.length x.pc] 33 (0, 0)) := by rw [← hW]; exact heap_alloc_new _ _
  have HR := Lib.hid (h.below hB)
  have H := Lib.hid h
  have HB := Lib.hid hB
  have HO := Lib.hid hO
  clear h c0 c1 c2 f1 f2
  obtain ⟨c0, c1, c2⟩ := HR.out.cell
  have f1 := HR.out.frozen 1
  have f2 := HR.out.frozen 2
  have o0 : W.cell? ⟨w.heap.size, 0, none⟩ = some (.int .u8 (x.k.toNat : Int)) := cell_block hO 0
  have o1 : W.cell? ⟨w.heap.size, 1, none⟩ = some (.int .i64 x.i) := cell_block hO 1
  have o2 : W.cell? ⟨w.heap.size, 2, none⟩ = some (.int .i64 x.n) := cell_block hO 2
  have o3 : W.cell? ⟨w.heap.size, 3, none⟩ = some (.slice x.ba x.l.length x.bc) := cell_block hO 3
  have o4 : W.cell? ⟨w.heap.size, 4, none⟩ = some (.slice x.pa x.bs.length x.pc) := cell_block hO 4
  have ldW : d < W.heap.size := lt_block HR.out.blk
  have loW : w.heap.size < W.heap.size := lt_block hO
  clear hB hO
  have hqi : (x.k.toNat : Int) % 5 = 0 := by omega
  clear hq
  have d3 : (t.fuse == 0) = false := by simpa using hf
  have d3' : (t.fuse != 0) = true := by simpa using hf
  have d4 : decide (x.i < 0) = false := by simp; omega
  have d5 : decide ((t.n : Int) ≤ x.i) = false := by simp; omega
  have l1 : ((x.l.length : Int) == 64) = false := by simp; omega
  have l2 : ((x.l.length : Int) != 64) = true := by simp; omega
  have l3 : (x.l.length == 64) = false := by simp; omega
  have l4 : (x.l.length != 64) = true := by simp; omega
  clear hf hi hl
  go_enter Try.func17, Try.ntmps17
  go_wp2_with fail
  go_quiet (fail)
  go_wp2_with fail
  go_ret2
  exact ⟨rfl, below_drewN HB.out _⟩
set_option maxRecDepth 100000 in
set_option maxHeartbeats 4000000 in
theorem do_read (w : World) (N d : Nat) (v : Value) (t : RSt) (h : RAt w N d v t) (x : OpR) (hq : x.k.toNat % 5 = 1) (hf : t.fuse ≠ 0) (hi : 0 ≤ x.i ∧ x.i < t.n) (hL : t.L.length ≤ 100000) :
    Calls Try.prog 17 #[.pointer (some ⟨d, 0, none⟩), x.val] w fun e w' => e = .returned (.tuple #[.string ⟨(lookR t.L x.i).toArray⟩, .int .i64 0]) ∧ Below w.heap.size w w' := by
  obtain ⟨c0, c1, c2⟩ := h.cell
  have hd := lt_block h.blk
  have hk := x.k.toNat_lt
  have f1 := h.frozen 1
  have f2 := h.frozen 2
  unfold OpR.val
  try unfold noS
  obtain ⟨W, hW⟩ : ∃ W, w.alloc (.cells #[.int .u8 (x.k.toNat : Int), .int .i64 x.i, .int .i64 x.n, .slice x.ba x.l.length x.bc, .slice x.pa x.bs.length x.pc] 33) = W := ⟨_, rfl⟩
  have hB : Below w.heap.size w W := by rw [← hW]; exact (Below.refl _ _).alloc (Nat.le_refl _) _
  have hO : W.heap[w.heap.size]? = some (.cells #[.int .u8 (x.k.toNat : Int), .int .i64 x.i, .int .i64 x.n, .slice x.ba x.l.length x.bc, .slice x.pa x.bs.length x.pc] 33 (0, 0)) := by rw [← hW]; exact heap_alloc_new _ _
  have HR := Lib.hid (h.below hB)
  have H := Lib.hid h
  have HB := Lib.hid hB
  have HO := Lib.hid hO
  clear h c0 c1 c2 f1 f2
  obtain ⟨c0, c1, c2⟩ := HR.out.cell
  have f1 := HR.out.frozen 1
  have f2 := HR.out.frozen 2
  have o0 : W.cell? ⟨w.heap.size, 0, none⟩ = some (.int .u8 (x.k.toNat : Int)) := cell_block hO 0
  have o1 : W.cell? ⟨w.heap.size, 1, none⟩ = some (.int .i64 x.i) := cell_block hO 1
  have o2 : W.cell? ⟨w.heap.size, 2, none⟩ = some (.int .i64 x.n) := cell_block hO 2
  have o3 : W.cell? ⟨w.heap.size, 3, none⟩ = some (.slice x.ba x.l.length x.bc) := cell_block hO 3
  have o4 : W.cell? ⟨w.heap.size, 4, none⟩ = some (.slice x.pa x.bs.length x.pc) := cell_block hO 4
  have ldW : d < W.heap.size := lt_block HR.out.blk
  have loW : w.heap.size < W.heap.size := lt_block hO
  clear hB hO
  have hqi : (x.k.toNat : Int) % 5 = 1 := by omega
  clear hq
  have d3 : (t.fuse == 0) = false := by simpa using hf
  have d3' : (t.fuse != 0) = true := by simpa using hf
  have d4 : decide (x.i < 0) = false := by simp; omega
  have d5 : decide ((t.n : Int) ≤ x.i) = false := by simp; omega
  have LK : Hid (∀ W2, Below W.heap.size W W2 → Calls Try.prog 21 #[.pointer (some ⟨d, 0, none⟩), .int .i64 x.i] W2 fun e w' => e = .returned (.string ⟨(lookR t.L x.i).toArray⟩) ∧ Below W2.heap.size W2 w') := Lib.hid fun W2 hb => look_any W2 N d v t (HR.out.below hb) hL x.i
  clear hf hi hL
  generalize (lookR t.L x.i).toArray = res at *
  go_enter Try.func17, Try.ntmps17
  go_wp2_with fail
  go_quiet (fail)
  go_wp2_with fail
  refine (LK.out _ (below_drewN (Below.refl _ _) _)).mono ?_
  rintro e w2 ⟨rfl, b2⟩
  have B2 := Lib.hid (HB.out.trans (Below.mono (below_drewN (Below.refl W.heap.size W) 1) HB.out.size))
  have HB2 : Hid (Below w.heap.size w w2) := Lib.hid ((below_drewN HB.out _).trans (b2.mono HB.out.size))
  clear b2
  go_wp2_with fail
  go_ret2
  exact ⟨rfl, HB2.out⟩
set_option maxRecDepth 100000 in
set_option maxHeartbeats 4000000 in
theorem do_fuse0 (w : World) (N d : Nat) (v : Value) (t : RSt) (h : RAt w N d v t) (x : OpR) (hq : x.k.toNat % 5 = 3) (hf : t.fuse = 0) :
    Calls Try.prog 17 #[.pointer (some ⟨d, 0, none⟩), x.val] w fun e w' => e = .returned (.tuple #[noS, .int .i64 0]) ∧ Below w.heap.size w w' := by
  obtain ⟨c0, c1, c2⟩ := h.cell
  have hd := lt_block h.blk
  have hk := x.k.toNat_lt
  have f1 := h.frozen 1
  have f2 := h.frozen 2
  unfold OpR.val
  try unfold noS
  obtain ⟨W, hW⟩ : ∃ W, w.alloc (.cells #[.int .u8 (x.k.toNat : Int), .int .i64 x.i, .int .i64 x.n, .slice x.ba x.l.length x.bc, .slice x.pa x.bs.length x.pc] 33) = W := ⟨_, rfl⟩
  have hB : Below w.heap.size w W := by rw [← hW]; exact (Below.refl _ _).alloc (Nat.le_refl _) _
  have hO : W.heap[w.heap.size]? = some (.cells #[.int .u8 (x.k.toNat : Int), .int .i64 x.i, .int .i64 x.n, .slice x.ba x.l.length x.bc, .slice x.pa x.bs.length x.pc] 33 (0, 0)) := by rw [← hW]; exact heap_alloc_new _ _
  have HR := Lib.hid (h.below hB)
  have H := Lib.hid h
  have HB := Lib.hid hB
  have HO := Lib.hid hO
  clear h c0 c1 c2 f1 f2
  obtain ⟨c0, c1, c2⟩ := HR.out.cell
  have f1 := HR.out.frozen 1
  have f2 := HR.out.frozen 2
  have o0 : W.cell? ⟨w.heap.size, 0, none⟩ = some (.int .u8 (x.k.toNat : Int)) := cell_block hO 0
  have o1 : W.cell? ⟨w.heap.size, 1, none⟩ = some (.int .i64 x.i) := cell_block hO 1
  have o2 : W.cell? ⟨w.heap.size, 2, none⟩ = some (.int .i64 x.n) := cell_block hO 2
  have o3 : W.cell? ⟨w.heap.size, 3, none⟩ = some (.slice x.ba x.l.length x.bc) := cell_block hO 3
  have o4 : W.cell? ⟨w.heap.size, 4, none⟩ = some (.slice x.pa x.bs.length x.pc) := cell_block hO 4
  have ldW : d < W.heap.size := lt_block HR.out.blk
  have loW : w.heap.size < W.heap.size := lt_block hO
  clear hB hO
  have hqi : (x.k.toNat : Int) % 5 = 3 := by omega
  clear hq
  rw [hf] at c2
  clear hf
  go_enter Try.func17, Try.ntmps17
  go_wp2_with fail
  go_quiet (fail)
  go_wp2_with fail
  go_ret2
  exact ⟨rfl, below_drewN HB.out _⟩
theorem RAt.turn {w w' : World} {N d : Nat} {v v' : Value} {t t' : RSt} (h : RAt w N d v t) (hk : Kept1 d w w') (hb : w'.heap[d]? = some (.cells (t'.cells v').toArray 46 (0, 0))) (hL : t'.L = t.L) (hv : v' = v) : RAt w' N d v' t' := by
  subst hv
  refine ⟨hb, ?_, h.nd, h.dN⟩
  rw [hL]
  exact own_same h.row fun g hg => hk.block g (h.row.lt g hg).2 (fun e => h.nd (by rw [hg, e]))
set_option maxRecDepth 100000 in
set_option maxHeartbeats 4000000 in
theorem do_fuse (w : World) (N d : Nat) (v : Value) (t : RSt) (h : RAt w N d v t) (x : OpR) (hq : x.k.toNat % 5 = 3) (hf : t.fuse ≠ 0) :
    Calls Try.prog 17 #[.pointer (some ⟨d, 0, none⟩), x.val] w fun e w' => e = .returned (.tuple #[noS, .int .i64 0]) ∧ ∃ v', Did w N d v ⟨t.n, t.L, max x.n (-1)⟩ v' w' := by
  obtain ⟨c0, c1, c2⟩ := h.cell
  have hd := lt_block h.blk
  have hk := x.k.toNat_lt
  have f1 := h.frozen 1
  have f2 := h.frozen 2
  unfold OpR.val
  try unfold noS
  obtain ⟨W, hW⟩ : ∃ W, w.alloc (.cells #[.int .u8 (x.k.toNat : Int), .int .i64 x.i, .int .i64 x.n, .slice x.ba x.l.length x.bc, .slice x.pa x.bs.length x.pc] 33) = W := ⟨_, rfl⟩
  have hB : Below w.heap.size w W := by rw [← hW]; exact (Below.refl _ _).alloc (Nat.le_refl _) _
  have hO : W.heap[w.heap.size]? = some (.cells #[.int .u8 (x.k.toNat : Int), .int .i64 x.i, .int .i64 x.n, .slice x.ba x.l.length x.bc, .slice x.pa x.bs.length x.pc] 33 (0, 0)) := by rw [← hW]; exact heap_alloc_new _ _
  have HR := Lib.hid (h.below hB)
  have H := Lib.hid h
  have HB := Lib.hid hB
  have HO := Lib.hid hO
  clear h c0 c1 c2 f1 f2
  obtain ⟨c0, c1, c2⟩ := HR.out.cell
  have f1 := HR.out.frozen 1
  have f2 := HR.out.frozen 2
  have o0 : W.cell? ⟨w.heap.size, 0, none⟩ = some (.int .u8 (x.k.toNat : Int)) := cell_block hO 0
  have o1 : W.cell? ⟨w.heap.size, 1, none⟩ = some (.int .i64 x.i) := cell_block hO 1
  have o2 : W.cell? ⟨w.heap.size, 2, none⟩ = some (.int .i64 x.n) := cell_block hO 2
  have o3 : W.cell? ⟨w.heap.size, 3, none⟩ = some (.slice x.ba x.l.length x.bc) := cell_block hO 3
  have o4 : W.cell? ⟨w.heap.size, 4, none⟩ = some (.slice x.pa x.bs.length x.pc) := cell_block hO 4
  have ldW : d < W.heap.size := lt_block HR.out.blk
  have loW : w.heap.size < W.heap.size := lt_block hO
  clear hB hO
  have hqi : (x.k.toNat : Int) % 5 = 3 := by omega
  clear hq
  have d3 : (t.fuse == 0) = false := by simpa using hf
  have d3' : (t.fuse != 0) = true := by simpa using hf
  have key : Hid (∀ (W2 : World) (m : Int), m = max x.n (-1) → Below W.heap.size W W2 → Did w N d v ⟨t.n, t.L, max x.n (-1)⟩ v (W2.setCell ⟨d, 2, none⟩ (.int .i64 m))) := Lib.hid fun W2 m hm hb => by
    subst hm
    have R2 := HR.out.below hb
    have k1 : Kept1 d W2 (W2.setCell ⟨d, 2, none⟩ (.int .i64 (max x.n (-1)))) := (Kept1.refl d W2).setCell ⟨d, 2, none⟩ (.inl rfl) _
    refine ⟨R2.turn k1 (heap_set R2.blk 2 _) rfl rfl, ?_, fun _ h => .inl h⟩
    exact (KeptF.of_below (HB.out.trans (hb.mono HB.out.size))).trans (KeptF.of_kept1 (F := footR d v) k1 fun _ => .inl rfl) fun _ _ h => h
  clear hf
  go_enter Try.func17, Try.ntmps17
  go_wp2_with fail
  go_quiet (fail)
  go_wp2_with fail
  all_goals
    go_ret2
    exact ⟨rfl, v, key.out _ _ (by omega) (below_drewN (Below.refl _ _) _)⟩
end Go.Proofs.Ytammnjfccjfbhaa
