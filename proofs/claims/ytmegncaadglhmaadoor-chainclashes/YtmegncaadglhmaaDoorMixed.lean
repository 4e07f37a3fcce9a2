/- The rounds over a plan. -/
import Derived.Test.YtmegncaadglhmaaDoorSched
namespace Go.Proofs.YtmegncaadglhmaaDoor
open Go.RowKit

/-- eight words -/
structure St8 where
  a : BitVec 32
  b : BitVec 32
  c : BitVec 32
  d : BitVec 32
  e : BitVec 32
  f : BitVec 32
  g : BitVec 32
  h : BitVec 32
def St8.list (s : St8) : List (BitVec 32) := [s.a, s.b, s.c, s.d, s.e, s.f, s.g, s.h]
def ch (x y z : BitVec 32) : BitVec 32 := (x &&& y) ^^^ (~~~ x &&& z)
def maj (x y z : BitVec 32) : BitVec 32 := (x &&& y) ^^^ (x &&& z) ^^^ (y &&& z)
/-- the first sum of a round -/
def sumA (s : St8) (k p : BitVec 32) : BitVec 32 := s.h + trn s.e 6 11 25 + ch s.e s.f s.g + k + p
/-- a round -/
def rnd (s : St8) (k p : BitVec 32) : St8 := ⟨sumA s k p + (trn s.a 2 13 22 + maj s.a s.b s.c), s.a, s.b, s.c, s.d + sumA s k p, s.e, s.f, s.g⟩
/-- the rounds' constants -/
def consts : List (BitVec 32) := [0x428a2f98, 0x71374491, 0xb5c0fbcf, 0xe9b5dba5, 0x3956c25b, 0x59f111f1, 0x923f82a4, 0xab1c5ed5,
  0xd807aa98, 0x12835b01, 0x243185be, 0x550c7dc3, 0x72be5d74, 0x80deb1fe, 0x9bdc06a7, 0xc19bf174,
  0xe49b69c1, 0xefbe4786, 0x0fc19dc6, 0x240ca1cc, 0x2de92c6f, 0x4a7484aa, 0x5cb0a9dc, 0x76f988da,
  0x983e5152, 0xa831c66d, 0xb00327c8, 0xbf597fc7, 0xc6e00bf3, 0xd5a79147, 0x06ca6351, 0x14292967,
  0x27b70a85, 0x2e1b2138, 0x4d2c6dfc, 0x53380d13, 0x650a7354, 0x766a0abb, 0x81c2c92e, 0x92722c85,
  0xa2bfe8a1, 0xa81a664b, 0xc24b8b70, 0xc76c51a3, 0xd192e819, 0xd6990624, 0xf40e3585, 0x106aa070,
  0x19a4c116, 0x1e376c08, 0x2748774c, 0x34b0bcb5, 0x391c0cb3, 0x4ed8aa4a, 0x5b9cca4f, 0x682e6ff3,
  0x748f82ee, 0x78a5636f, 0x84c87814, 0x8cc70208, 0x90befffa, 0xa4506ceb, 0xbef9a3f7, 0xc67178f2]
/-- behind k rounds -/
def rnds (s : St8) (p : List (BitVec 32)) : Nat → St8
  | 0 => s
  | k + 1 => rnd (rnds s p k) (consts.getD k 0) (p.getD k 0)
/-- added word by word -/
def St8.plus (s t : St8) : St8 := ⟨s.a + t.a, s.b + t.b, s.c + t.c, s.d + t.d, s.e + t.e, s.f + t.f, s.g + t.g, s.h + t.h⟩

/-- the table of constants lies in its place -/
def Tab (w : World) : Prop := ∀ k, k < 64 → w.cell? ⟨0, k, none⟩ = some (W (consts.getD k 0))

theorem index64 (L : List (BitVec 32)) (k : Nat) (hL : L.length = 64) (hk : k < 64) (w : World) : (Instr.index 93 (.agg (L.map W).toArray) (.int .i64 (k : Int))).run Tryd.prog w = .ok (W (L.getD k 0)) w := by
  have e3 : ∀ w, (sizeOf 64).run Tryd.prog w = .ok 1 w := fun _ => by kernel_rfl
  have e4 : ∀ w, (isAgg 64).run Tryd.prog w = .ok false w := fun _ => by kernel_rfl
  have h1 : (0 : Int) ≤ (k : Int) ∧ (k : Int) < 64 := by omega
  have h2 : L[k]? = some (L.getD k 0) := by simp [hL, hk]
  simp [Instr.index, run_underlying Tryd.underlying93, asIntOf, h1, part, e3, e4, hL, hk, go_sem]

theorem notX (x : BitVec 32) : bits BinOp.xor IntKind.u32 4294967295 (x.toNat : Int) = ((~~~ x).toNat : Int) := by
  have := xor32 (BitVec.allOnes 32) x
  rw [BitVec.allOnes_xor] at this
  exact this
theorem chI (x y z : BitVec 32) : bits BinOp.xor IntKind.u32 (bits BinOp.and IntKind.u32 (x.toNat : Int) (y.toNat : Int)) (bits BinOp.and IntKind.u32 (bits BinOp.xor IntKind.u32 4294967295 (x.toNat : Int)) (z.toNat : Int)) = ((ch x y z).toNat : Int) := by
  rw [notX, and32, and32, xor32]; rfl
theorem majI (x y z : BitVec 32) : bits BinOp.xor IntKind.u32 (bits BinOp.xor IntKind.u32 (bits BinOp.and IntKind.u32 (x.toNat : Int) (y.toNat : Int)) (bits BinOp.and IntKind.u32 (x.toNat : Int) (z.toNat : Int))) (bits BinOp.and IntKind.u32 (y.toNat : Int) (z.toNat : Int)) = ((maj x y z).toNat : Int) := by
  rw [and32, and32, and32, xor32, xor32]; rfl

/-- what the rounds keep in memory -/
structure MixRel (s : St8) (n : Nat) (w wr : World) : Prop where
  src : wr.heap[n]? = some (.cells (s.list.map W).toArray 80 (0, 0))
  res : wr.heap[n + 1 + 1]? = some (.cells ((St8.list ⟨0, 0, 0, 0, 0, 0, 0, 0⟩).map W).toArray 80 (0, 0))
  below : Below n w wr
theorem MixRel.drewN {s : St8} {n : Nat} {w wr : World} (h : MixRel s n w wr) (m : Nat) : MixRel s n w (wr.drewN m) := ⟨h.src, h.res, below_drewN h.below m⟩
theorem Tab.drewN {w : World} (h : Tab w) (m : Nat) : Tab (w.drewN m) := h
theorem Tab.below {n : Nat} {w w' : World} (h : Tab w) (hb : Below n w w') (hn : 0 < n) : Tab w' := fun k hk => by rw [hb.cell (by exact hn)]; exact h k hk
theorem Tab.size {w : World} (h : Tab w) : 0 < w.heap.size := block_lt_of_cell (h 0 (by omega))

/-- the state in the slots -/
def InSlots (s : St8) (a b c d e f g h : Value) : Prop := a = W s.a ∧ b = W s.b ∧ c = W s.c ∧ d = W s.d ∧ e = W s.e ∧ f = W s.f ∧ g = W s.g ∧ h = W s.h

set_option maxRecDepth 100000 in
set_option maxHeartbeats 1000000 in
theorem mixed_any (s : St8) (p : List (BitVec 32)) (hp : p.length = 64) (w : World) (ht : Tab w) :
    Calls Tryd.prog 48 #[.agg (s.list.map W).toArray, .agg (p.map W).toArray] w fun e w' => e = .returned (.agg ((s.plus (rnds s p 64)).list.map W).toArray) ∧ Below w.heap.size w w' := by
  have R0 : MixRel s w.heap.size w (((w.alloc (.cells (s.list.map W).toArray 80)).alloc (.cells (p.map W).toArray 93)).alloc (.cells #[.int .u32 0, .int .u32 0, .int .u32 0, .int .u32 0, .int .u32 0, .int .u32 0, .int .u32 0, .int .u32 0] 80)) := by
    refine ⟨?_, ?_, ?_⟩
    · rw [Below.heap_alloc _ _ _ (by simp; omega), Below.heap_alloc _ _ _ (by simp), heap_alloc_new]
    · rw [heap_alloc3_new w _ _ _]; rfl
    · exact (((Below.refl _ _).alloc (Nat.le_refl _) _).alloc (by simp) _).alloc (by simp; omega) _
  have Rp : (((w.alloc (.cells (s.list.map W).toArray 80)).alloc (.cells (p.map W).toArray 93)).alloc (.cells #[.int .u32 0, .int .u32 0, .int .u32 0, .int .u32 0, .int .u32 0, .int .u32 0, .int .u32 0, .int .u32 0] 80)).heap[w.heap.size + 1]? = some (.cells (p.map W).toArray 93 (0, 0)) := by
    rw [heap_alloc2_old' w _ _ _]
  have T0 := ht.below R0.below ht.size
  go_enter Tryd.func48, Tryd.ntmps48
  have HR := Lib.hid R0
  have HP := Lib.hid Rp
  have HT := Lib.hid T0
  clear R0 Rp T0
  go_wp2_with fail
  revert HR HP HT
  generalize (((w.alloc (.cells (s.list.map W).toArray 80)).alloc (.cells (p.map W).toArray 93)).alloc (.cells #[.int .u32 0, .int .u32 0, .int .u32 0, .int .u32 0, .int .u32 0, .int .u32 0, .int .u32 0, .int .u32 0] 80)) = w3
  intro HR HP HT
  have c0 : w3.cell? ⟨w.heap.size, 0, none⟩ = some (W s.a) := cell_block HR.out.src 0
  have c1 : w3.cell? ⟨w.heap.size, 1, none⟩ = some (W s.b) := cell_block HR.out.src 1
  have c2 : w3.cell? ⟨w.heap.size, 2, none⟩ = some (W s.c) := cell_block HR.out.src 2
  have c3 : w3.cell? ⟨w.heap.size, 3, none⟩ = some (W s.d) := cell_block HR.out.src 3
  have c4 : w3.cell? ⟨w.heap.size, 4, none⟩ = some (W s.e) := cell_block HR.out.src 4
  have c5 : w3.cell? ⟨w.heap.size, 5, none⟩ = some (W s.f) := cell_block HR.out.src 5
  have c6 : w3.cell? ⟨w.heap.size, 6, none⟩ = some (W s.g) := cell_block HR.out.src 6
  have c7 : w3.cell? ⟨w.heap.size, 7, none⟩ = some (W s.h) := cell_block HR.out.src 7
  go_quiet (fail)
  have hlen : (p.map W).length = 64 := by simp [hp]
  have hi := info71 _ hlen
  have hrange : (w3.drewN nq).rangeAt (w.heap.size + 1) 0 (p.map W) := range_block (w := w3.drewN nq) HP.out
  clear c0 c1 c2 c3 c4 c5 c6 c7
  go_wp2_with (refine wpList_load_mid rfl 93 (.tmp 3) rfl (w.heap.size + 1) 0 rfl (p.map W) _ hrange Tryd.underlying93 rfl hi ?_)
  clear hrange hi hlen
  go_loopw [5, 6, 7, 8, 9, 10, 11, 12, 36] (fun a b c d e f g h i wr => ∃ k : Nat, k ≤ 64 ∧ i = .int .i64 k ∧ InSlots (rnds s p k) a b c d e f g h ∧ MixRel s w.heap.size w wr) (fun _ _ _ _ _ _ _ _ i _ => 64 - (intOf i).toNat)
  case atStart => exact ⟨0, by omega, rfl, ⟨rfl, rfl, rfl, rfl, rfl, rfl, rfl, rfl⟩, HR.out.drewN _⟩
  case round =>
    obtain ⟨k, hk, rfl, hs, hr⟩ := hrel
    generalize hq : rnds s p k = q at *
    obtain ⟨rfl, rfl, rfl, rfl, rfl, rfl, rfl, rfl⟩ := hs
    have Hq := Lib.hid hq
    clear hq HR HP
    have T1 := ht.below hr.below ht.size
    by_cases hlt : k < 64
    · have hd : decide ((k : Int) < 64) = true := by simp; omega
      have hix := index64 p k hp hlt
      have hc := T1 k hlt
      have Hr := Lib.hid hr
      clear hr HT ht T1
      generalize hpk : p.getD k 0 = pk at *
      generalize hck : consts.getD k 0 = ck at *
      have Hpk := Lib.hid hpk
      have Hck := Lib.hid hck
      clear hpk hck
      have hsg : IntKind.u32.signed = false := rfl
      have hmx : IntKind.u32.max = 4294967295 := by decide
      go_wp2_with (go_at_call 50; refine (turn_any _ _ _ _ (by decide) (by decide) (by decide) (by decide) (by decide) (by decide) _).mono ?_; rintro e w' ⟨rfl, rfl⟩)
      go_quiet ((go_at_call 50; exact Calls.quiet_w (turn_any _ _ _ _ (by decide) (by decide) (by decide) (by decide) (by decide) (by decide) _)))
      go_wp2_with (go_at_call 50; refine (turn_any _ _ _ _ (by decide) (by decide) (by decide) (by decide) (by decide) (by decide) _).mono ?_; rintro e w' ⟨rfl, rfl⟩)
      go_roundw
      case rel =>
        refine ⟨k + 1, by omega, by go_num, ?_, Hr.out.drewN _⟩
        show InSlots (rnd (rnds s p k) (consts.getD k 0) (p.getD k 0)) _ _ _ _ _ _ _ _
        rw [Hq.out, Hpk.out, Hck.out, chI, majI, sum5, add32', add32', add32']
        exact ⟨rfl, rfl, rfl, rfl, rfl, rfl, rfl, rfl⟩
      case measure => simp [intOf]; omega
    · have hd : decide ((k : Int) < 64) = false := by simp; omega
      obtain rfl : k = 64 := by omega
      have c0 : wr.cell? ⟨w.heap.size, 0, none⟩ = some (W s.a) := cell_block hr.src 0
      have c1 : wr.cell? ⟨w.heap.size, 1, none⟩ = some (W s.b) := cell_block hr.src 1
      have c2 : wr.cell? ⟨w.heap.size, 2, none⟩ = some (W s.c) := cell_block hr.src 2
      have c3 : wr.cell? ⟨w.heap.size, 3, none⟩ = some (W s.d) := cell_block hr.src 3
      have c4 : wr.cell? ⟨w.heap.size, 4, none⟩ = some (W s.e) := cell_block hr.src 4
      have c5 : wr.cell? ⟨w.heap.size, 5, none⟩ = some (W s.f) := cell_block hr.src 5
      have c6 : wr.cell? ⟨w.heap.size, 6, none⟩ = some (W s.g) := cell_block hr.src 6
      have c7 : wr.cell? ⟨w.heap.size, 7, none⟩ = some (W s.h) := cell_block hr.src 7
      have hthere := there_block hr.res 0 8 (by decide)
      have Hr := Lib.hid hr
      clear hr HT ht T1 hlt hk
      go_wp2_with (refine wpList_store_mid rfl 80 (.tmp 4) (.tmp 120) rfl (w.heap.size + 1 + 1) 0 #[.int .u32 (((s.a.toNat : Int) + (q.a.toNat : Int)) % 4294967296), .int .u32 (((s.b.toNat : Int) + (q.b.toNat : Int)) % 4294967296), .int .u32 (((s.c.toNat : Int) + (q.c.toNat : Int)) % 4294967296), .int .u32 (((s.d.toNat : Int) + (q.d.toNat : Int)) % 4294967296), .int .u32 (((s.e.toNat : Int) + (q.e.toNat : Int)) % 4294967296), .int .u32 (((s.f.toNat : Int) + (q.f.toNat : Int)) % 4294967296), .int .u32 (((s.g.toNat : Int) + (q.g.toNat : Int)) % 4294967296), .int .u32 (((s.h.toNat : Int) + (q.h.toNat : Int)) % 4294967296)] rfl rfl hthere (by kernel_rfl) (by simp [Value.oneCell']) ?_)
      have hl : ([.int .u32 (((s.a.toNat : Int) + (q.a.toNat : Int)) % 4294967296), .int .u32 (((s.b.toNat : Int) + (q.b.toNat : Int)) % 4294967296), .int .u32 (((s.c.toNat : Int) + (q.c.toNat : Int)) % 4294967296), .int .u32 (((s.d.toNat : Int) + (q.d.toNat : Int)) % 4294967296), .int .u32 (((s.e.toNat : Int) + (q.e.toNat : Int)) % 4294967296), .int .u32 (((s.f.toNat : Int) + (q.f.toNat : Int)) % 4294967296), .int .u32 (((s.g.toNat : Int) + (q.g.toNat : Int)) % 4294967296), .int .u32 (((s.h.toNat : Int) + (q.h.toNat : Int)) % 4294967296)] : List Value) = (s.plus q).list.map W := by simp only [St8.list, St8.plus, List.map, W, add32']
      have hend := heap_setCells _ _ ((s.plus q).list.map W) 0 _ _ Hr.out.res (by simp [St8.list])
      rw [over_all _ _ (by simp [St8.list])] at hend
      have hbel : Below w.heap.size w (wr.setCells (w.heap.size + 1 + 1) 0 ((s.plus q).list.map W)) := (Kept1.setCells (b := w.heap.size + 1 + 1) _ (Or.inl rfl) _ _ ⟨Hr.out.below.os, Hr.out.below.tape, Hr.out.below.output, Hr.out.below.size, fun k hk _ => Hr.out.below.block k hk⟩).below (by omega)
      rw [hl]
      exact bodyPost_ret (v := .agg ((s.plus q).list.map W).toArray) (results_cell_row Tryd.results48 _ _ (w.heap.size + 1 + 1) 80 _ (0, 0) _ rfl hend Tryd.underlying80 rfl (by kernel_rfl)) rfl ⟨by rw [Hq.out], hbel⟩
end Go.Proofs.YtmegncaadglhmaaDoor
