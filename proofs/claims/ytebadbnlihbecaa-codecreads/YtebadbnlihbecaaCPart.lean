/- P3.1: the parts of the laws, and each of them put. -/
import Derived.Test.YtebadbnlihbecaaCDec
import Derived.Test.YtebadbnlihbecaaVSame
namespace Go.Proofs.Ytebadbnlihbecaa
open Go.RowKit

/-- a part: its kind, number, text and value -/
structure PartV where
  q : Nat
  n : Int
  s : ByteArray
  v : Val
/-- a part within its bounds -/
structure PartV.Ok (p : PartV) : Prop where
  q : p.q < 256
  n1 : -9223372036854775808 ≤ p.n
  n2 : p.n ≤ 9223372036854775807
  s : p.s.size ≤ maxLen
/-- parts that lie in memory, each with its value's list -/
structure PList (w : World) (ad : Option Addr) (g o : Nat) (ps : List (PartV × List Val)) : Prop where
  at' : ps ≠ [] → ad = some ⟨g, o, none⟩
  c0 : ∀ j, (h : j < ps.length) → w.cell? ⟨g, o + j * 7, none⟩ = some (.int .u8 (ps[j].1.q : Int))
  c1 : ∀ j, (h : j < ps.length) → w.cell? ⟨g, o + j * 7 + 1, none⟩ = some (.int .i64 ps[j].1.n)
  c2 : ∀ j, (h : j < ps.length) → w.cell? ⟨g, o + j * 7 + 2, none⟩ = some (.string ps[j].1.s)
  c3 : ∀ j, (h : j < ps.length) → w.cell? ⟨g, o + j * 7 + 3, none⟩ = some (.int .i64 ps[j].1.v.k)
  c4 : ∀ j, (h : j < ps.length) → w.cell? ⟨g, o + j * 7 + 4, none⟩ = some (.int .i64 ps[j].1.v.i)
  c5 : ∀ j, (h : j < ps.length) → w.cell? ⟨g, o + j * 7 + 5, none⟩ = some (.string ps[j].1.v.s)
  c6 : ∀ j, (h : j < ps.length) → w.cell? ⟨g, o + j * 7 + 6, none⟩ = some (.slice ps[j].1.v.a ps[j].1.v.n ps[j].1.v.c)
  ok : ∀ p ∈ ps, p.1.Ok
  full : ∀ p ∈ ps, Full w p.1.v p.2
theorem PList.below {w w' : World} {ad : Option Addr} {g o : Nat} {ps : List (PartV × List Val)} (h : PList w ad g o ps) (hb : Below w.heap.size w w') : PList w' ad g o ps := by
  have key : ∀ {p v}, w.cell? p = some v → w'.cell? p = some v := fun hc => (hb.cell (block_lt_of_cell hc)).trans hc
  exact ⟨h.at', fun j hj => key (h.c0 j hj), fun j hj => key (h.c1 j hj), fun j hj => key (h.c2 j hj), fun j hj => key (h.c3 j hj), fun j hj => key (h.c4 j hj), fun j hj => key (h.c5 j hj), fun j hj => key (h.c6 j hj), h.ok, fun p hp => (h.full p hp).below hb⟩
/-- a part as a value of the model -/
def PartV.val (p : PartV) : Value := .agg #[.int .u8 (p.q : Int), .int .i64 p.n, .string p.s, .int .i64 p.v.k, .int .i64 p.v.i, .string p.v.s, .slice p.v.a p.v.n p.v.c]
/-- what is written of a part -/
def partM (st : Option ByteArray) (p : PartV) (lx : List Val) : Option ByteArray :=
  if p.q % 8 = 0 then unsM st p.n 1 else if p.q % 8 = 1 then unsM st p.n 2 else if p.q % 8 = 2 then unsM st p.n 4
  else if p.q % 8 = 3 then putM st ⟨(numB (p.n % 18446744073709551616).toNat 8).toArray⟩
  else if p.q % 8 = 4 then unsM st (if p.n % 18446744073709551616 % 2 == 1 then 1 else 0) 1
  else if p.q % 8 = 5 then textM st p.s else if p.q % 8 = 6 then putM st p.s else valueM st p.v lx
theorem partM_none (p : PartV) (lx : List Val) : partM none p lx = none := by
  unfold partM textM
  simp only [unsM_none, putM_none, valueM_none]
  repeat' split
  all_goals rfl

set_option maxRecDepth 100000 in
set_option maxHeartbeats 2000000 in
theorem lawPut_any (w0 w : World) (t : Nat) (T : TypeId) (st : Option ByteArray) (p : PartV) (lx : List Val) (hok : p.Ok) (hf : Full w0 p.v lx) (hb : Below w0.heap.size w0 w) (h0 : w0.heap.size ≤ t) (h : Tape w t T st) :
    Calls Try.prog 10 #[.pointer (some ⟨t, 0, none⟩), p.val] w fun e w' => e = .returned (.tuple #[]) ∧ Tape w' t T (partM st p lx) ∧ Kept1 t w w' := by
  have hlt := h.lt
  have hq := hok.q
  have hn1 := hok.n1
  have hn2 := hok.n2
  obtain ⟨W1, hW1⟩ : ∃ W1, w.alloc (.cells #[.int .u8 (p.q : Int), .int .i64 p.n, .string p.s, .int .i64 p.v.k, .int .i64 p.v.i, .string p.v.s, .slice p.v.a p.v.n p.v.c] 35) = W1 := ⟨_, rfl⟩
  have hB : Below w.heap.size w W1 := by rw [← hW1]; exact (Below.refl _ _).alloc (Nat.le_refl _) _
  have hz : W1.heap[w.heap.size]? = some (.cells #[.int .u8 (p.q : Int), .int .i64 p.n, .string p.s, .int .i64 p.v.k, .int .i64 p.v.i, .string p.v.s, .slice p.v.a p.v.n p.v.c] 35 (0, 0)) := by rw [← hW1]; exact heap_alloc_new _ _
  have p0 := cell_block hz 0
  have p1 := cell_block hz 1
  have p2 := cell_block hz 2
  have p3 := cell_block hz 3
  have p4 := cell_block hz 4
  have p5 := cell_block hz 5
  have p6 := cell_block hz 6
  simp at p0 p1 p2 p3 p4 p5 p6
  have hl1 : w.heap.size < W1.heap.size := lt_block hz
  have HW1 := Lib.hid hW1
  have HB := Lib.hid hB
  have HS := Lib.hid hok.s
  have HF := Lib.hid hf
  have HB0 := Lib.hid (hb.trans (hB.mono hb.size))
  have HT1 := Lib.hid (h.below hB)
  have E : Hid (partM st p lx = if p.q % 8 = 0 then unsM st p.n 1 else if p.q % 8 = 1 then unsM st p.n 2 else if p.q % 8 = 2 then unsM st p.n 4
  else if p.q % 8 = 3 then putM st ⟨(numB (p.n % 18446744073709551616).toNat 8).toArray⟩
  else if p.q % 8 = 4 then unsM st (if p.n % 18446744073709551616 % 2 == 1 then 1 else 0) 1
  else if p.q % 8 = 5 then textM st p.s else if p.q % 8 = 6 then putM st p.s else valueM st p.v lx) := Lib.hid rfl
  clear hW1 hB hz h hok hf hb
  unfold PartV.val
  obtain ⟨r, hr⟩ : ∃ r, p.q % 8 = r := ⟨_, rfl⟩
  have hr8 : r < 8 := by omega
  have hri : (p.q : Int) % 8 = (r : Int) := by omega
  rw [hr] at E
  clear hr
  go_enter Try.func10, Try.ntmps10
  obtain rfl | rfl | rfl | rfl | rfl | rfl | rfl | rfl : r = 0 ∨ r = 1 ∨ r = 2 ∨ r = 3 ∨ r = 4 ∨ r = 5 ∨ r = 6 ∨ r = 7 := by omega
  · have C := Lib.hid (outU8_any W1 t T st p.n (by omega) HT1.out)
    go_wp2_with fail
    rw [HW1.out]
    refine C.out.mono ?_
    rintro e w1 ⟨rfl, ht, hk⟩
    have HT := Lib.hid ht
    have HK := Lib.hid (below_kept HB.out hk)
    clear C ht hk p0 p1 p2 p3 p4 p5 p6
    go_wp2_with fail
    go_end0
    exact ⟨rfl, by rw [E.out, if_pos (by trivial)]; exact HT.out, HK.out⟩
  · have C := Lib.hid (outU16_any W1 t T st p.n (by omega) HT1.out)
    go_wp2_with fail
    rw [HW1.out]
    refine C.out.mono ?_
    rintro e w1 ⟨rfl, ht, hk⟩
    have HT := Lib.hid ht
    have HK := Lib.hid (below_kept HB.out hk)
    clear C ht hk p0 p1 p2 p3 p4 p5 p6
    go_wp2_with fail
    go_end0
    exact ⟨rfl, by rw [E.out, if_neg (by decide), if_pos (by trivial)]; exact HT.out, HK.out⟩
  · have C := Lib.hid (outU32_any W1 t T st p.n (by omega) HT1.out)
    go_wp2_with fail
    rw [HW1.out]
    refine C.out.mono ?_
    rintro e w1 ⟨rfl, ht, hk⟩
    have HT := Lib.hid ht
    have HK := Lib.hid (below_kept HB.out hk)
    clear C ht hk p0 p1 p2 p3 p4 p5 p6
    go_wp2_with fail
    go_end0
    exact ⟨rfl, by rw [E.out, if_neg (by decide), if_neg (by decide), if_pos (by trivial)]; exact HT.out, HK.out⟩
  · have C := Lib.hid (outI64_any W1 t T st p.n HT1.out)
    go_wp2_with fail
    rw [HW1.out]
    refine C.out.mono ?_
    rintro e w1 ⟨rfl, ht, hk⟩
    have HT := Lib.hid ht
    have HK := Lib.hid (below_kept HB.out hk)
    clear C ht hk p0 p1 p2 p3 p4 p5 p6
    go_wp2_with fail
    go_end0
    exact ⟨rfl, by rw [E.out, if_neg (by decide), if_neg (by decide), if_neg (by decide), if_pos (by trivial)]; exact HT.out, HK.out⟩
  · have C := Lib.hid (outFlag_any W1 t T st ((IntKind.u64.wrap p.n).tmod 2 == 1) HT1.out)
    go_wp2_with fail
    rw [HW1.out]
    refine C.out.mono ?_
    rintro e w1 ⟨rfl, ht, hk⟩
    have HT := Lib.hid ht
    have HK := Lib.hid (below_kept HB.out hk)
    clear C ht hk p0 p1 p2 p3 p4 p5 p6
    go_wp2_with fail
    go_end0
    have ew : ((IntKind.u64.wrap p.n).tmod 2 == 1) = (p.n % 18446744073709551616 % 2 == 1) := by
      rw [IntKind.wrap_u64, Int.tmod_eq_emod_of_nonneg (by omega)]
    rw [ew] at HT
    exact ⟨rfl, by rw [E.out, if_neg (by decide), if_neg (by decide), if_neg (by decide), if_neg (by decide), if_pos (by trivial)]; exact HT.out, HK.out⟩
  · have C := Lib.hid (outText_any W1 t T st p.s HS.out HT1.out)
    go_wp2_with fail
    rw [HW1.out]
    refine C.out.mono ?_
    rintro e w1 ⟨rfl, ht, hk⟩
    have HT := Lib.hid ht
    have HK := Lib.hid (below_kept HB.out hk)
    clear C ht hk p0 p1 p2 p3 p4 p5 p6
    go_wp2_with fail
    go_end0
    exact ⟨rfl, by rw [E.out, if_neg (by decide), if_neg (by decide), if_neg (by decide), if_neg (by decide), if_neg (by decide), if_pos (by trivial)]; exact HT.out, HK.out⟩
  · obtain ⟨v, w2, hcv, hsrc, hb2, hnew⟩ := conv_string W1 p.s
    have C := Lib.hid (outRaw_any w2 t T st v p.s.data.toList (by simpa using HS.out) hsrc (fun a n c e => by have := hnew a n c e; omega) (HT1.out.below hb2))
    clear hsrc hnew
    rw [← HW1.out] at hcv
    go_wp2_with (simp only [hcv])
    refine C.out.mono ?_
    rintro e w1 ⟨rfl, ht, hk⟩
    have HT := Lib.hid ht
    have HK := Lib.hid ((below_kept HB.out (Kept1.of_below hb2)).trans hk)
    clear C ht hk p0 p1 p2 p3 p4 p5 p6
    go_wp2_with fail
    go_end0
    exact ⟨rfl, by rw [E.out, if_neg (by decide), if_neg (by decide), if_neg (by decide), if_neg (by decide), if_neg (by decide), if_neg (by decide), if_pos (by trivial)]; exact HT.out, HK.out⟩
  · have C := Lib.hid (outValue_any w0 W1 t T st p.v lx HF.out HB0.out h0 HT1.out)
    go_wp2_with fail
    rw [HW1.out]
    refine C.out.mono ?_
    rintro e w1 ⟨rfl, ht, hk⟩
    have HT := Lib.hid ht
    have HK := Lib.hid (below_kept HB.out hk)
    clear C ht hk p0 p1 p2 p3 p4 p5 p6
    go_wp2_with fail
    go_end0
    exact ⟨rfl, by rw [E.out, if_neg (by decide), if_neg (by decide), if_neg (by decide), if_neg (by decide), if_neg (by decide), if_neg (by decide), if_neg (by decide)]; exact HT.out, HK.out⟩
end Go.Proofs.Ytebadbnlihbecaa
