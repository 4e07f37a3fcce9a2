/- The padding, and the fingerprint; The stream's own calls; Fingerprints of parts; a stream's size and its clone. -/
import Derived.Test.YtlhfdlfbnnfjjaaDoorJ10
import Derived.Deep.Upon
namespace Go.Proofs.YtlhfdlfbnnfjjaaDoor
open Go.RowKit

/-- the byte that ends, and noughts -/
def padOf (n : Nat) : List UInt8 := 0x80 :: List.replicate ((119 - n % 64) % 64) 0
/-- a word's bytes, the most significant first -/
def bytes4 (x : BitVec 32) : List UInt8 := [byteOf x 0, byteOf x 1, byteOf x 2, byteOf x 3]
/-- so many bytes, as bits, in eight bytes -/
def len8 (n : Nat) : List UInt8 := bytes4 (BitVec.ofNat 32 (n * 8 / 4294967296)) ++ bytes4 (BitVec.ofNat 32 (n * 8))
/-- the words of a fingerprint -/
def finWords (l : List UInt8) : St8 := wordsOf (l ++ padOf l.length ++ len8 l.length)
/-- THE FINGERPRINT of bytes -/
def shaOf (l : List UInt8) : List UInt8 := (finWords l).list.flatMap bytes4
set_option maxRecDepth 100000 in
theorem length_shaOf (l : List UInt8) : (shaOf l).length = 32 := rfl

/-- the hash's array when k words are there -/
def outCells (L : List (BitVec 32)) (k : Nat) : List Value := ((L.take k).flatMap bytes4).map B ++ List.replicate (32 - 4 * k) (B 0)
set_option maxRecDepth 100000 in
theorem length_flat (L : List (BitVec 32)) : (L.flatMap bytes4).length = 4 * L.length := by
  induction L with
  | nil => rfl
  | cons x L ih => simp only [List.flatMap_cons, List.length_append, ih, List.length_cons]; simp [bytes4]; omega
set_option maxRecDepth 100000 in
theorem length_outCells (L : List (BitVec 32)) (k : Nat) (hL : L.length = 8) (hk : k ≤ 8) : (outCells L k).length = 32 := by
  have := length_flat (L.take k)
  simp only [outCells, List.length_append, List.length_map, this, List.length_replicate, List.length_take, hL]; omega
set_option maxRecDepth 100000 in
theorem outCells_step (L : List (BitVec 32)) (k : Nat) (hL : L.length = 8) (hk : k < 8) : over (outCells L k) (4 * k) ((bytes4 (L.getD k 0)).map B) = outCells L (k + 1) := by
  have h1 := length_flat (L.take k)
  have h2 : ((L.take k).flatMap bytes4).length = 4 * k := by rw [h1]; simp [hL]; omega
  unfold outCells over
  rw [List.take_append_of_le_length (by simp [h2]), List.take_of_length_le (by simp [h2])]
  rw [List.drop_append, List.drop_of_length_le (by simp [h2])]
  have h3 : L.take (k + 1) = L.take k ++ [L.getD k 0] := by
    rw [List.take_succ_eq_append_getElem (by omega)]; simp [hL, hk]
  rw [h3, List.flatMap_append, List.map_append, List.append_assoc]
  congr 1
  simp only [List.flatMap_cons, List.flatMap_nil, List.append_nil, List.nil_append, List.drop_replicate, List.length_map, h2]
  congr 2
  have : (bytes4 (L.getD k 0)).length = 4 := rfl
  omega
set_option maxRecDepth 100000 in
theorem outCells_all (L : List (BitVec 32)) (hL : L.length = 8) : outCells L 8 = (L.flatMap bytes4).map B := by simp [outCells, List.take_of_length_le, hL]

set_option maxRecDepth 100000 in
theorem index8 (L : List (BitVec 32)) (k : Nat) (hL : L.length = 8) (hk : k < 8) (w : World) : (Instr.index 138 (.agg (L.map W).toArray) (.int .i64 (k : Int))).run Tryd.prog w = .ok (W (L.getD k 0)) w := by
  have e3 : ∀ w, (sizeOf 121).run Tryd.prog w = .ok 1 w := fun _ => by kernel_rfl
  have e4 : ∀ w, (isAgg 121).run Tryd.prog w = .ok false w := fun _ => by kernel_rfl
  have h1 : (0 : Int) ≤ (k : Int) ∧ (k : Int) < 8 := by omega
  simp [Instr.index, run_underlying Tryd.underlying138, asIntOf, h1, part, e3, e4, hL, hk, go_sem]
set_option maxRecDepth 100000 in
theorem sliceHash (g l : Nat) (hl : l < 32) (w : World) : (Instr.sliceAt 40 (.pointer (some ⟨g, 0, none⟩)) (some (.int .i64 (l : Int))) none none).run Tryd.prog w = .ok (.slice (some ⟨g, l, none⟩) (32 - l) (32 - l)) w := by
  rw [run_sliceAt_array_l (P := Tryd.prog) w 40 ⟨g, 0, none⟩ (by kernel_rfl) .i64 l (by omega) (by show (l : Int) ≤ 32; omega)]
  have e1 : Tryd.prog.elem 40 = 5 := by kernel_rfl
  have e2 : Tryd.prog.arrayLen 40 = 32 := by kernel_rfl
  have e3 : ∀ w, (sizeOf 5).run Tryd.prog w = .ok 1 w := fun _ => by kernel_rfl
  rw [e1, e2, e3]
  simp [slicedAt, Result.andThen, Addr.add_mid, show ¬ 32 = l by omega]
set_option maxRecDepth 100000 in
theorem slicePad (g h : Nat) (hl : h ≤ 64) (x : Int) (hx : x = h) (w : World) : (Instr.sliceAt 85 (.pointer (some ⟨g, 0, none⟩)) none (some (.int .u64 x)) none).run Tryd.prog w = .ok (.slice (some ⟨g, 0, none⟩) h 64) w := by
  subst hx
  rw [run_sliceAt_array_h (P := Tryd.prog) w 85 ⟨g, 0, none⟩ (by kernel_rfl) .u64 h (by omega) (by show (h : Int) ≤ 64; omega)]
  have e1 : Tryd.prog.elem 85 = 5 := by kernel_rfl
  have e2 : Tryd.prog.arrayLen 85 = 64 := by kernel_rfl
  have e3 : ∀ w, (sizeOf 5).run Tryd.prog w = .ok 1 w := fun _ => by kernel_rfl
  rw [e1, e2, e3]
  simp [slicedAt, Result.andThen, Addr.add_mid]

/-- noughts -/
def zeros (n : Nat) : List Value := List.replicate n (B 0)
set_option maxRecDepth 100000 in
theorem Kept1.heap {b : Nat} {w w' : World} (h : Kept1 b w w') {g : Nat} {o : Obj} (hg : w.heap[g]? = some o) (hb : g ≠ b) : w'.heap[g]? = some o := (h.block g (lt_block hg) hb).trans hg
set_option maxRecDepth 100000 in
theorem cellB {w : World} {g : Nat} {L : List UInt8} {t : TypeId} {fr : Nat × Nat} (h : w.heap[g]? = some (.cells (L.map B).toArray t fr)) (j : Nat) (hj : j < L.length) : w.cell? ⟨g, j, none⟩ = some (B L[j]) := by
  rw [cell_block h]; simp [hj]
/-- the padding's array -/
def pad64 : List UInt8 := 0x80 :: List.replicate 63 0
set_option maxRecDepth 100000 in
theorem pad64_get (j : Nat) : pad64[j + 1]?.getD 0 = 0 := by
  unfold pad64
  rw [List.getElem?_cons_succ, List.getElem?_replicate]; split <;> rfl
set_option maxRecDepth 100000 in
theorem padOf_get (n j : Nat) (hj : j < (padOf n).length) : (padOf n)[j] = (pad64[j]?).getD 0 := by
  have : (padOf n).length = 1 + (119 - n % 64) % 64 := by simp [padOf]; omega
  cases j with
  | zero => rfl
  | succ j => rw [pad64_get]; simp [padOf]
set_option maxRecDepth 100000 in
theorem length_padOf (n : Nat) : (padOf n).length = 1 + (119 - n % 64) % 64 := by simp [padOf]; omega
set_option maxRecDepth 100000 in
theorem pad_bytes {w : World} {g : Nat} {t : TypeId} {fr : Nat × Nat} (h : w.heap[g]? = some (.cells (pad64.map B).toArray t fr)) (n : Nat) : BytesAt w (some ⟨g, 0, none⟩) g 0 (padOf n) :=
  ⟨fun _ => rfl, fun j hj => by
    have h1 := length_padOf n
    have h2 : pad64.length = 64 := rfl
    rw [Nat.zero_add, cellB h j (by omega), padOf_get]
    congr 2
    rw [List.getElem?_eq_getElem (by omega)]; rfl⟩

set_option maxRecDepth 100000 in
theorem put_at (g o len cap : Nat) (x : Int) (X : BitVec 32) (hx : x = (X.toNat : Int)) (w : World) (hl : 4 ≤ len) (hm : len ≤ 1000000) (L : List Value) (t : TypeId) (hL : o + 4 ≤ L.length)
    (hb : w.heap[g]? = some (.cells L.toArray t (0, 0))) :
    Calls Tryd.prog 68 #[.slice (some ⟨g, o, none⟩) len cap, .int .u32 x] w fun e w' => e = .returned (.tuple #[]) ∧ w'.heap[g]? = some (.cells (over L o ((bytes4 X).map B)).toArray t (0, 0)) ∧ Kept1 g w w' := by
  subst hx
  refine (put_any g o len cap X w hl hm L t hL hb).mono fun e w' ⟨he, hw⟩ => ⟨he, ?_, ?_⟩
  · rw [← hw]; exact heap_setCells g t _ o L w hb hL
  · rw [← hw]; exact Kept1.setCells g (Or.inl rfl) _ _ (Kept1.refl _ _)
set_option maxRecDepth 100000 in
theorem len8_over (n : Nat) : over (over (zeros 8) 0 ((bytes4 (BitVec.ofNat 32 (n * 8 / 4294967296))).map B)) 4 ((bytes4 (BitVec.ofNat 32 (n * 8))).map B) = (len8 n).map B := rfl
set_option maxRecDepth 100000 in
/-- a block that is new is turned: the others are as they were -/
theorem Kept1.new {b g : Nat} {a w w' : World} (h : Kept1 b a w) (hg : a.heap.size ≤ g) (k : Kept1 g w w') : Kept1 b a w' :=
  ⟨k.os.trans h.os, k.tape.trans h.tape, k.output.trans h.output, Nat.le_trans h.size k.size, fun i hi hb => (k.block i (Nat.lt_of_lt_of_le hi h.size) (by omega)).trans (h.block i hi hb)⟩

set_option maxRecDepth 100000 in
set_option maxHeartbeats 1000000 in
theorem finish_any (w : World) (b : Nat) (t : TypeId) (l : List UInt8) (hh : Holds w b t l) (ht : Tab w) (hbn : b ≠ 0) (hm : l.length ≤ 100000000000) :
    Calls Tryd.prog 84 #[.pointer (some ⟨b, 0, none⟩)] w fun e w' => e = .returned (.agg ((shaOf l).map B).toArray) ∧ Kept1 b w w' := by
  obtain ⟨n, hn⟩ : ∃ n, n = l.length := ⟨_, rfl⟩
  have hsz : w.cell? ⟨b, 72, none⟩ = some (.int .u64 (n : Int)) := by obtain ⟨s, rest, _, h2⟩ := hh.here; rw [hn]; exact h2.size
  have hblt := hh.lt
  obtain ⟨z, hz⟩ : ∃ z, z = (119 - n % 64) % 64 := ⟨_, rfl⟩
  have hzl : z < 64 := by omega
  have hsp := slicePad (w.heap.size + 1) (padOf n).length (by rw [length_padOf]; omega) (1 + (119 - (n : Int)) % 64) (by rw [length_padOf]; omega)
  have hnb : n ≤ 100000000000 := by omega
  have Hn := Lib.hid hn
  have Hz := Lib.hid hz
  have Hh := Lib.hid hh
  have Ht := Lib.hid ht
  clear hn hz hh ht
  go_enter Tryd.func84, Tryd.ntmps84
  go_wp2_with fail
  generalize hW : World.alloc _ _ = w2
  have hres : w2.heap[w.heap.size]? = some (.cells (zeros 32).toArray 40 (0, 0)) := by rw [← hW]; exact heap_alloc2_old _ _ _
  have hpad : w2.heap[w.heap.size + 1]? = some (.cells (pad64.map B).toArray 85 (0, 0)) := by rw [← hW]; exact heap_alloc2_new _ _ _
  have hbel : Below w.heap.size w w2 := by rw [← hW]; exact ((Below.refl _ _).alloc (Nat.le_refl _) _).alloc (by simp) _
  have hsiz : w2.heap.size = w.heap.size + 2 := by rw [← hW]; simp
  clear hW
  refine (take_any w2 b t l (padOf n) _ (w.heap.size + 1) 0 64 (Hh.out.below hbel) (Ht.out.below hbel Ht.out.size) hbn (pad_bytes hpad n) (by omega) (by rw [length_padOf]; omega) (by rw [length_padOf]; omega)).mono ?_
  rintro e w1 ⟨rfl, hh1, hk1⟩
  have hres1 := hk1.heap hres (by omega)
  have hkw1 : Kept1 b w w1 := (Kept1.of_below hbel).trans hk1
  have hs1 : w.heap.size + 2 ≤ w1.heap.size := by have := hk1.size; omega
  have Hh1 := Lib.hid hh1
  have Hres1 := Lib.hid hres1
  have Hk1 := Lib.hid hkw1
  clear hh1 hk1 hkw1 hres1 hres hpad hbel hsiz hsp
  go_wp2_with fail
  generalize hW : World.alloc _ _ = w3
  have hl3 : w3.heap[w1.heap.size]? = some (.cells (zeros 8).toArray 144 (0, 0)) := by rw [← hW]; exact heap_alloc_new _ _
  have hb3 : Below w1.heap.size w1 w3 := by rw [← hW]; exact (Below.refl _ _).alloc (Nat.le_refl _) _
  clear hW
  refine (put_at _ _ _ _ _ (BitVec.ofNat 32 (n * 8 / 4294967296)) (by simp; omega) w3 (by omega) (by omega) _ _ (by simp [zeros]) hl3).mono ?_
  rintro e w4 ⟨rfl, hl4, hk4⟩
  have hb4 := Kept1.mono hb3 hk4 (Nat.le_refl _)
  have Hl4 := Lib.hid hl4
  have Hb4 := Lib.hid hb4
  clear hl3 hb3 hl4 hk4 hb4
  go_wp2_with fail
  refine (put_at _ _ _ _ _ (BitVec.ofNat 32 (n * 8)) (by simp) w4 (by omega) (by omega) _ _ (by simp [zeros, over, bytes4]) Hl4.out).mono ?_
  rintro e w5 ⟨rfl, hl5, hk5⟩
  rw [len8_over] at hl5
  have hb5 := Kept1.mono Hb4.out hk5 (Nat.le_refl _)
  have Hl5 := Lib.hid hl5
  have Hb5 := Lib.hid hb5
  clear hl5 hk5 hb5 Hl4 Hb4
  go_wp2_with fail
  have hbw1 : b < w1.heap.size := by omega
  refine (take_any w5 b t (l ++ padOf n) (len8 n) _ w1.heap.size 0 8 (Hh1.out.below Hb5.out) ((Ht.out.kept Hk1.out (Ne.symm hbn)).below Hb5.out (by have := Ht.out.size; omega)) hbn ⟨fun _ => rfl, fun j hj => by rw [Nat.zero_add]; exact cellB Hl5.out j hj⟩ (by omega) (by simp [len8, bytes4]) (by simp [length_padOf, len8, bytes4]; omega)).mono ?_
  rintro e w6 ⟨rfl, hh6, hk6⟩
  have hres6 := (hk6.heap ((Hb5.out.block _ (by omega)).trans Hres1.out) (by omega))
  have hkw6 : Kept1 b w w6 := (Hk1.out.trans (Kept1.of_below Hb5.out)).trans hk6
  have hs6 : w1.heap.size ≤ w6.heap.size := by have := hk6.size; have := Hb5.out.size; omega
  obtain ⟨s, rest, htk, hdg⟩ := hh6.here
  have hsw : s = finWords l := by rw [htk.words, finWords, ← Hn.out]
  have hrange := hdg.words
  have Hdg := Lib.hid hdg
  have Hres6 := Lib.hid hres6
  have Hk6 := Lib.hid hkw6
  have Hsw := Lib.hid hsw
  clear hh6 hk6 hkw6 hres6 Hl5 Hb5 hsw htk hdg hsz
  go_wp2_with (refine wpList_load_mid rfl 138 (.tmp 42) rfl b 0 rfl (s.list.map W) _ (World.rangeAt_alloc hrange _) Tryd.underlying138 rfl info52 ?_)
  generalize hW : World.alloc _ _ = w7
  have ho7 : w7.heap[w6.heap.size]? = some (.cells (outCells s.list 0).toArray 40 (0, 0)) := by rw [← hW]; exact heap_alloc_new _ _
  have hb7 : Below w6.heap.size w6 w7 := by rw [← hW]; exact (Below.refl _ _).alloc (Nat.le_refl _) _
  clear hW
  have hres7 : w7.heap[w.heap.size]? = some (.cells (zeros 32).toArray 40 (0, 0)) := (hb7.block _ (by omega)).trans Hres6.out
  have hk7 : Kept1 b w w7 := Hk6.out.trans (Kept1.of_below hb7)
  clear hrange hb7 Hres6 Hk6 Hdg Hh1 Hres1 Hk1 Hh
  go_loopw [44] (fun i wr => ∃ k : Nat, k ≤ 8 ∧ i = .int .i64 k ∧ wr.heap[w6.heap.size]? = some (.cells (outCells s.list k).toArray 40 (0, 0)) ∧ wr.heap[w.heap.size]? = some (.cells (zeros 32).toArray 40 (0, 0)) ∧ Kept1 b w wr) (fun i _ => 8 - (intOf i).toNat)
  case atStart => exact ⟨0, by omega, rfl, ho7, hres7, hk7⟩
  case round =>
    obtain ⟨k, hk, rfl, ho, hre, hkk⟩ := hrel
    clear ho7 hres7 hk7
    have Hre := Lib.hid hre
    have Hkk := Lib.hid hkk
    have Ho := Lib.hid ho
    clear hre hkk ho
    by_cases hlt : k < 8
    · have hd : decide ((k : Int) < 8) = true := by simp; omega
      have hix := index8 s.list k rfl hlt
      have hsl := sliceHash w6.heap.size (4 * k) (by omega)
      rw [show ((4 * k : Nat) : Int) = 4 * (k : Int) by omega] at hsl
      generalize hx : s.list.getD k 0 = x at *
      have Hx := Lib.hid hx
      clear hx
      go_wp2_with fail
      refine (put_at _ _ _ _ _ x rfl wr (by omega) (by omega) _ _ (by rw [length_outCells _ _ rfl (by omega)]; omega) Ho.out).mono ?_
      rintro e w8 ⟨rfl, ho8, hk8⟩
      rw [← Hx.out, outCells_step _ _ rfl hlt] at ho8
      have hre8 := hk8.heap Hre.out (by omega)
      have hkk8 := Hkk.out.new (by omega) hk8
      have Ho8 := Lib.hid ho8
      have Hre8 := Lib.hid hre8
      have Hkk8 := Lib.hid hkk8
      clear ho8 hre8 hkk8 hk8
      go_wp2_with fail
      go_roundw
      case rel => exact ⟨k + 1, by omega, by go_num, Ho8.out, Hre8.out, Hkk8.out⟩
      case measure => simp [intOf]; omega
    · have hd : decide ((k : Int) < 8) = false := by simp; omega
      obtain rfl : k = 8 := by omega
      have hsh : outCells s.list 8 = (shaOf l).map B := by rw [outCells_all _ rfl, Hsw.out]; rfl
      have ho8 := Ho.out
      rw [hsh] at ho8
      have hrange := range_block ho8
      have hthere := there_block Hre.out 0 32 (by simp [zeros])
      have hl32 : ((shaOf l).map B).length = 32 := by simp [length_shaOf]
      have hend := heap_setCells _ _ ((shaOf l).map B) 0 _ _ Hre.out (by rw [hl32]; simp [zeros])
      rw [over_all _ _ (by rw [hl32]; simp [zeros])] at hend
      have hkl := Kept1.setCells (b := b) w.heap.size (Or.inr (Nat.le_refl _)) ((shaOf l).map B) 0 Hkk.out
      have hone : ((shaOf l).map B).toArray.all (·.oneCell') = true := all_oneCell_toArray (by intro v hv; obtain ⟨x, _, rfl⟩ := List.mem_map.1 hv; rfl)
      generalize hLe : (shaOf l).map B = L at *
      have HL := Lib.hid hLe
      have Hkl := Lib.hid hkl
      have Hend := Lib.hid hend
      have Hl32 := Lib.hid hl32
      have hi : (Tryd.prog.info? 40).map (·.size) = some L.length := by rw [hl32]; kernel_rfl
      clear hLe hkl hend hsh ho8 hl32
      go_wp2_with (first
        | (refine wpList_load_mid rfl 40 (.tmp 7) rfl w6.heap.size 0 rfl L _ hrange Tryd.underlying40 rfl hi ?_)
        | (refine wpList_store_mid rfl 40 (.tmp 2) (.tmp 54) rfl w.heap.size 0 L.toArray rfl rfl (by simpa [Hl32.out] using hthere) (by simpa using hi) hone ?_))
      exact bodyPost_ret (v := .agg L.toArray) (results_cell_row Tryd.results84 _ _ w.heap.size 40 L.toArray (0, 0) _ rfl Hend.out Tryd.underlying40 rfl (by simpa using hi)) rfl ⟨by rw [HL.out], Hkl.out⟩
end Go.Proofs.YtlhfdlfbnnfjjaaDoor
namespace Go.Proofs.YtlhfdlfbnnfjjaaDoor
open Go.RowKit

/-- a slice of bytes, as a value, and where it lies -/
structure Part where
  ad : Option Addr
  g : Nat
  o : Nat
  cap : Nat
  l : List UInt8
def Part.val (p : Part) : Value := .slice p.ad p.l.length p.cap
/-- it lies there, apart from block b -/
structure Part.Ok (w : World) (b : Nat) (p : Part) : Prop where
  bytes : BytesAt w p.ad p.g p.o p.l
  cap : p.l.length ≤ p.cap
  apart : p.g ≠ b
set_option maxRecDepth 100000 in
theorem Part.Ok.kept {w w' : World} {b : Nat} {p : Part} (h : p.Ok w b) (hk : Kept1 b w w') : p.Ok w' b := ⟨h.bytes.kept hk h.apart, h.cap, h.apart⟩
/-- the bytes of parts, one behind the other -/
def joined (ps : List Part) : List UInt8 := ps.flatMap (·.l)

def zeros64 : List UInt8 := List.replicate 64 0
set_option maxRecDepth 100000 in
set_option maxHeartbeats 400000 in
theorem new_any (w : World) : Calls Tryd.prog 79 #[] w fun e w' => e = .returned (.pointer (some ⟨w.heap.size, 0, none⟩)) ∧ Holds w' w.heap.size 142 [] ∧ Below w.heap.size w w' ∧ w'.heap.size = w.heap.size + 1 := by
  go_enter Tryd.func79, Tryd.ntmps79
  have hz : ∀ w, (zeroValue 142).run Tryd.prog w = .ok (.agg (dg ⟨0, 0, 0, 0, 0, 0, 0, 0⟩ zeros64 0).toArray) w := fun _ => by kernel_rfl
  go_wp2_with fail
  go_ret
  generalize hW : World.alloc _ _ = w1
  refine ⟨rfl, ⟨⟨0, 0, 0, 0, 0, 0, 0, 0⟩, zeros64, took_none _ rfl, rfl, ?_⟩, ?_, ?_⟩
  · rw [← hW]; exact heap_alloc_new _ _
  · rw [← hW]; exact (Below.refl _ _).alloc (Nat.le_refl _) _
  · rw [← hW]; simp

set_option maxRecDepth 100000 in
set_option maxHeartbeats 400000 in
theorem write_any (w : World) (b : Nat) (l0 : List UInt8) (ps : List Part) (ap : Option Addr) (gp op cp : Nat) (hh : Holds w b 142 l0) (ht : Tab w) (hbn : b ≠ 0)
    (hap : ps ≠ [] → ap = some ⟨gp, op, none⟩) (hcell : ∀ i, (h : i < ps.length) → w.cell? ⟨gp, op + i, none⟩ = some (ps[i]).val) (hgp : gp ≠ b) (hok : ∀ p ∈ ps, p.Ok w b)
    (hm : l0.length + (joined ps).length ≤ 1000000000000) (hl : ps.length ≤ 1000000000000) :
    Calls Tryd.prog 80 #[.pointer (some ⟨b, 0, none⟩), .slice ap ps.length cp] w fun e w' => e = .returned (.tuple #[]) ∧ Holds w' b 142 (l0 ++ joined ps) ∧ Kept1 b w w' := by
  go_enter Tryd.func80, Tryd.ntmps80
  go_wp2_with fail
  go_loopw [8] (fun i wr => ∃ k : Nat, k ≤ ps.length ∧ i = .int .i64 k ∧ Holds wr b 142 (l0 ++ joined (ps.take k)) ∧ Kept1 b w wr) (fun i _ => ps.length - (intOf i).toNat)
  case atStart => exact ⟨0, by omega, rfl, by simpa [joined] using hh, Kept1.refl _ _⟩
  case round =>
    obtain ⟨k, hk, rfl, hr, hkp⟩ := hrel
    by_cases hlt : k < ps.length
    · have hd : decide ((k : Int) < (ps.length : Int)) = true := by simp; omega
      have hd' : decide (k < ps.length) = true := by simp; omega
      have hc : wr.cell? ⟨gp, op + k, none⟩ = some (ps[k]).val := by rw [hkp.cell (block_lt_of_cell (hcell k hlt)) hgp]; exact hcell k hlt
      have hpk := (hok ps[k] (List.getElem_mem hlt)).kept hkp
      have hsn : joined (ps.take (k + 1)) = joined (ps.take k) ++ ps[k].l := by unfold joined; rw [List.take_succ_eq_append_getElem hlt, List.flatMap_append, List.flatMap_singleton]
      have hle : (joined (ps.take (k + 1))).length ≤ (joined ps).length := by
        have : joined ps = joined (ps.take (k + 1)) ++ joined (ps.drop (k + 1)) := by unfold joined; rw [← List.flatMap_append, List.take_append_drop]
        rw [this]; simp
      rw [hsn] at hle
      obtain rfl := hap (by intro e; simp [e] at hlt)
      generalize hp : ps[k] = p at *
      obtain ⟨pad, pg, po, pcap, pl⟩ := p
      simp only [Part.val] at hc
      have Hr := Lib.hid hr
      have Hpk := Lib.hid hpk
      have Hkp := Lib.hid hkp
      have Hsn := Lib.hid hsn
      have Hle := Lib.hid hle
      clear hp hr hpk hkp hsn hle hap hcell hok
      go_wp2_with fail
      refine (take_any wr b 142 _ pl _ pg po pcap Hr.out (ht.kept Hkp.out (Ne.symm hbn)) hbn Hpk.out.bytes Hpk.out.apart Hpk.out.cap (by have := Hle.out; simp at this ⊢; omega)).mono ?_
      rintro e w1 ⟨rfl, hh1, hk1⟩
      rw [List.append_assoc, ← Hsn.out] at hh1
      have hkk := Hkp.out.trans hk1
      have Hh1 := Lib.hid hh1
      have Hk1 := Lib.hid hkk
      clear hh1 hk1 hkk
      go_wp2_with fail
      go_roundw
      case rel => exact ⟨k + 1, by omega, by go_num, Hh1.out, Hk1.out⟩
      case measure => simp [intOf]; omega
    · obtain rfl : k = ps.length := by omega
      have hd : decide ((ps.length : Int) < (ps.length : Int)) = false := by simp
      rw [List.take_length] at hr
      have Hr := Lib.hid hr
      have Hkp := Lib.hid hkp
      clear hr hkp hap hcell hok hlt
      go_wp2_with fail
      go_end0
      exact ⟨rfl, Hr.out, Hkp.out⟩

set_option maxRecDepth 100000 in
/-- a digest's cells, read as one -/
theorem DgAt.range {w : World} {b : Nat} {t : TypeId} {s : St8} {rest : List UInt8} {n : Nat} (h : DgAt w b t s rest n) : w.rangeAt b 0 (dg s rest n) := range_block h.blk
set_option maxRecDepth 100000 in
theorem infoDg (t : TypeId) (ht : t = 140 ∨ t = 142) (n : Nat) (h : n = 73) : (Tryd.prog.info? t).map (·.size) = some n := by
  subst h; rcases ht with rfl | rfl <;> kernel_rfl
set_option maxRecDepth 100000 in
theorem one_dg (s : St8) (rest : List UInt8) (n : Nat) : (dg s rest n).toArray.all (·.oneCell') = true := all_oneCell_toArray (by
  intro v hv
  simp only [dg, List.mem_append, List.mem_map, List.mem_singleton] at hv
  rcases hv with ⟨x, _, rfl⟩ | ⟨x, _, rfl⟩ | rfl <;> rfl)

set_option maxRecDepth 100000 in
set_option maxHeartbeats 400000 in
theorem sum_any (w : World) (b : Nat) (l : List UInt8) (hh : Holds w b 142 l) (ht : Tab w) (hm : l.length ≤ 100000000000) :
    Calls Tryd.prog 81 #[.pointer (some ⟨b, 0, none⟩)] w fun e w' => e = .returned (.agg ((shaOf l).map B).toArray) ∧ Below w.heap.size w w' := by
  obtain ⟨s, rest, htk, hdg⟩ := hh.here
  have hl73 := length_dg s rest l.length hdg.len
  have h0 := ht.size
  have hz : ∀ w, (zeroValue 140).run Tryd.prog w = .ok (.agg (dg ⟨0, 0, 0, 0, 0, 0, 0, 0⟩ zeros64 0).toArray) w := fun _ => by kernel_rfl
  have hth : ∀ (A : Obj), ((w.alloc A).alloc (.cells (dg ⟨0, 0, 0, 0, 0, 0, 0, 0⟩ zeros64 0).toArray 140)).there (w.heap.size + 1) 0 73 := fun A => there_block (heap_alloc2_new _ _ _) 0 73 (by rw [length_dg _ _ _ rfl]; omega)
  have Htk := Lib.hid htk
  have Hh := Lib.hid hh
  have Hl := Lib.hid hl73
  have Ht := Lib.hid ht
  have Hdl := Lib.hid hdg.len
  have hrg := hdg.range
  clear htk hh hl73 ht hdg
  go_enter Tryd.func81, Tryd.ntmps81
  go_wp2_with (first
    | (refine wpList_load_mid rfl 140 (.tmp 6) rfl b 0 rfl (dg s rest l.length) _ (World.rangeAt_alloc hrg _) Tryd.underlying140 rfl (infoDg _ (Or.inl rfl) _ Hl.out) ?_)
    | (refine wpList_store_mid rfl 140 (.tmp 3) (.tmp 7) rfl (w.heap.size + 1) 0 (dg s rest l.length).toArray rfl rfl (by simpa [Hl.out] using hth _) (infoDg _ (Or.inl rfl) _ Hl.out) (one_dg _ _ _) ?_))
  generalize hW : World.setCells _ _ _ _ = w2
  have hres : w2.heap[w.heap.size]? = some (.cells (zeros 32).toArray 40 (0, 0)) := by
    rw [← hW, World.heap_setCells_other _ _ _ _ (by simp; omega) (by omega)]; exact heap_alloc2_old _ _ _
  have hdg2 : w2.heap[w.heap.size + 1]? = some (.cells (dg s rest l.length).toArray 140 (0, 0)) := by
    rw [← hW]
    refine (heap_setCells (w.heap.size + 1) 140 (dg s rest l.length) 0 (dg ⟨0, 0, 0, 0, 0, 0, 0, 0⟩ zeros64 0) _ (heap_alloc2_new w _ _) (by rw [Hl.out, length_dg _ _ _ rfl]; omega)).trans ?_
    rw [over_all _ _ (by rw [Hl.out, length_dg _ _ _ rfl])]
  have hbel : Below w.heap.size w w2 := by
    rw [← hW]
    exact (Kept1.setCells (b := w.heap.size + 1) _ (Or.inl rfl) _ _ (Kept1.of_below (((Below.refl _ _).alloc (Nat.le_refl _) _).alloc (by simp) _))).below (by omega)
  clear hW hz hth hrg
  refine (finish_any w2 (w.heap.size + 1) 140 l ⟨s, rest, Htk.out, Hdl.out, hdg2⟩ (Ht.out.below hbel h0) (by omega) hm).mono ?_
  rintro e w3 ⟨rfl, hk3⟩
  have hres3 := hk3.heap hres (by omega)
  have hb3 := Kept1.mono hbel hk3 (by omega)
  have hthere := there_block hres3 0 32 (by simp [zeros])
  have hl32 : ((shaOf l).map B).length = 32 := by simp [length_shaOf]
  have hend := heap_setCells _ _ ((shaOf l).map B) 0 _ _ hres3 (by rw [hl32]; simp [zeros])
  rw [over_all _ _ (by rw [hl32]; simp [zeros])] at hend
  have hkl := (Kept1.setCells (b := w.heap.size) w.heap.size (Or.inl rfl) ((shaOf l).map B) 0 (Kept1.of_below hb3)).below (Nat.le_refl _)
  have hone : ((shaOf l).map B).toArray.all (·.oneCell') = true := all_oneCell_toArray (by intro v hv; obtain ⟨x, _, rfl⟩ := List.mem_map.1 hv; rfl)
  generalize hLe : (shaOf l).map B = L at *
  have HL := Lib.hid hLe
  clear hLe
  have Hkl := Lib.hid hkl
  have Hend := Lib.hid hend
  have Hl32 := Lib.hid hl32
  have hi : (Tryd.prog.info? 40).map (·.size) = some L.length := by rw [hl32]; kernel_rfl
  clear hkl hend hl32 hk3 hres3 hb3 hres hdg2 hbel
  go_wp2_with (refine wpList_store_mid rfl 40 (.tmp 2) (.tmp 8) rfl w.heap.size 0 L.toArray rfl rfl (by simpa [Hl32.out] using hthere) (by simpa using hi) hone ?_)
  exact bodyPost_ret (v := .agg L.toArray) (results_cell_row Tryd.results81 _ _ w.heap.size 40 L.toArray (0, 0) _ rfl Hend.out Tryd.underlying40 rfl (by simpa using hi)) rfl ⟨by rw [HL.out], Hkl.out⟩
end Go.Proofs.YtlhfdlfbnnfjjaaDoor
namespace Go.Proofs.YtlhfdlfbnnfjjaaDoor
open Go.RowKit

/-- a slice of bytes lies in old memory -/
structure Part.In (w : World) (p : Part) : Prop where
  bytes : BytesAt w p.ad p.g p.o p.l
  cap : p.l.length ≤ p.cap
  lt : p.g < w.heap.size
set_option maxRecDepth 100000 in
theorem BytesAt.below {w w' : World} {ad : Option Addr} {g o : Nat} {l : List UInt8} (h : BytesAt w ad g o l) (hk : Below w.heap.size w w') : BytesAt w' ad g o l :=
  ⟨h.at', fun j hj => by rw [hk.cell (by exact block_lt_of_cell (h.cell j hj))]; exact h.cell j hj⟩
set_option maxRecDepth 100000 in
theorem Part.In.below {w w' : World} {p : Part} (h : p.In w) (hk : Below w.heap.size w w') : p.In w' := ⟨h.bytes.below hk, h.cap, Nat.lt_of_lt_of_le h.lt hk.size⟩
set_option maxRecDepth 100000 in
theorem Part.In.ok {w : World} {p : Part} (h : p.In w) {b : Nat} (hb : p.g ≠ b) : p.Ok w b := ⟨h.bytes, h.cap, hb⟩
/-- the slice of parts lies in old memory -/
structure PartsIn (w : World) (ap : Option Addr) (gp op : Nat) (ps : List Part) : Prop where
  at' : ps ≠ [] → ap = some ⟨gp, op, none⟩
  cell : ∀ i, (h : i < ps.length) → w.cell? ⟨gp, op + i, none⟩ = some (ps[i]).val
  lt : gp < w.heap.size
  parts : ∀ p ∈ ps, p.In w
set_option maxRecDepth 100000 in
theorem PartsIn.below {w w' : World} {ap : Option Addr} {gp op : Nat} {ps : List Part} (h : PartsIn w ap gp op ps) (hk : Below w.heap.size w w') : PartsIn w' ap gp op ps :=
  ⟨h.at', fun i hi => by rw [hk.cell (by exact h.lt)]; exact h.cell i hi, Nat.lt_of_lt_of_le h.lt hk.size, fun p hp => (h.parts p hp).below hk⟩

/-- the hash as a value -/
def H (l : List UInt8) : Value := .agg ((shaOf l).map B).toArray

set_option maxRecDepth 100000 in
set_option maxHeartbeats 400000 in
theorem of_any (w : World) (ps : List Part) (ap : Option Addr) (gp op cp : Nat) (hp : PartsIn w ap gp op ps) (ht : Tab w) (hm : (joined ps).length ≤ 100000000000) (hl : ps.length ≤ 1000000000000) :
    Calls Tryd.prog 69 #[.slice ap ps.length cp] w fun e w' => e = .returned (H (joined ps)) ∧ Below w.heap.size w w' := by
  have h0 := ht.size
  have Hp := Lib.hid hp
  have Ht := Lib.hid ht
  clear hp ht
  go_enter Tryd.func69, Tryd.ntmps69
  go_wp2_with fail
  generalize hW : World.alloc _ _ = w1
  have hres : w1.heap[w.heap.size]? = some (.cells (zeros 32).toArray 40 (0, 0)) := by rw [← hW]; exact heap_alloc_new _ _
  have hb1 : Below w.heap.size w w1 := by rw [← hW]; exact (Below.refl _ _).alloc (Nat.le_refl _) _
  have hs1 : w1.heap.size = w.heap.size + 1 := by rw [← hW]; simp
  clear hW
  refine (new_any w1).mono ?_
  rintro e w2 ⟨rfl, hh2, hb2, hs2⟩
  have hbw2 : Below w.heap.size w w2 := hb1.trans (hb2.mono (by omega))
  have hres2 := (hb2.block _ (lt_block hres)).trans hres
  have hlt2 : w.heap.size < w1.heap.size := by omega
  have Hh2 := Lib.hid hh2
  have Hb2 := Lib.hid hbw2
  have Hres2 := Lib.hid hres2
  clear hh2 hb2 hs2 hbw2 hres2 hres hb1 hs1
  go_wp2_with fail
  have hpw := Hp.out.below Hb2.out
  refine (write_any w2 w1.heap.size [] ps ap gp op cp Hh2.out (Ht.out.below Hb2.out h0) (by omega) hpw.at' hpw.cell (by have := Hp.out.lt; omega) (fun p hp => (hpw.parts p hp).ok (by have := (Hp.out.parts p hp).lt; omega)) (by simp; omega) hl).mono ?_
  rintro e w3 ⟨rfl, hh3, hk3⟩
  rw [List.nil_append] at hh3
  have hb3 := Kept1.mono Hb2.out hk3 (by omega)
  have hres3 := hk3.heap Hres2.out (by omega)
  have Hh3 := Lib.hid hh3
  have Hb3 := Lib.hid hb3
  have Hres3 := Lib.hid hres3
  clear hh3 hk3 hb3 hres3 hpw Hh2 Hb2 Hres2
  go_wp2_with fail
  refine (sum_any w3 w1.heap.size _ Hh3.out (Ht.out.below Hb3.out h0) hm).mono ?_
  rintro e w4 ⟨rfl, hb4⟩
  have hbw4 : Below w.heap.size w w4 := Hb3.out.trans (hb4.mono Hb3.out.size)
  have hres4 := (hb4.block _ (lt_block Hres3.out)).trans Hres3.out
  have hthere := there_block hres4 0 32 (by simp [zeros])
  have hl32 : ((shaOf (joined ps)).map B).length = 32 := by simp [length_shaOf]
  have hend := heap_setCells _ _ ((shaOf (joined ps)).map B) 0 _ _ hres4 (by rw [hl32]; simp [zeros])
  rw [over_all _ _ (by rw [hl32]; simp [zeros])] at hend
  have hkl := (Kept1.setCells (b := w.heap.size) w.heap.size (Or.inl rfl) ((shaOf (joined ps)).map B) 0 (Kept1.of_below hbw4)).below (Nat.le_refl _)
  have hone : ((shaOf (joined ps)).map B).toArray.all (·.oneCell') = true := all_oneCell_toArray (by intro v hv; obtain ⟨x, _, rfl⟩ := List.mem_map.1 hv; rfl)
  have hH : H (joined ps) = .agg ((shaOf (joined ps)).map B).toArray := rfl
  generalize (shaOf (joined ps)).map B = L at *
  have HH := Lib.hid hH
  have Hkl := Lib.hid hkl
  have Hend := Lib.hid hend
  have Hl32 := Lib.hid hl32
  have hi : (Tryd.prog.info? 40).map (·.size) = some L.length := by rw [hl32]; kernel_rfl
  clear hkl hend hl32 hres4 hb4 hbw4 Hres3 Hb3 Hh3 hH
  go_wp2_with (refine wpList_store_mid rfl 40 (.tmp 2) (.tmp 9) rfl w.heap.size 0 L.toArray rfl rfl (by simpa [Hl32.out] using hthere) (by simpa using hi) hone ?_)
  exact bodyPost_ret (v := .agg L.toArray) (results_cell_row Tryd.results69 _ _ w.heap.size 40 L.toArray (0, 0) _ rfl Hend.out Tryd.underlying40 rfl (by simpa using hi)) rfl ⟨by rw [HH.out], Hkl.out⟩

set_option maxRecDepth 100000 in
theorem fold_zip : ∀ (L P : List Value) (A : List Value), A.length = L.length → List.foldl (fun (cs : Array Value) (x : Value × Nat) => cs.setIfInBounds x.snd x.fst) (P ++ A).toArray (L.zipIdx P.length) = (P ++ L).toArray
  | [], P, [], _ => by simp
  | v :: L, P, a :: A, h => by
    have ih := fold_zip L (P ++ [v]) A (by simpa using h)
    simp only [List.zipIdx_cons, List.foldl_cons]
    rw [show ((P ++ a :: A).toArray.setIfInBounds P.length v) = ((P ++ [v]) ++ A).toArray by simp, show P.length + 1 = (P ++ [v]).length by simp, ih]
    simp
set_option maxRecDepth 100000 in
theorem fold_all (L A : List Value) (h : A.length = L.length) : List.foldl (fun (cs : Array Value) (x : Value × Nat) => cs.setIfInBounds x.snd x.fst) A.toArray L.zipIdx = L.toArray := fold_zip L [] A h

end Go.Proofs.YtlhfdlfbnnfjjaaDoor
