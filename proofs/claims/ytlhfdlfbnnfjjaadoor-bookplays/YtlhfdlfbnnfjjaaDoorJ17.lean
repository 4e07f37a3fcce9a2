/- Where two of three are true; The reference's constants, its eight words in a row, and what joins its words to the program's; Eight words behind a block, as the reference makes them. -/
import Derived.Test.YtlhfdlfbnnfjjaaDoorJ13
import Derived.Test.YtlhfdlfbnnfjjaaDoorJ03
import Derived.Test.YtlhfdlfbnnfjjaaDoorJ16
import Derived.Test.YtlhfdlfbnnfjjaaDoorJ09
import Derived.Test.YtlhfdlfbnnfjjaaDoorJ10
namespace Go.Proofs.YtlhfdlfbnnfjjaaDoor
open Go.RowKit

set_option maxRecDepth 100000 in
set_option maxHeartbeats 2000000 in
theorem most_any (x y z : BitVec 32) (w : World) :
    Calls Tryd.prog 76 #[BV x, BV y, BV z] w fun e w' => e = .returned (BV ((x &&& y) ||| (x &&& z) ||| (y &&& z))) ∧ Below w.heap.size w w' := by
  unfold BV
  go_enter Tryd.func76, Tryd.ntmps76
  go_wp2_with fail
  generalize hW : World.alloc _ _ = w1
  have R : BitRel w.heap.size [x, y, z] (fun _ => false) w w1 := by
    rw [← hW]
    have hh := heap_allocs [.cells (bitsV x).toArray 108, .cells (bitsV y).toArray 108, .cells (bitsV z).toArray 108, .cells (bitsC fun _ => false).toArray 108, .cells (bitsC fun _ => false).toArray 108] w
    refine ⟨fun i hi => ?_, ⟨fun _ => false, hh 3 (by simp)⟩, hh 4 (by simp), below_allocs [_, _, _, _, _] w (Below.refl _ _) (Nat.le_refl _)⟩
    match i, hi with
    | 0, _ => exact hh 0 (by simp)
    | 1, _ => exact hh 1 (by simp)
    | 2, _ => exact hh 2 (by simp)
  clear hW
  go_loopw [8] (fun i wr => ∃ k : Nat, k ≤ 32 ∧ i = .int .i64 k ∧ BitRel w.heap.size [x, y, z] (fun i => if i < k then ((x &&& y) ||| (x &&& z) ||| (y &&& z)).getLsbD i else false) w wr) (fun i _ => 32 - (intOf i).toNat)
  case atStart => exact ⟨0, by omega, rfl, R.congr (fun i _ => by simp)⟩
  case round =>
    clear R
    obtain ⟨k, hk, rfl, hr⟩ := hrel
    by_cases hlt : k < 32
    · have hd : decide ((k : Int) < 32) = true := by simp; omega
      have ca : wr.cell? ⟨w.heap.size, k, none⟩ = some (.bool (x.getLsbD k)) := hr.cell 0 (by simp) k hlt
      have cb : wr.cell? ⟨w.heap.size + 1, k, none⟩ = some (.bool (y.getLsbD k)) := hr.cell 1 (by simp) k hlt
      have cc : wr.cell? ⟨w.heap.size + 1 + 1, k, none⟩ = some (.bool (z.getLsbD k)) := hr.cell 2 (by simp) k hlt
      obtain ⟨v, cv⟩ : ∃ v, wr.cell? ⟨w.heap.size + 1 + 1 + 1 + 1, k, none⟩ = some v := ⟨_, hr.outSome k hlt⟩
      have cf : wr.frozen? ⟨w.heap.size + 1 + 1 + 1 + 1, k, none⟩ = false := hr.outFree k
      have Hr := Lib.hid hr
      clear hr
      cases hxa : x.getLsbD k <;> cases hya : y.getLsbD k <;> cases hza : z.getLsbD k
      all_goals
        rw [hxa] at ca
        rw [hya] at cb
        rw [hza] at cc
        have Hx := Lib.hid hxa
        have Hy := Lib.hid hya
        have Hz := Lib.hid hza
        clear hxa hya hza
        go_wp2_with fail
        go_roundw
        case rel =>
          refine ⟨k + 1, by omega, by go_num, ?_⟩
          exact (Hr.out.set k _).congr (g := fun i => if i < k + 1 then ((x &&& y) ||| (x &&& z) ||| (y &&& z)).getLsbD i else false) (fun i _ => by
          by_cases h : i = k
          · subst h; rw [if_pos rfl, if_pos (by omega)]; simp [Hx.out, Hy.out, Hz.out]
          · rw [if_neg h]; by_cases h2 : i < k
            · rw [if_pos h2, if_pos (by omega)]
            · rw [if_neg h2, if_neg (by omega)])
        case measure => simp [intOf]; omega
    · have hd : decide ((k : Int) < 32) = false := by simp; omega
      obtain rfl : k = 32 := by omega
      have hr' := hr.congr (g := ((x &&& y) ||| (x &&& z) ||| (y &&& z)).getLsbD) (fun i hi => by rw [if_pos hi])
      obtain ⟨hrange, hthere, hend, hbel⟩ := hr'.fin rfl
      have Hend := Lib.hid hend
      have Hbel := Lib.hid hbel
      have hlen := length_bitsC ((x &&& y) ||| (x &&& z) ||| (y &&& z)).getLsbD
      have hone := all_oneCell_toArray (one_bitsC ((x &&& y) ||| (x &&& z) ||| (y &&& z)).getLsbD)
      have hL : BV ((x &&& y) ||| (x &&& z) ||| (y &&& z)) = .agg (bitsC ((x &&& y) ||| (x &&& z) ||| (y &&& z)).getLsbD).toArray := rfl
      generalize bitsC ((x &&& y) ||| (x &&& z) ||| (y &&& z)).getLsbD = L at *
      have HL := Lib.hid hL
      have hi := infoBitsL _ hlen
      clear hr hr' hend hbel hL
      go_wp2_with (first
        | (refine wpList_load_mid rfl 108 (.tmp 7) rfl (w.heap.size + 1 + 1 + 1 + 1) 0 rfl L _ hrange Tryd.underlying108 rfl hi ?_)
        | (refine wpList_store_mid rfl 108 (.tmp 6) (.tmp 43) rfl (w.heap.size + 1 + 1 + 1) 0 L.toArray rfl rfl (by simpa [hlen] using hthere) (by simpa using hi) hone ?_))
      exact bodyPost_ret (v := .agg L.toArray) (results_cell_row Tryd.results76 _ _ (w.heap.size + 1 + 1 + 1) 108 L.toArray (0, 0) _ rfl Hend.out Tryd.underlying108 rfl (by simpa using hi)) rfl ⟨by rw [← HL.out]; rfl, Hbel.out⟩
end Go.Proofs.YtlhfdlfbnnfjjaaDoor
namespace Go.Proofs.YtlhfdlfbnnfjjaaDoor
open Go.RowKit

/-- the digits of the constants, and of the eight words at the beginning -/
def kList : List UInt8 := [52, 50, 56, 97, 50, 102, 57, 56, 55, 49, 51, 55, 52, 52, 57, 49, 98, 53, 99, 48, 102, 98, 99, 102, 101, 57, 98, 53, 100, 98, 97, 53, 51, 57, 53, 54, 99, 50, 53, 98, 53, 57, 102, 49, 49, 49, 102, 49, 57, 50, 51, 102, 56, 50, 97, 52, 97, 98, 49, 99, 53, 101, 100, 53, 100, 56, 48, 55, 97, 97, 57, 56, 49, 50, 56, 51, 53, 98, 48, 49, 50, 52, 51, 49, 56, 53, 98, 101, 53, 53, 48, 99, 55, 100, 99, 51, 55, 50, 98, 101, 53, 100, 55, 52, 56, 48, 100, 101, 98, 49, 102, 101, 57, 98, 100, 99, 48, 54, 97, 55, 99, 49, 57, 98, 102, 49, 55, 52, 101, 52, 57, 98, 54, 57, 99, 49, 101, 102, 98, 101, 52, 55, 56, 54, 48, 102, 99, 49, 57, 100, 99, 54, 50, 52, 48, 99, 97, 49, 99, 99, 50, 100, 101, 57, 50, 99, 54, 102, 52, 97, 55, 52, 56, 52, 97, 97, 53, 99, 98, 48, 97, 57, 100, 99, 55, 54, 102, 57, 56, 56, 100, 97, 57, 56, 51, 101, 53, 49, 53, 50, 97, 56, 51, 49, 99, 54, 54, 100, 98, 48, 48, 51, 50, 55, 99, 56, 98, 102, 53, 57, 55, 102, 99, 55, 99, 54, 101, 48, 48, 98, 102, 51, 100, 53, 97, 55, 57, 49, 52, 55, 48, 54, 99, 97, 54, 51, 53, 49, 49, 52, 50, 57, 50, 57, 54, 55, 50, 55, 98, 55, 48, 97, 56, 53, 50, 101, 49, 98, 50, 49, 51, 56, 52, 100, 50, 99, 54, 100, 102, 99, 53, 51, 51, 56, 48, 100, 49, 51, 54, 53, 48, 97, 55, 51, 53, 52, 55, 54, 54, 97, 48, 97, 98, 98, 56, 49, 99, 50, 99, 57, 50, 101, 57, 50, 55, 50, 50, 99, 56, 53, 97, 50, 98, 102, 101, 56, 97, 49, 97, 56, 49, 97, 54, 54, 52, 98, 99, 50, 52, 98, 56, 98, 55, 48, 99, 55, 54, 99, 53, 49, 97, 51, 100, 49, 57, 50, 101, 56, 49, 57, 100, 54, 57, 57, 48, 54, 50, 52, 102, 52, 48, 101, 51, 53, 56, 53, 49, 48, 54, 97, 97, 48, 55, 48, 49, 57, 97, 52, 99, 49, 49, 54, 49, 101, 51, 55, 54, 99, 48, 56, 50, 55, 52, 56, 55, 55, 52, 99, 51, 52, 98, 48, 98, 99, 98, 53, 51, 57, 49, 99, 48, 99, 98, 51, 52, 101, 100, 56, 97, 97, 52, 97, 53, 98, 57, 99, 99, 97, 52, 102, 54, 56, 50, 101, 54, 102, 102, 51, 55, 52, 56, 102, 56, 50, 101, 101, 55, 56, 97, 53, 54, 51, 54, 102, 56, 52, 99, 56, 55, 56, 49, 52, 56, 99, 99, 55, 48, 50, 48, 56, 57, 48, 98, 101, 102, 102, 102, 97, 97, 52, 53, 48, 54, 99, 101, 98, 98, 101, 102, 57, 97, 51, 102, 55, 99, 54, 55, 49, 55, 56, 102, 50]
def bList : List UInt8 := [54, 97, 48, 57, 101, 54, 54, 55, 98, 98, 54, 55, 97, 101, 56, 53, 51, 99, 54, 101, 102, 51, 55, 50, 97, 53, 52, 102, 102, 53, 51, 97, 53, 49, 48, 101, 53, 50, 55, 102, 57, 98, 48, 53, 54, 56, 56, 99, 49, 102, 56, 51, 100, 57, 97, 98, 53, 98, 101, 48, 99, 100, 49, 57]
set_option maxRecDepth 100000 in
theorem kList_hex : ∀ i, i < 512 → isHex (kList.getD i 0) = true := by decide +kernel
set_option maxRecDepth 100000 in
theorem bList_hex : ∀ i, i < 64 → isHex (bList.getD i 0) = true := by decide +kernel
set_option maxRecDepth 100000 in
theorem kList_bits : ∀ n, n < 64 → ∀ j, j < 32 → hexBit kList n j = (consts.getD n 0).getLsbD j := by decide +kernel
set_option maxRecDepth 100000 in
theorem bList_bits : ∀ n, n < 8 → ∀ j, j < 32 → hexBit bList n j = (start8.list.getD n 0).getLsbD j := by decide +kernel
set_option maxRecDepth 100000 in
theorem kList_len : kList.length = 512 := by decide +kernel
set_option maxRecDepth 100000 in
theorem bList_len : bList.length = 64 := by decide +kernel

set_option maxRecDepth 100000 in
theorem hexL (L : List UInt8) (m : Nat) (hl : L.length = m) (hm : m ≤ 100000) (hh : ∀ i, i < m → isHex (L.getD i 0) = true) (x : BitVec 32) (n : Nat) (hn : 8 * n + 8 ≤ m) (hb : ∀ j, j < 32 → hexBit L n j = x.getLsbD j) (s : ByteArray) (hs : s = ⟨L.toArray⟩) (w : World) :
    Calls Tryd.prog 53 #[.string s, .int .i64 (n : Int)] w fun e w' => e = .returned (BV x) ∧ Below w.heap.size w w' := by
  subst hs
  have hsz : (ByteArray.mk L.toArray).size = m := by simp [ByteArray.size, hl]
  refine (hex_any ⟨L.toArray⟩ n (by rw [hsz]; exact hn) (by rw [hsz]; exact hm) (fun i hi => ?_) w).mono fun e w' ⟨he, hw⟩ => ⟨?_, hw⟩
  · have := hh i (by rw [hsz] at hi; exact hi)
    have hi2 : i < L.length := by rw [hsz] at hi; omega
    show isHex L.toArray[i] = true
    simpa [List.getD, hi2] using this
  · rw [he]
    show _ = Ending.returned (.agg (bitsV x).toArray)
    rw [show bitsV x = bitsC x.getLsbD from rfl, bitsC_congr _ _ (fun i hi => hb i hi)]
set_option maxRecDepth 100000 in
theorem hexK (n : Nat) (hn : n < 64) (s : ByteArray) (hs : s = ⟨kList.toArray⟩) (w : World) :
    Calls Tryd.prog 53 #[.string s, .int .i64 (n : Int)] w fun e w' => e = .returned (BV (consts.getD n 0)) ∧ Below w.heap.size w w' :=
  hexL kList 512 kList_len (by omega) kList_hex _ n (by omega) (kList_bits n hn) s hs w
set_option maxRecDepth 100000 in
theorem hexB (n : Nat) (hn : n < 8) (s : ByteArray) (hs : s = ⟨bList.toArray⟩) (w : World) :
    Calls Tryd.prog 53 #[.string s, .int .i64 (n : Int)] w fun e w' => e = .returned (BV (start8.list.getD n 0)) ∧ Below w.heap.size w w' :=
  hexL bList 64 bList_len (by omega) bList_hex _ n (by omega) (bList_bits n hn) s hs w

set_option maxRecDepth 100000 in
theorem pick_ch (x y z : BitVec 32) : (x &&& y) ||| (~~~ x &&& z) = ch x y z := by
  unfold ch
  apply BitVec.eq_of_getLsbD_eq
  intro i hi
  simp only [BitVec.getLsbD_or, BitVec.getLsbD_and, BitVec.getLsbD_not, BitVec.getLsbD_xor, hi, decide_true, Bool.true_and]
  cases x.getLsbD i <;> cases y.getLsbD i <;> cases z.getLsbD i <;> rfl
set_option maxRecDepth 100000 in
theorem most_maj (x y z : BitVec 32) : (x &&& y) ||| (x &&& z) ||| (y &&& z) = maj x y z := by
  unfold maj
  apply BitVec.eq_of_getLsbD_eq
  intro i hi
  simp only [BitVec.getLsbD_or, BitVec.getLsbD_and, BitVec.getLsbD_xor]
  cases x.getLsbD i <;> cases y.getLsbD i <;> cases z.getLsbD i <;> rfl
set_option maxRecDepth 100000 in
theorem pickW (x y z : BitVec 32) (w : World) : Calls Tryd.prog 75 #[BV x, BV y, BV z] w fun e w' => e = .returned (BV (ch x y z)) ∧ Below w.heap.size w w' := by
  rw [← pick_ch]; exact pick_any x y z w
set_option maxRecDepth 100000 in
theorem mostW (x y z : BitVec 32) (w : World) : Calls Tryd.prog 76 #[BV x, BV y, BV z] w fun e w' => e = .returned (BV (maj x y z)) ∧ Below w.heap.size w w' := by
  rw [← most_maj]; exact most_any x y z w

set_option maxRecDepth 100000 in
/-- a word of a row that lies in a block -/
theorem row_range {w : World} {G : Nat} {t : TypeId} {fr : Nat × Nat} {L : List (BitVec 32)} (h : w.heap[G]? = some (.cells (rowC L).toArray t fr)) (i : Nat) (hi : i < L.length) : w.rangeAt G (32 * i) (bitsV (L.getD i 0)) := fun j v hv => by
  have hj : j < 32 := by have := (List.getElem?_eq_some_iff.1 hv).1; rwa [length_bitsV] at this
  rw [cell_block h, List.getElem?_toArray, rowC_get L i hi j hj]
  simpa [List.getD, hi] using hv
set_option maxRecDepth 100000 in
theorem over_row (L : List (BitVec 32)) : ∀ (i : Nat), i < L.length → ∀ x, over (rowC L) (32 * i) (bitsV x) = rowC (L.set i x) := by
  induction L with
  | nil => intro i h; cases h
  | cons y L ih =>
    intro i h x
    cases i with
    | zero =>
      show over (bitsV y ++ rowC L) 0 (bitsV x) = bitsV x ++ rowC L
      unfold over
      simp [length_bitsV]
    | succ i =>
      have := ih i (by simpa using h) x
      show over (bitsV y ++ rowC L) (32 * (i + 1)) (bitsV x) = bitsV y ++ rowC (L.set i x)
      rw [← this]
      unfold over
      rw [show 32 * (i + 1) = (bitsV y).length + 32 * i by rw [length_bitsV]; omega]
      rw [List.take_length_add_append, show (bitsV y).length + 32 * i + (bitsV x).length = (bitsV y).length + (32 * i + (bitsV x).length) by omega, List.drop_length_add_append, List.append_assoc]
set_option maxRecDepth 100000 in
theorem infoRow (n : Nat) (h : n = 256) : (Tryd.prog.info? 109).map (·.size) = some n := by subst h; kernel_rfl
set_option maxRecDepth 100000 in
theorem built8 (a b c d e f g h : BitVec 32) : Tryd.prog.built 109 [(0, BV a), (1, BV b), (2, BV c), (3, BV d), (4, BV e), (5, BV f), (6, BV g), (7, BV h)] = some (rowC [a, b, c, d, e, f, g, h]).toArray := by kernel_rfl
set_option maxRecDepth 100000 in
theorem run_build_op {o : Oper} {a : Act} {P : Program} (t : TypeId) (parts : Array (Nat × Operand)) (ho : o.op = .build t parts) (vals : List (Nat × Value)) (hv : (parts.map fun (i, x) => (i, a.eval x)).toList = vals) (cells : Array Value) (h : P.built t vals = some cells) (w : World) : (execOp a.eval o).run P w = .ok (.value (.agg cells)) w := by
  subst hv
  unfold execOp
  simp only [ho, Sem.run_bind, run_build w t _ cells h, Result.andThen_ok]
  rfl
set_option maxRecDepth 100000 in
theorem length_row8 (s : St8) : (rowC s.list).length = 256 := by simp [length_rowC, St8.list]
end Go.Proofs.YtlhfdlfbnnfjjaaDoor
namespace Go.Proofs.YtlhfdlfbnnfjjaaDoor
open Go.RowKit

/-- what the rounds keep -/
structure BlkRel (w : World) (G g' : Nat) (s v : St8) (P : List (BitVec 32)) (wr : World) : Prop where
  hb : wr.heap[w.heap.size]? = some (.cells (rowC s.list).toArray 109 (0, 0))
  res : wr.heap[w.heap.size + 1]? = some (.cells (rowC (List.replicate 8 0)).toArray 109 (0, 0))
  vb : wr.heap[G]? = some (.cells (rowC v.list).toArray 109 (0, 0))
  rng : ∀ i, i < 64 → wr.rangeAt g' (i * 32) (bitsV (P.getD i 0))
  lt : g' < wr.heap.size
  below : Below w.heap.size w wr
set_option maxRecDepth 100000 in
theorem BlkRel.next {w : World} {G g' : Nat} {s v v' : St8} {P : List (BitVec 32)} {wr w5 w6 : World} (h : BlkRel w G g' s v P wr) (hb : Below wr.heap.size wr w5) (hs : Set1 G (.cells (rowC v'.list).toArray 109 (0, 0)) w5 w6) (hG : w.heap.size + 2 ≤ G) (hg : g' < G) : BlkRel w G g' s v' P w6 := by
  have l1 := lt_block h.hb
  have l2 := lt_block h.res
  refine ⟨by rw [hs.old _ (by omega), hb.block _ l1]; exact h.hb, by rw [hs.old _ (by omega), hb.block _ l2]; exact h.res, hs.new, fun i hi j u hu => ?_, by rw [hs.size]; exact Nat.lt_of_lt_of_le h.lt hb.size, hs.below (h.below.trans (hb.mono h.below.size)) (by omega)⟩
  have e : w6.heap[g']? = wr.heap[g']? := by rw [hs.old _ (by omega), hb.block _ h.lt]
  have := h.rng i hi j u hu
  simp only [World.cell?] at this ⊢
  rw [e]; exact this
/-- the words when i of them are added -/
def hm (s v : St8) (i : Nat) : List (BitVec 32) := (s.plus v).list.take i ++ s.list.drop i
set_option maxRecDepth 100000 in
theorem length_hm (s v : St8) (i : Nat) (hi : i ≤ 8) : (hm s v i).length = 8 := by simp [hm, St8.list]; omega
set_option maxRecDepth 100000 in
theorem hm_get (s v : St8) (i : Nat) (hi : i < 8) : (hm s v i).getD i 0 = s.list.getD i 0 := by
  rcases (show i = 0 ∨ i = 1 ∨ i = 2 ∨ i = 3 ∨ i = 4 ∨ i = 5 ∨ i = 6 ∨ i = 7 by omega) with rfl | rfl | rfl | rfl | rfl | rfl | rfl | rfl <;> rfl
set_option maxRecDepth 100000 in
theorem hm_set (s v : St8) (i : Nat) (hi : i < 8) : (hm s v i).set i (s.list.getD i 0 + v.list.getD i 0) = hm s v (i + 1) := by
  rcases (show i = 0 ∨ i = 1 ∨ i = 2 ∨ i = 3 ∨ i = 4 ∨ i = 5 ∨ i = 6 ∨ i = 7 by omega) with rfl | rfl | rfl | rfl | rfl | rfl | rfl | rfl <;> rfl
set_option maxRecDepth 100000 in
theorem hm_end (s v : St8) : hm s v 8 = (s.plus v).list := rfl
set_option maxRecDepth 100000 in
theorem row8_range {w : World} {G : Nat} {t : TypeId} {fr : Nat × Nat} {v : St8} (h : w.heap[G]? = some (.cells (rowC v.list).toArray t fr)) (i : Nat) (hi : i < 8) : w.rangeAt G (32 * i) (bitsV (v.list.getD i 0)) := row_range h i hi
structure HRel (w : World) (G : Nat) (s v : St8) (i : Nat) (wr : World) : Prop where
  hb : wr.heap[w.heap.size]? = some (.cells (rowC (hm s v i)).toArray 109 (0, 0))
  res : wr.heap[w.heap.size + 1]? = some (.cells (rowC (List.replicate 8 0)).toArray 109 (0, 0))
  vb : wr.heap[G]? = some (.cells (rowC v.list).toArray 109 (0, 0))
  below : Below w.heap.size w wr

set_option maxRecDepth 100000 in
set_option maxHeartbeats 4000000 in
theorem block_any (s : St8) (w : World) (p : Part) (hp : p.In w) (hl : p.l.length = 64) :
    Calls Tryd.prog 54 #[.agg (rowC s.list).toArray, p.val] w fun e w' => e = .returned (.agg (rowC (mixW s p.l).list).toArray) ∧ Below w.heap.size w w' := by
  have hzv : ∀ w, (zeroValue 108).run Tryd.prog w = .ok (.agg (bitsC fun _ => false).toArray) w := fun _ => by kernel_rfl
  have hzv8 : ∀ w, (zeroValue 109).run Tryd.prog w = .ok (.agg (rowC (List.replicate 8 0)).toArray) w := fun _ => by kernel_rfl
  have hL0 := length_row8 s
  have hone0 := one_rowC s.list
  have hZ8 : (rowC (List.replicate 8 0)).length = 256 := by rw [length_rowC]; rfl
  have hZ32 : (bitsC fun _ => false).length = 32 := length_bitsC _
  generalize (bitsC fun _ => false) = Z at *
  generalize hZZ : rowC (List.replicate 8 0) = Z8 at *
  have HZZ := Lib.hid hZZ
  generalize hLL : rowC s.list = L0 at *
  have HLL := Lib.hid hLL
  generalize hpv : p.val = pv
  have Hpv := Lib.hid hpv
  have Hp := Lib.hid hp
  have Hl := Lib.hid hl
  have Hone0 := Lib.hid hone0
  clear hLL hZZ hpv hp hl hone0
  go_enter Tryd.func54, Tryd.ntmps54
  go_wp2_with fail
  have hh := heap_allocs [.cells L0.toArray 109, .cells Z8.toArray 109] w
  have hA : ((w.alloc (.cells L0.toArray 109)).alloc (.cells Z8.toArray 109)).heap[w.heap.size]? = some (.cells L0.toArray 109 (0, 0)) := hh 0 (by simp)
  have hB : ((w.alloc (.cells L0.toArray 109)).alloc (.cells Z8.toArray 109)).heap[w.heap.size + 1]? = some (.cells Z8.toArray 109 (0, 0)) := hh 1 (by simp)
  have hsz : ((w.alloc (.cells L0.toArray 109)).alloc (.cells Z8.toArray 109)).heap.size = w.heap.size + 2 := by simp only [World.size_alloc]
  have hbW : Below w.heap.size w ((w.alloc (.cells L0.toArray 109)).alloc (.cells Z8.toArray 109)) := below_allocs [_, _] w (Below.refl _ _) (Nat.le_refl _)
  clear hh
  generalize (w.alloc (.cells L0.toArray 109)).alloc (.cells Z8.toArray 109) = W1 at *
  have hrow := row_any W1 p (Hp.out.below hbW) Hl.out
  rw [Hpv.out] at hrow
  refine hrow.mono ?_
  rintro e wb ⟨vv, rfl, hrr⟩
  clear hrow
  obtain ⟨g', cap', hv⟩ : ∃ g' cap', vv = .slice (some ⟨g', 0, none⟩) 64 cap' := by
    obtain ⟨_, h | ⟨g', cap', _, h, _⟩⟩ := hrr.own
    · omega
    · exact ⟨g', cap', h⟩
  subst hv
  have hpl := length_plan p.l 64
  have hrng : ∀ i, i < 64 → wb.rangeAt g' (i * 32) (bitsV ((plan p.l 64).getD i 0)) := fun i hi => own_range hrr.own i (by omega) hi
  have hglt : g' < wb.heap.size := (hrr.own.lt g' rfl).2
  have hA' : wb.heap[w.heap.size]? = some (.cells L0.toArray 109 (0, 0)) := (hrr.below.block _ (by omega)).trans hA
  have hB' : wb.heap[w.heap.size + 1]? = some (.cells Z8.toArray 109 (0, 0)) := (hrr.below.block _ (by omega)).trans hB
  have hbb : Below w.heap.size w wb := hbW.trans (hrr.below.mono (by omega))
  have hszb : w.heap.size + 2 ≤ wb.heap.size := by have := hrr.below.size; omega
  have HA := Lib.hid hA'
  have HB := Lib.hid hB'
  have Hbb := Lib.hid hbb
  have Hrng := Lib.hid hrng
  clear hA hB hbW hsz hrr hA' hB' hbb hrng hpl
  go_wp2_with (first
    | (refine wpList_load_mid rfl 109 (.tmp 2) rfl w.heap.size 0 rfl L0 _ (range_block HA.out) Tryd.underlying109 rfl (infoRow _ hL0) ?_)
    | (refine wpList_store_row rfl 109 (.tmp 6) (.tmp 14) rfl wb.heap.size L0.toArray rfl rfl 109 Z8.toArray (heap_alloc_new _ _) (infoRow _ (by simp [hL0])) (by simp [hL0, hZ8]) (all_oneCell_toArray Hone0.out) ?_))
  have sv := set1_setRow (cells := L0.toArray) (heap_alloc_new wb (.cells Z8.toArray 109))
  have hG := hszb
  have hbal : Below wb.heap.size wb (wb.alloc (.cells Z8.toArray 109)) := (Below.refl _ _).alloc (Nat.le_refl _) _
  have R0 : BlkRel w wb.heap.size g' s s (plan p.l 64) ((wb.alloc (.cells Z8.toArray 109)).setRow wb.heap.size L0.toArray) := by
    have hbs : Below wb.heap.size wb ((wb.alloc (.cells Z8.toArray 109)).setRow wb.heap.size L0.toArray) := sv.below hbal (Nat.le_refl _)
    refine ⟨by rw [hbs.block _ (by omega), HA.out, ← HLL.out], by rw [hbs.block _ (by omega), HB.out, ← HZZ.out], by rw [sv.new, ← HLL.out], fun i hi => range_below hbs (Hrng.out i hi) hglt, Nat.lt_of_lt_of_le hglt hbs.size, Hbb.out.trans (hbs.mono Hbb.out.size)⟩
  clear sv hbal HA HB Hbb Hrng hszb
  have hgG : g' < wb.heap.size := hglt
  generalize (wb.alloc (.cells Z8.toArray 109)).setRow wb.heap.size L0.toArray = wc at *
  generalize wb.heap.size = G at *
  clear hglt hL0
  go_loopw [7] (fun i wr => ∃ k : Nat, k ≤ 64 ∧ i = .int .i64 k ∧ BlkRel w G g' s (rnds s (plan p.l 64) k) (plan p.l 64) wr) (fun i _ => 64 - (intOf i).toNat)
  case atStart => exact ⟨0, by omega, rfl, R0⟩
  case round =>
    clear R0
    obtain ⟨k, hk, rfl, hr⟩ := hrel
    by_cases hlt : k < 64
    · have hd : decide ((k : Int) < 64) = true := by simp; omega
      have hvk : rnds s (plan p.l 64) (k + 1) = rnd (rnds s (plan p.l 64) k) (consts.getD k 0) ((plan p.l 64).getD k 0) := rfl
      have hrk := hr.rng k hlt
      have hp0 : (0 : Int) ≤ (k : Int) := by omega
      have hnk : ((k : Int)).toNat = k := by omega
      have hk64 : (k : Int) < 64 := by omega
      have hvb := hr.vb
      have Glt : G < wr.heap.size := lt_block hvb
      have gglt := hr.lt
      have Hr := Lib.hid hr
      have Hvk := Lib.hid hvk
      generalize rnds s (plan p.l 64) k = v at *
      generalize (plan p.l 64).getD k 0 = pk at *
      have HV := Lib.hid hvb
      have Hrk := Lib.hid hrk
      clear hr hvk hvb hrk
      go_wp2_with fail
      refine wp_region_fresh 11 [.calm, .calm, .calm, .calm, .calm, .calm, .calm, .calm, .calm, .calm, .fresh] (fun _ => .cells Z.toArray 108) (fun _ => .cells Z.toArray 108) (fun _ G => .pointer (some ⟨G, 0, none⟩)) (by kernel_rfl) (by kernel_rfl) (by kernel_rfl) ?_
      intro R hR
      have hne := hR.nonempty
      simp only [List.take_succ_cons, List.take_zero, List.drop_succ_cons, List.drop_zero, calmL]
      iterate 1 (go_big_quiet_step (fail))
      refine wpQuiet_load_mid rfl 108 (.tmp 19) rfl G 128 rfl (bitsV (v.e)) _ (fun w' ⟨m, hw'⟩ => hw' ▸ range_below m.below (row8_range HV.out 4 (by decide)) Glt) Tryd.underlying108 rfl (infoBitsL _ (length_bitsV _)) ?_
      simp only [Act.put, List.setIfInBounds_toArray, List.set_cons_succ, List.set_cons_zero]
      go_big_quiet_step ((go_at_call 73; exact Calls.quiet_r hR (right_any (v.e) 6 true _ (by decide) (by decide))))
      iterate 1 (go_big_quiet_step (fail))
      refine wpQuiet_load_mid rfl 108 (.tmp 22) rfl G 128 rfl (bitsV (v.e)) _ (fun w' ⟨m, hw'⟩ => hw' ▸ range_below m.below (row8_range HV.out 4 (by decide)) Glt) Tryd.underlying108 rfl (infoBitsL _ (length_bitsV _)) ?_
      simp only [Act.put, List.setIfInBounds_toArray, List.set_cons_succ, List.set_cons_zero]
      go_big_quiet_step ((go_at_call 73; exact Calls.quiet_r hR (right_any (v.e) 11 true _ (by decide) (by decide))))
      iterate 1 (go_big_quiet_step (fail))
      refine wpQuiet_load_mid rfl 108 (.tmp 25) rfl G 128 rfl (bitsV (v.e)) _ (fun w' ⟨m, hw'⟩ => hw' ▸ range_below m.below (row8_range HV.out 4 (by decide)) Glt) Tryd.underlying108 rfl (infoBitsL _ (length_bitsV _)) ?_
      simp only [Act.put, List.setIfInBounds_toArray, List.set_cons_succ, List.set_cons_zero]
      go_big_quiet_step ((go_at_call 73; exact Calls.quiet_r hR (right_any (v.e) 25 true _ (by decide) (by decide))))
      go_big_quiet_step ((go_at_call 72; exact Calls.quiet_r hR (odd_any _ _ _ _)))
      refine wpQuiet_nil ?_
      refine ⟨?_, ?_⟩
      · simp only [obF, Nat.reduceAdd]
        exact ⟨⟨fun a' w' _ _ => run_alloc_op 108 rfl Z hzv w', .inl trivial⟩, trivial⟩
      intro γ w1 hf
      clear hR hne R
      simp only [putF, Nat.reduceAdd, Act.put, List.setIfInBounds_toArray, List.set_cons_succ, List.set_cons_zero]
      obtain ⟨gna, hn⟩ := hf.block 10 rfl
      have hb1 := hf.below
      clear hf
      generalize γ 10 = G8 at *
      refine wpList_store_row rfl 108 (.tmp 8) (.tmp 28) rfl G8 (bitsV (trn v.e 6 11 25)).toArray rfl rfl 108 Z.toArray hn (infoBitsL _ (by simp [length_bitsV])) (by simp [hZ32, length_bitsV]) (all_oneCell_toArray (one_bitsC _)) ?_
      simp only [Act.put]
      have sn := set1_setRow (cells := (bitsV (trn v.e 6 11 25)).toArray) hn
      generalize w1.setRow G8 (bitsV (trn v.e 6 11 25)).toArray = w2 at *
      have hn' := sn.new
      have hbn := sn.below hb1 gna
      clear hn sn hb1 gna
      have lG8 := lt_block hn'
      have HG8 := Lib.hid hn'
      clear hn'
      have hv' := (hbn.block G Glt).trans HV.out
      have hrk' := range_below hbn Hrk.out gglt
      have hbw : Below wr.heap.size wr w2 := hbn
      have Glt' := Nat.lt_of_lt_of_le Glt hbn.size
      have gglt' := Nat.lt_of_lt_of_le gglt hbn.size
      clear HV Hrk Glt gglt 
      have HV := Lib.hid hv'
      have Hrk := Lib.hid hrk'
      have Hbw := Lib.hid hbw
      have Glt := Glt'
      have gglt := gglt'
      clear hv' hrk' hbw Glt' gglt'
      clear hbn
      go_wp2_with fail
      refine wp_region_fresh 21 [.calm, .calm, .calm, .calm, .calm, .calm, .calm, .calm, .calm, .calm, .calm, .calm, .calm, .calm, .calm, .calm, .calm, .calm, .calm, .calm, .fresh] (fun _ => .cells Z.toArray 108) (fun _ => .cells Z.toArray 108) (fun _ G => .pointer (some ⟨G, 0, none⟩)) (by kernel_rfl) (by kernel_rfl) (by kernel_rfl) ?_
      intro R hR
      have hne := hR.nonempty
      simp only [List.take_succ_cons, List.take_zero, List.drop_succ_cons, List.drop_zero, calmL]
      iterate 1 (go_big_quiet_step (fail))
      refine wpQuiet_load_mid rfl 108 (.tmp 29) rfl G 224 rfl (bitsV (v.h)) _ (fun w' ⟨m, hw'⟩ => hw' ▸ range_below m.below (row8_range HV.out 7 (by decide)) Glt) Tryd.underlying108 rfl (infoBitsL _ (length_bitsV _)) ?_
      simp only [Act.put, List.setIfInBounds_toArray, List.set_cons_succ, List.set_cons_zero]
      refine wpQuiet_load_mid rfl 108 (.tmp 8) rfl G8 0 rfl (bitsV (trn v.e 6 11 25)) _ (fun w' ⟨m, hw'⟩ => hw' ▸ range_below m.below (range_block HG8.out) lG8) Tryd.underlying108 rfl (infoBitsL _ (length_bitsV _)) ?_
      simp only [Act.put, List.setIfInBounds_toArray, List.set_cons_succ, List.set_cons_zero]
      go_big_quiet_step ((go_at_call 74; exact Calls.quiet_r hR (plus_any _ _ _)))
      iterate 1 (go_big_quiet_step (fail))
      refine wpQuiet_load_mid rfl 108 (.tmp 33) rfl G 128 rfl (bitsV (v.e)) _ (fun w' ⟨m, hw'⟩ => hw' ▸ range_below m.below (row8_range HV.out 4 (by decide)) Glt) Tryd.underlying108 rfl (infoBitsL _ (length_bitsV _)) ?_
      simp only [Act.put, List.setIfInBounds_toArray, List.set_cons_succ, List.set_cons_zero]
      iterate 1 (go_big_quiet_step (fail))
      refine wpQuiet_load_mid rfl 108 (.tmp 35) rfl G 160 rfl (bitsV (v.f)) _ (fun w' ⟨m, hw'⟩ => hw' ▸ range_below m.below (row8_range HV.out 5 (by decide)) Glt) Tryd.underlying108 rfl (infoBitsL _ (length_bitsV _)) ?_
      simp only [Act.put, List.setIfInBounds_toArray, List.set_cons_succ, List.set_cons_zero]
      iterate 1 (go_big_quiet_step (fail))
      refine wpQuiet_load_mid rfl 108 (.tmp 37) rfl G 192 rfl (bitsV (v.g)) _ (fun w' ⟨m, hw'⟩ => hw' ▸ range_below m.below (row8_range HV.out 6 (by decide)) Glt) Tryd.underlying108 rfl (infoBitsL _ (length_bitsV _)) ?_
      simp only [Act.put, List.setIfInBounds_toArray, List.set_cons_succ, List.set_cons_zero]
      go_big_quiet_step ((go_at_call 75; exact Calls.quiet_r hR (pickW _ _ _ _)))
      go_big_quiet_step ((go_at_call 74; exact Calls.quiet_r hR (plus_any _ _ _)))
      iterate 1 (go_big_quiet_step (fail))
      go_big_quiet_step ((go_at_call 53; exact Calls.quiet_r hR (hexK k hlt _ (by kernel_rfl) _)))
      go_big_quiet_step ((go_at_call 74; exact Calls.quiet_r hR (plus_any _ _ _)))
      iterate 3 (go_big_quiet_step (fail))
      refine wpQuiet_load_mid rfl 108 (.tmp 46) rfl g' (k * 32) (by first | rfl | (simp [Act.eval]; omega)) (bitsV (pk)) _ (fun w' ⟨m, hw'⟩ => hw' ▸ range_below m.below (Hrk.out) gglt) Tryd.underlying108 rfl (infoBitsL _ (length_bitsV _)) ?_
      simp only [Act.put, List.setIfInBounds_toArray, List.set_cons_succ, List.set_cons_zero]
      go_big_quiet_step ((go_at_call 74; exact Calls.quiet_r hR (plus_any _ _ _)))
      refine wpQuiet_nil ?_
      refine ⟨?_, ?_⟩
      · simp only [obF, Nat.reduceAdd]
        exact ⟨⟨fun a' w' _ _ => run_alloc_op 108 rfl Z hzv w', .inl trivial⟩, trivial⟩
      intro γ w1 hf
      clear hR hne R
      simp only [putF, Nat.reduceAdd, Act.put, List.setIfInBounds_toArray, List.set_cons_succ, List.set_cons_zero]
      obtain ⟨gna, hn⟩ := hf.block 20 rfl
      have hb1 := hf.below
      clear hf
      generalize γ 20 = G9 at *
      refine wpList_store_row rfl 108 (.tmp 9) (.tmp 48) rfl G9 (bitsV (v.h + trn v.e 6 11 25 + ch v.e v.f v.g + consts.getD k 0 + pk)).toArray rfl rfl 108 Z.toArray hn (infoBitsL _ (by simp [length_bitsV])) (by simp [hZ32, length_bitsV]) (all_oneCell_toArray (one_bitsC _)) ?_
      simp only [Act.put]
      have sn := set1_setRow (cells := (bitsV (v.h + trn v.e 6 11 25 + ch v.e v.f v.g + consts.getD k 0 + pk)).toArray) hn
      generalize w1.setRow G9 (bitsV (v.h + trn v.e 6 11 25 + ch v.e v.f v.g + consts.getD k 0 + pk)).toArray = w3 at *
      have hn' := sn.new
      have hbn := sn.below hb1 gna
      clear hn sn hb1 gna
      have lG9 := lt_block hn'
      have HG9 := Lib.hid hn'
      clear hn'
      have hv' := (hbn.block G Glt).trans HV.out
      have hrk' := range_below hbn Hrk.out gglt
      have hbw : Below wr.heap.size wr w3 := Hbw.out.trans (hbn.mono Hbw.out.size)
      have Glt' := Nat.lt_of_lt_of_le Glt hbn.size
      have gglt' := Nat.lt_of_lt_of_le gglt hbn.size
      clear HV Hrk Glt gglt Hbw
      have HV := Lib.hid hv'
      have Hrk := Lib.hid hrk'
      have Hbw := Lib.hid hbw
      have Glt := Glt'
      have gglt := gglt'
      clear hv' hrk' hbw Glt' gglt'
      clear hbn HG8 lG8
      go_wp2_with fail
      refine wp_region_fresh 11 [.calm, .calm, .calm, .calm, .calm, .calm, .calm, .calm, .calm, .calm, .fresh] (fun _ => .cells Z.toArray 108) (fun _ => .cells Z.toArray 108) (fun _ G => .pointer (some ⟨G, 0, none⟩)) (by kernel_rfl) (by kernel_rfl) (by kernel_rfl) ?_
      intro R hR
      have hne := hR.nonempty
      simp only [List.take_succ_cons, List.take_zero, List.drop_succ_cons, List.drop_zero, calmL]
      iterate 1 (go_big_quiet_step (fail))
      refine wpQuiet_load_mid rfl 108 (.tmp 49) rfl G 0 rfl (bitsV (v.a)) _ (fun w' ⟨m, hw'⟩ => hw' ▸ range_below m.below (row8_range HV.out 0 (by decide)) Glt) Tryd.underlying108 rfl (infoBitsL _ (length_bitsV _)) ?_
      simp only [Act.put, List.setIfInBounds_toArray, List.set_cons_succ, List.set_cons_zero]
      go_big_quiet_step ((go_at_call 73; exact Calls.quiet_r hR (right_any (v.a) 2 true _ (by decide) (by decide))))
      iterate 1 (go_big_quiet_step (fail))
      refine wpQuiet_load_mid rfl 108 (.tmp 52) rfl G 0 rfl (bitsV (v.a)) _ (fun w' ⟨m, hw'⟩ => hw' ▸ range_below m.below (row8_range HV.out 0 (by decide)) Glt) Tryd.underlying108 rfl (infoBitsL _ (length_bitsV _)) ?_
      simp only [Act.put, List.setIfInBounds_toArray, List.set_cons_succ, List.set_cons_zero]
      go_big_quiet_step ((go_at_call 73; exact Calls.quiet_r hR (right_any (v.a) 13 true _ (by decide) (by decide))))
      iterate 1 (go_big_quiet_step (fail))
      refine wpQuiet_load_mid rfl 108 (.tmp 55) rfl G 0 rfl (bitsV (v.a)) _ (fun w' ⟨m, hw'⟩ => hw' ▸ range_below m.below (row8_range HV.out 0 (by decide)) Glt) Tryd.underlying108 rfl (infoBitsL _ (length_bitsV _)) ?_
      simp only [Act.put, List.setIfInBounds_toArray, List.set_cons_succ, List.set_cons_zero]
      go_big_quiet_step ((go_at_call 73; exact Calls.quiet_r hR (right_any (v.a) 22 true _ (by decide) (by decide))))
      go_big_quiet_step ((go_at_call 72; exact Calls.quiet_r hR (odd_any _ _ _ _)))
      refine wpQuiet_nil ?_
      refine ⟨?_, ?_⟩
      · simp only [obF, Nat.reduceAdd]
        exact ⟨⟨fun a' w' _ _ => run_alloc_op 108 rfl Z hzv w', .inl trivial⟩, trivial⟩
      intro γ w1 hf
      clear hR hne R
      simp only [putF, Nat.reduceAdd, Act.put, List.setIfInBounds_toArray, List.set_cons_succ, List.set_cons_zero]
      obtain ⟨gna, hn⟩ := hf.block 10 rfl
      have hb1 := hf.below
      clear hf
      generalize γ 10 = G10 at *
      refine wpList_store_row rfl 108 (.tmp 10) (.tmp 58) rfl G10 (bitsV (trn v.a 2 13 22)).toArray rfl rfl 108 Z.toArray hn (infoBitsL _ (by simp [length_bitsV])) (by simp [hZ32, length_bitsV]) (all_oneCell_toArray (one_bitsC _)) ?_
      simp only [Act.put]
      have sn := set1_setRow (cells := (bitsV (trn v.a 2 13 22)).toArray) hn
      generalize w1.setRow G10 (bitsV (trn v.a 2 13 22)).toArray = w4 at *
      have hn' := sn.new
      have hbn := sn.below hb1 gna
      have ge10 : wr.heap.size ≤ G10 := Nat.le_trans Hbw.out.size gna
      have ne9 : G9 ≠ G10 := by omega
      clear hn sn hb1 gna
      have lG10 := lt_block hn'
      have HG10 := Lib.hid hn'
      clear hn'
      have hG9' := (hbn.block G9 lG9).trans HG9.out
      have lG9' := Nat.lt_of_lt_of_le lG9 hbn.size
      clear HG9 lG9
      have HG9 := Lib.hid hG9'
      have lG9 := lG9'
      clear hG9' lG9'
      have hv' := (hbn.block G Glt).trans HV.out
      have hrk' := range_below hbn Hrk.out gglt
      have hbw : Below wr.heap.size wr w4 := Hbw.out.trans (hbn.mono Hbw.out.size)
      have Glt' := Nat.lt_of_lt_of_le Glt hbn.size
      have gglt' := Nat.lt_of_lt_of_le gglt hbn.size
      clear HV Hrk Glt gglt Hbw
      have HV := Lib.hid hv'
      have Hrk := Lib.hid hrk'
      have Hbw := Lib.hid hbw
      have Glt := Glt'
      have gglt := gglt'
      clear hv' hrk' hbw Glt' gglt'
      clear hbn
      go_wp2_with fail
      refine wp_region_fresh 9 [.calm, .calm, .calm, .calm, .calm, .calm, .calm, .calm, .calm] (fun _ => .cells Z.toArray 108) (fun _ => .cells Z.toArray 108) (fun _ G => .pointer (some ⟨G, 0, none⟩)) (by kernel_rfl) (by kernel_rfl) (by kernel_rfl) ?_
      intro R hR
      have hne := hR.nonempty
      simp only [List.take_succ_cons, List.take_zero, List.drop_succ_cons, List.drop_zero, calmL]
      refine wpQuiet_load_mid rfl 108 (.tmp 10) rfl G10 0 rfl (bitsV (trn v.a 2 13 22)) _ (fun w' ⟨m, hw'⟩ => hw' ▸ range_below m.below (range_block HG10.out) lG10) Tryd.underlying108 rfl (infoBitsL _ (length_bitsV _)) ?_
      simp only [Act.put, List.setIfInBounds_toArray, List.set_cons_succ, List.set_cons_zero]
      iterate 1 (go_big_quiet_step (fail))
      refine wpQuiet_load_mid rfl 108 (.tmp 60) rfl G 0 rfl (bitsV (v.a)) _ (fun w' ⟨m, hw'⟩ => hw' ▸ range_below m.below (row8_range HV.out 0 (by decide)) Glt) Tryd.underlying108 rfl (infoBitsL _ (length_bitsV _)) ?_
      simp only [Act.put, List.setIfInBounds_toArray, List.set_cons_succ, List.set_cons_zero]
      iterate 1 (go_big_quiet_step (fail))
      refine wpQuiet_load_mid rfl 108 (.tmp 62) rfl G 32 rfl (bitsV (v.b)) _ (fun w' ⟨m, hw'⟩ => hw' ▸ range_below m.below (row8_range HV.out 1 (by decide)) Glt) Tryd.underlying108 rfl (infoBitsL _ (length_bitsV _)) ?_
      simp only [Act.put, List.setIfInBounds_toArray, List.set_cons_succ, List.set_cons_zero]
      iterate 1 (go_big_quiet_step (fail))
      refine wpQuiet_load_mid rfl 108 (.tmp 64) rfl G 64 rfl (bitsV (v.c)) _ (fun w' ⟨m, hw'⟩ => hw' ▸ range_below m.below (row8_range HV.out 2 (by decide)) Glt) Tryd.underlying108 rfl (infoBitsL _ (length_bitsV _)) ?_
      simp only [Act.put, List.setIfInBounds_toArray, List.set_cons_succ, List.set_cons_zero]
      go_big_quiet_step ((go_at_call 76; exact Calls.quiet_r hR (mostW _ _ _ _)))
      go_big_quiet_step ((go_at_call 74; exact Calls.quiet_r hR (plus_any _ _ _)))
      refine wpQuiet_nil ?_
      refine ⟨by simp only [obF], ?_⟩
      intro γ w1 hf
      clear hR hne R
      simp only [putF]
      have hb1 := hf.below
      clear hf
      have h10 := (hb1.block G10 lG10).trans HG10.out
      refine wpList_store_row rfl 108 (.tmp 10) (.tmp 67) rfl G10 (bitsV (trn v.a 2 13 22 + maj v.a v.b v.c)).toArray rfl rfl 108 _ h10 (infoBitsL _ (by simp [length_bitsV])) (by simp [length_bitsV]) (all_oneCell_toArray (one_bitsC _)) ?_
      simp only [Act.put]
      have sn := set1_setRow (cells := (bitsV (trn v.a 2 13 22 + maj v.a v.b v.c)).toArray) h10
      generalize w1.setRow G10 (bitsV (trn v.a 2 13 22 + maj v.a v.b v.c)).toArray = w5 at *
      have hn' := sn.new
      have hbw : Below wr.heap.size wr w5 := sn.below (Hbw.out.trans (hb1.mono Hbw.out.size)) ge10
      have hv' : w5.heap[G]? = some (.cells (rowC v.list).toArray 109 (0, 0)) := by rw [sn.old _ (by have := Hr.out.vb; have := lt_block this; omega), hb1.block _ Glt]; exact HV.out
      have h9' : w5.heap[G9]? = some (.cells (bitsV (v.h + trn v.e 6 11 25 + ch v.e v.f v.g + consts.getD k 0 + pk)).toArray 108 (0, 0)) := by rw [sn.old _ ne9, hb1.block _ lG9]; exact HG9.out
      clear h10 sn hb1 HV Hbw HG9 HG10 Glt lG9 lG10 Hrk
      have Glt := lt_block hv'
      have lG9 := lt_block h9'
      have lG10 := lt_block hn'
      have HV := Lib.hid hv'
      have HG9 := Lib.hid h9'
      have HG10 := Lib.hid hn'
      have Hbw := Lib.hid hbw
      clear hv' h9' hn' hbw
      go_wp2_with fail
      refine wp_region_fresh 20 [.calm, .calm, .calm, .calm, .calm, .calm, .calm, .calm, .calm, .calm, .calm, .calm, .calm, .calm, .calm, .calm, .calm, .calm, .calm, .calm] (fun _ => .cells Z.toArray 108) (fun _ => .cells Z.toArray 108) (fun _ G => .pointer (some ⟨G, 0, none⟩)) (by kernel_rfl) (by kernel_rfl) (by kernel_rfl) ?_
      intro R hR
      have hne := hR.nonempty
      simp only [List.take_succ_cons, List.take_zero, List.drop_succ_cons, List.drop_zero, calmL]
      refine wpQuiet_load_mid rfl 108 (.tmp 9) rfl G9 0 rfl (bitsV (v.h + trn v.e 6 11 25 + ch v.e v.f v.g + consts.getD k 0 + pk)) _ (fun w' ⟨m, hw'⟩ => hw' ▸ range_below m.below (range_block HG9.out) lG9) Tryd.underlying108 rfl (infoBitsL _ (length_bitsV _)) ?_
      simp only [Act.put, List.setIfInBounds_toArray, List.set_cons_succ, List.set_cons_zero]
      refine wpQuiet_load_mid rfl 108 (.tmp 10) rfl G10 0 rfl (bitsV (trn v.a 2 13 22 + maj v.a v.b v.c)) _ (fun w' ⟨m, hw'⟩ => hw' ▸ range_below m.below (range_block HG10.out) lG10) Tryd.underlying108 rfl (infoBitsL _ (length_bitsV _)) ?_
      simp only [Act.put, List.setIfInBounds_toArray, List.set_cons_succ, List.set_cons_zero]
      go_big_quiet_step ((go_at_call 74; exact Calls.quiet_r hR (plus_any _ _ _)))
      iterate 1 (go_big_quiet_step (fail))
      refine wpQuiet_load_mid rfl 108 (.tmp 71) rfl G 0 rfl (bitsV (v.a)) _ (fun w' ⟨m, hw'⟩ => hw' ▸ range_below m.below (row8_range HV.out 0 (by decide)) Glt) Tryd.underlying108 rfl (infoBitsL _ (length_bitsV _)) ?_
      simp only [Act.put, List.setIfInBounds_toArray, List.set_cons_succ, List.set_cons_zero]
      iterate 1 (go_big_quiet_step (fail))
      refine wpQuiet_load_mid rfl 108 (.tmp 73) rfl G 32 rfl (bitsV (v.b)) _ (fun w' ⟨m, hw'⟩ => hw' ▸ range_below m.below (row8_range HV.out 1 (by decide)) Glt) Tryd.underlying108 rfl (infoBitsL _ (length_bitsV _)) ?_
      simp only [Act.put, List.setIfInBounds_toArray, List.set_cons_succ, List.set_cons_zero]
      iterate 1 (go_big_quiet_step (fail))
      refine wpQuiet_load_mid rfl 108 (.tmp 75) rfl G 64 rfl (bitsV (v.c)) _ (fun w' ⟨m, hw'⟩ => hw' ▸ range_below m.below (row8_range HV.out 2 (by decide)) Glt) Tryd.underlying108 rfl (infoBitsL _ (length_bitsV _)) ?_
      simp only [Act.put, List.setIfInBounds_toArray, List.set_cons_succ, List.set_cons_zero]
      iterate 1 (go_big_quiet_step (fail))
      refine wpQuiet_load_mid rfl 108 (.tmp 77) rfl G 96 rfl (bitsV (v.d)) _ (fun w' ⟨m, hw'⟩ => hw' ▸ range_below m.below (row8_range HV.out 3 (by decide)) Glt) Tryd.underlying108 rfl (infoBitsL _ (length_bitsV _)) ?_
      simp only [Act.put, List.setIfInBounds_toArray, List.set_cons_succ, List.set_cons_zero]
      refine wpQuiet_load_mid rfl 108 (.tmp 9) rfl G9 0 rfl (bitsV (v.h + trn v.e 6 11 25 + ch v.e v.f v.g + consts.getD k 0 + pk)) _ (fun w' ⟨m, hw'⟩ => hw' ▸ range_below m.below (range_block HG9.out) lG9) Tryd.underlying108 rfl (infoBitsL _ (length_bitsV _)) ?_
      simp only [Act.put, List.setIfInBounds_toArray, List.set_cons_succ, List.set_cons_zero]
      go_big_quiet_step ((go_at_call 74; exact Calls.quiet_r hR (plus_any _ _ _)))
      iterate 1 (go_big_quiet_step (fail))
      refine wpQuiet_load_mid rfl 108 (.tmp 81) rfl G 128 rfl (bitsV (v.e)) _ (fun w' ⟨m, hw'⟩ => hw' ▸ range_below m.below (row8_range HV.out 4 (by decide)) Glt) Tryd.underlying108 rfl (infoBitsL _ (length_bitsV _)) ?_
      simp only [Act.put, List.setIfInBounds_toArray, List.set_cons_succ, List.set_cons_zero]
      iterate 1 (go_big_quiet_step (fail))
      refine wpQuiet_load_mid rfl 108 (.tmp 83) rfl G 160 rfl (bitsV (v.f)) _ (fun w' ⟨m, hw'⟩ => hw' ▸ range_below m.below (row8_range HV.out 5 (by decide)) Glt) Tryd.underlying108 rfl (infoBitsL _ (length_bitsV _)) ?_
      simp only [Act.put, List.setIfInBounds_toArray, List.set_cons_succ, List.set_cons_zero]
      iterate 1 (go_big_quiet_step (fail))
      refine wpQuiet_load_mid rfl 108 (.tmp 85) rfl G 192 rfl (bitsV (v.g)) _ (fun w' ⟨m, hw'⟩ => hw' ▸ range_below m.below (row8_range HV.out 6 (by decide)) Glt) Tryd.underlying108 rfl (infoBitsL _ (length_bitsV _)) ?_
      simp only [Act.put, List.setIfInBounds_toArray, List.set_cons_succ, List.set_cons_zero]
      have hbl : Tryd.prog.built 109 [(0, BV (v.h + trn v.e 6 11 25 + ch v.e v.f v.g + consts.getD k 0 + pk + (trn v.a 2 13 22 + maj v.a v.b v.c))), (1, BV v.a), (2, BV v.b), (3, BV v.c), (4, BV (v.d + (v.h + trn v.e 6 11 25 + ch v.e v.f v.g + consts.getD k 0 + pk))), (5, BV v.e), (6, BV v.f), (7, BV v.g)] = some (rowC (rnd v (consts.getD k 0) pk).list).toArray := built8 (v.h + trn v.e 6 11 25 + ch v.e v.f v.g + consts.getD k 0 + pk + (trn v.a 2 13 22 + maj v.a v.b v.c)) v.a v.b v.c (v.d + (v.h + trn v.e 6 11 25 + ch v.e v.f v.g + consts.getD k 0 + pk)) v.e v.f v.g
      refine wpQuiet_of_op rfl (.agg (rowC (rnd v (consts.getD k 0) pk).list).toArray) (fun w' _ => run_build_op 109 _ rfl [(0, BV (v.h + trn v.e 6 11 25 + ch v.e v.f v.g + consts.getD k 0 + pk + (trn v.a 2 13 22 + maj v.a v.b v.c))), (1, BV v.a), (2, BV v.b), (3, BV v.c), (4, BV (v.d + (v.h + trn v.e 6 11 25 + ch v.e v.f v.g + consts.getD k 0 + pk))), (5, BV v.e), (6, BV v.f), (7, BV v.g)] (by kernel_rfl) _ hbl w') ?_
      clear hbl
      simp only [Act.put, List.setIfInBounds_toArray, List.set_cons_succ, List.set_cons_zero]
      refine wpQuiet_nil ?_
      refine ⟨by simp only [obF], ?_⟩
      intro γ w1 hf
      clear hR hne R
      simp only [putF]
      have hb1 := hf.below
      clear hf
      have h6 := (hb1.block G Glt).trans HV.out
      refine wpList_store_row rfl 109 (.tmp 6) (.tmp 87) rfl G (rowC (rnd v (consts.getD k 0) pk).list).toArray rfl rfl 109 _ h6 (infoRow _ (by simp [length_row8])) (by simp [length_row8]) (all_oneCell_toArray (one_rowC _)) ?_
      simp only [Act.put]
      have sn := set1_setRow (cells := (rowC (rnd v (consts.getD k 0) pk).list).toArray) h6
      have hnext := Hr.out.next (Hbw.out.trans (hb1.mono Hbw.out.size)) sn hG hgG
      generalize w1.setRow G (rowC (rnd v (consts.getD k 0) pk).list).toArray = w6 at *
      rw [← Hvk.out] at hnext
      have Hnext := Lib.hid hnext
      clear hnext sn h6 hb1 HV HG9 HG10 Hbw Glt lG9 lG10 gglt ge10 ne9
      go_wp2_with fail
      go_roundw
      case rel => exact ⟨k + 1, by omega, by go_num, Hnext.out⟩
      case measure => simp [intOf]; omega
    · have hd : decide ((k : Int) < 64) = false := by simp; omega
      have hk64 : k = 64 := by omega
      rw [hk64] at hr
      have H0 : HRel w G s (rnds s (plan p.l 64) 64) 0 wr := ⟨hr.hb, hr.res, hr.vb, hr.below⟩
      have hmix : mixW s p.l = s.plus (rnds s (plan p.l 64) 64) := rfl
      have Hmix := Lib.hid hmix
      generalize rnds s (plan p.l 64) 64 = v at *
      clear hr hlt hk hk64 hmix
      go_wp2_with fail
      go_loopw [11] (fun i wr => ∃ j : Nat, j ≤ 8 ∧ i = .int .i64 j ∧ HRel w G s v j wr) (fun i _ => 8 - (intOf i).toNat)
      case atStart => exact ⟨0, by omega, rfl, H0⟩
      case round =>
        clear H0 hd
        obtain ⟨j, hj, rfl, hr⟩ := hrel
        by_cases hlt : j < 8
        · have hd : decide ((j : Int) < 8) = true := by simp; omega
          have hp0 : (0 : Int) ≤ (j : Int) := by omega
          have hnj : ((j : Int)).toNat = j := by omega
          have hj8 : (j : Int) < 8 := by omega
          have hrh := row_range hr.hb j (by rw [length_hm s v j (by omega)]; exact hlt)
          rw [hm_get s v j hlt] at hrh
          have hrv := row8_range hr.vb j hlt
          have hset := hm_set s v j hlt
          have Nlt : w.heap.size < wr.heap.size := lt_block hr.hb
          have Glt : G < wr.heap.size := lt_block hr.vb
          rw [Nat.mul_comm 32 j] at hrh hrv
          have Hr := Lib.hid hr
          have Hset := Lib.hid hset
          generalize s.list.getD j 0 = sj at *
          generalize v.list.getD j 0 = vj at *
          have Hrh := Lib.hid hrh
          have Hrv := Lib.hid hrv
          clear hr hset hrh hrv
          go_wp2_with fail
          refine wp_region_fresh 9 [.calm, .calm, .calm, .calm, .calm, .calm, .calm, .calm, .calm] (fun _ => .cells Z.toArray 108) (fun _ => .cells Z.toArray 108) (fun _ G => .pointer (some ⟨G, 0, none⟩)) (by kernel_rfl) (by kernel_rfl) (by kernel_rfl) ?_
          intro R hR
          have hne := hR.nonempty
          simp only [List.take_succ_cons, List.take_zero, List.drop_succ_cons, List.drop_zero, calmL]
          iterate 3 (go_big_quiet_step (fail))
          refine wpQuiet_load_mid rfl 108 (.tmp 94) rfl w.heap.size (j * 32) (by first | rfl | (simp [Act.eval]; omega)) (bitsV (sj)) _ (fun w' ⟨m, hw'⟩ => hw' ▸ range_below m.below (Hrh.out) Nlt) Tryd.underlying108 rfl (infoBitsL _ (length_bitsV _)) ?_
          simp only [Act.put, List.setIfInBounds_toArray, List.set_cons_succ, List.set_cons_zero]
          iterate 2 (go_big_quiet_step (fail))
          refine wpQuiet_load_mid rfl 108 (.tmp 97) rfl G (j * 32) (by first | rfl | (simp [Act.eval]; omega)) (bitsV (vj)) _ (fun w' ⟨m, hw'⟩ => hw' ▸ range_below m.below (Hrv.out) Glt) Tryd.underlying108 rfl (infoBitsL _ (length_bitsV _)) ?_
          simp only [Act.put, List.setIfInBounds_toArray, List.set_cons_succ, List.set_cons_zero]
          go_big_quiet_step ((go_at_call 74; exact Calls.quiet_r hR (plus_any _ _ _)))
          iterate 1 (go_big_quiet_step (fail))
          refine wpQuiet_nil ?_
          refine ⟨by simp only [obF], ?_⟩
          intro γ w1 hf
          clear hR hne R
          simp only [putF]
          have hb1 := hf.below
          clear hf
          have h2 := (hb1.block w.heap.size Nlt).trans Hr.out.hb
          have hlen := length_rowC (hm s v j)
          rw [length_hm s v j (by omega)] at hlen
          refine wpList_store_mid rfl 108 (.tmp 100) (.tmp 99) rfl w.heap.size (j * 32) (bitsV (sj + vj)).toArray (by first | rfl | (simp [Act.eval]; omega)) rfl (there_block h2 _ _ (by simp [length_bitsV]; omega)) (infoBitsL _ (by simp [length_bitsV])) (all_oneCell_toArray (one_bitsC _)) ?_
          simp only [Act.put]
          have hb2 := heap_setCells w.heap.size 109 (bitsV (sj + vj)) (j * 32) _ w1 h2 (by rw [length_bitsV]; omega)
          rw [Nat.mul_comm j 32, over_row _ j (by rw [length_hm s v j (by omega)]; exact hlt), Hset.out, Nat.mul_comm 32 j] at hb2
          have hk1 : Kept1 w.heap.size wr (w1.setCells w.heap.size (j * 32) (bitsV (sj + vj))) := Kept1.setCells _ (Or.inl rfl) _ _ (Kept1.of_below hb1)
          have hnext : HRel w G s v (j + 1) (w1.setCells w.heap.size (j * 32) (bitsV (sj + vj))) := by
            refine ⟨hb2, ?_, ?_, ?_⟩
            · rw [hk1.block _ (lt_block Hr.out.res) (by omega)]; exact Hr.out.res
            · rw [hk1.block _ Glt (by omega)]; exact Hr.out.vb
            · exact Kept1.mono Hr.out.below hk1 (Nat.le_refl _)
          generalize w1.setCells w.heap.size (j * 32) (bitsV (sj + vj)) = w6 at *
          have Hnext := Lib.hid hnext
          clear hnext hk1 hb2 hlen h2 hb1 Hrh Hrv Hr
          go_wp2_with fail
          go_roundw
          case rel => exact ⟨j + 1, by omega, by go_num, Hnext.out⟩
          case measure => simp [intOf]; omega
        · have hd : decide ((j : Int) < 8) = false := by simp; omega
          have hj8 : j = 8 := by omega
          rw [hj8] at hr
          have hb := hr.hb
          have hres := hr.res
          have hbe := hr.below
          rw [hm_end, ← Hmix.out] at hb
          have hlen := length_row8 (mixW s p.l)
          have hone := one_rowC (mixW s p.l).list
          rw [HZZ.out] at hres
          generalize hL1 : rowC (mixW s p.l).list = L1 at *
          have HL1 := Lib.hid hL1
          clear hL1
          have Hb := Lib.hid hb
          have Hres := Lib.hid hres
          have Hbe := Lib.hid hbe
          have Hone := Lib.hid hone
          clear hr hj8 hlt hb hres hbe hone hj
          go_wp2_with (first
            | (refine wpList_load_mid rfl 109 (.tmp 2) rfl w.heap.size 0 rfl L1 _ (range_block Hb.out) Tryd.underlying109 rfl (infoRow _ hlen) ?_)
            | (refine wpList_store_row rfl 109 (.tmp 4) (.tmp 101) rfl (w.heap.size + 1) L1.toArray rfl rfl 109 Z8.toArray Hres.out (infoRow _ (by simp [hlen])) (by simp [hlen, hZ8]) (all_oneCell_toArray Hone.out) ?_))
          have sn := set1_setRow (cells := L1.toArray) Hres.out
          have hbel : Below w.heap.size w (wr.setRow (w.heap.size + 1) L1.toArray) := sn.below Hbe.out (by omega)
          exact bodyPost_ret (v := .agg L1.toArray) (results_cell_row Tryd.results54 _ _ (w.heap.size + 1) 109 L1.toArray (0, 0) _ rfl sn.new Tryd.underlying109 rfl (infoRow _ (by simp [hlen]))) rfl ⟨by rw [HL1.out], hbel⟩
end Go.Proofs.YtlhfdlfbnnfjjaaDoor
