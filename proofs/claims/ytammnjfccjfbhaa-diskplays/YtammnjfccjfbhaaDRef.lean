/- The document's disk in memory; its small calls. -/
import Derived.Test.YtammnjfccjfbhaaDRel
import Derived.Test.YtammnjfccjfbhaaDSec
namespace Go.Proofs.Ytammnjfccjfbhaa
open Go.RowKit

/-- a slice of bytes that lie in this world -/
def BSrc (w : World) (v : Value) (l : List UInt8) : Prop :=
  (∃ ad cp, v = .slice ad 0 cp ∧ l = []) ∨ ∃ (g o cp : Nat), v = .slice (some ⟨g, o, none⟩) l.length cp ∧ ∀ j (hj : j < l.length), w.cell? ⟨g, o + j, none⟩ = some (.int .u8 (l[j].toNat : Int))
theorem BSrc.below {w w' : World} {v : Value} {l : List UInt8} (h : BSrc w v l) (hb : Below w.heap.size w w') : BSrc w' v l := by
  rcases h with h | ⟨g, o, cp, e, hc⟩
  · exact .inl h
  · exact .inr ⟨g, o, cp, e, fun j hj => (hb.cell (block_lt_of_cell (hc j hj))).trans (hc j hj)⟩
theorem conv_bytes {w : World} {v : Value} {l : List UInt8} (h : BSrc w v l) : (convert 30 9 v).run Try.prog w = .ok (.string ⟨l.toArray⟩) w := by
  rcases h with ⟨ad, cp, rfl, rfl⟩ | ⟨g, o, cp, rfl, hc⟩
  · rw [run_convert_bytes_string w 30 9 5 _ 0 cp Try.underlying30 Try.underlying5 Try.underlying9]
    cases ad <;> simp [Conv.bytesToString]
    all_goals rfl
  · exact run_convert_bytes_back (P := Try.prog) w 30 9 5 ⟨g, o, none⟩ cp l Try.underlying30 Try.underlying5 Try.underlying9 (fun j hj => by rw [Addr.add_mid]; exact hc j hj)
theorem bsrc_block {w : World} {g : Nat} {t : TypeId} {fr : Nat × Nat} {l : List UInt8} (h : w.heap[g]? = some (.cells (l.map B).toArray t fr)) (cp : Nat) : BSrc w (.slice (some ⟨g, 0, none⟩) l.length cp) l :=
  .inr ⟨g, 0, cp, rfl, fun j hj => by rw [cell_block h, Nat.zero_add, List.getElem?_toArray, List.getElem?_map, List.getElem?_eq_getElem hj]; rfl⟩

def RSt.cells (t : RSt) (rv : Value) : List Value := [.int .i64 (t.n : Int), rv, .int .i64 t.fuse]
def footR (d : Nat) (v : Value) (k : Nat) : Prop := k = d ∨ v.ownBlock = some k
/-- the document's disk lies in block d, all of it from N on -/
structure RAt (w : World) (N d : Nat) (v : Value) (t : RSt) : Prop where
  blk : w.heap[d]? = some (.cells (t.cells v).toArray 46 (0, 0))
  row : w.ownsRow N 71 3 v t.L.length (cellsR t.L)
  nd : v.ownBlock ≠ some d
  dN : N ≤ d
theorem RAt.footN {w : World} {N d : Nat} {v : Value} {t : RSt} (h : RAt w N d v t) {k : Nat} (hk : footR d v k) : N ≤ k ∧ k < w.heap.size := by
  rcases hk with rfl | hk
  · exact ⟨h.dN, lt_block h.blk⟩
  · exact h.row.lt k hk
theorem RAt.same {w w' : World} {N d : Nat} {v : Value} {t : RSt} (h : RAt w N d v t) (hk : ∀ k, footR d v k → w'.heap[k]? = w.heap[k]?) : RAt w' N d v t :=
  ⟨(hk _ (.inl rfl)).trans h.blk, own_same h.row fun g hg => hk g (.inr hg), h.nd, h.dN⟩
theorem RAt.below {w w' : World} {N d : Nat} {v : Value} {t : RSt} (h : RAt w N d v t) (hb : Below w.heap.size w w') : RAt w' N d v t := h.same fun k hk => hb.block k (h.footN hk).2
theorem RAt.kept {F : Nat → Prop} {w w' : World} {N d : Nat} {v : Value} {t : RSt} (h : RAt w N d v t) (hk : KeptF F w w') (hF : ∀ k, footR d v k → ¬ F k) : RAt w' N d v t :=
  h.same fun k hf => hk.block k (h.footN hf).2 (hF k hf)
theorem RAt.cell {w : World} {N d : Nat} {v : Value} {t : RSt} (h : RAt w N d v t) :
    w.cell? ⟨d, 0, none⟩ = some (.int .i64 (t.n : Int)) ∧ w.cell? ⟨d, 1, none⟩ = some v ∧ w.cell? ⟨d, 2, none⟩ = some (.int .i64 t.fuse) :=
  ⟨by rw [cell_block h.blk]; rfl, by rw [cell_block h.blk]; rfl, by rw [cell_block h.blk]; rfl⟩
theorem RAt.frozen {w : World} {N d : Nat} {v : Value} {t : RSt} (h : RAt w N d v t) (k : Nat) : w.frozen? ⟨d, k, none⟩ = false := frozen_of_row w d k _ _ h.blk
theorem RAt.slice {w : World} {N d : Nat} {v : Value} {t : RSt} (h : RAt w N d v t) : ∃ ad cp, v = .slice ad t.L.length cp := by
  rcases h.row.2 with ⟨rfl, hn⟩ | ⟨g, cap, cur, rfl, _⟩
  · exact ⟨none, 0, by rw [hn]⟩
  · exact ⟨_, _, rfl⟩
/-- one write's cells -/
theorem RAt.entry {w : World} {N d : Nat} {ad : Option Addr} {cp : Nat} {t : RSt} (h : RAt w N d (.slice ad t.L.length cp) t) (hne : t.L ≠ []) : ∃ g, ad = some ⟨g, 0, none⟩ ∧ ∀ i, (hi : i < t.L.length) →
    w.cell? ⟨g, i * 3, none⟩ = some (.int .i64 (t.L[i]).at') ∧ w.cell? ⟨g, i * 3 + 1, none⟩ = some (.string ⟨(t.L[i]).b.toArray⟩) ∧ w.cell? ⟨g, i * 3 + 2, none⟩ = some (.bool (t.L[i]).done) := by
  rcases h.row.2 with ⟨_, hn⟩ | ⟨g, cap, cur, e, _⟩
  · exact absurd (List.eq_nil_of_length_eq_zero hn) hne
  · injection e with e1 e2 e3
    subst e1 e3
    refine ⟨g, rfl, fun i hi => ?_⟩
    have key : ∀ j, j < 3 → w.cell? ⟨g, i * 3 + j, none⟩ = (t.L[i]).cells[j]? := fun j hj => by
      rw [h.row.cellAt (i * 3 + j) (by have := Nat.mul_le_mul_right 3 (Nat.succ_le_of_lt hi); omega)]
      unfold cellsR
      rw [get_flat (wide_R _) i (by simpa using hi) j hj]
      simp
    exact ⟨key 0 (by omega), key 1 (by omega), key 2 (by omega)⟩

theorem refnew_any (w : World) (n : Int) : Calls Try.prog 11 #[.int .i64 n] w fun e w' => e = .returned (.pointer (some ⟨w.heap.size, 0, none⟩)) ∧
    RAt w' w.heap.size w.heap.size (.slice none 0 0) ⟨secN n, [], -1⟩ ∧ Below w.heap.size w w' ∧ w'.heap.size = w.heap.size + 1 := by
  have hn1 : n < 0 → (0 : Int) = (secN n : Int) := fun _ => by unfold secN; omega
  have hn2 : 0 ≤ n → n ≤ 8192 → n = (secN n : Int) := fun _ _ => by unfold secN; omega
  have hn3 : 8192 < n → (8192 : Int) = (secN n : Int) := fun _ => by unfold secN; omega
  have key : ∀ m : Int, m = (secN n : Int) → RAt (w.alloc (.cells #[.int .i64 m, .slice none 0 0, .int .i64 (-1)] 46)) w.heap.size w.heap.size (.slice none 0 0) ⟨secN n, [], -1⟩ := fun m hm => by
    subst hm
    exact ⟨heap_alloc_new _ _, World.ownsRow_nil _ _ _ _, (fun e => by cases e), Nat.le_refl _⟩
  have Key := Lib.hid key
  have H1 := Lib.hid hn1
  have H2 := Lib.hid hn2
  have H3 := Lib.hid hn3
  clear key hn1 hn2 hn3
  rcases (by omega : n < 0 ∨ (0 ≤ n ∧ n ≤ 8192) ∨ 8192 < n) with hc | ⟨hc, hc2⟩ | hc
  · have d1 : decide (8192 < n) = false := by simp; omega
    go_enter Try.func11, Try.ntmps11
    go_wp2_with fail
    go_ret
    exact ⟨rfl, Key.out _ (H1.out hc), (Below.refl _ _).alloc (Nat.le_refl _) _, by simp⟩
  · have d1 : decide (n < 0) = false := by simpa using hc
    have d2 : decide (8192 < n) = false := by simpa using hc2
    go_enter Try.func11, Try.ntmps11
    go_wp2_with fail
    go_ret
    exact ⟨rfl, Key.out _ (H2.out hc hc2), (Below.refl _ _).alloc (Nat.le_refl _) _, by simp⟩
  · have d1 : decide (n < 0) = false := by simp; omega
    go_enter Try.func11, Try.ntmps11
    go_wp2_with fail
    go_ret
    exact ⟨rfl, Key.out _ (H3.out hc), (Below.refl _ _).alloc (Nat.le_refl _) _, by simp⟩

set_option maxHeartbeats 1000000 in
theorem refwaits_any (w : World) (N d : Nat) (v : Value) (t : RSt) (h : RAt w N d v t) (hl : t.L.length ≤ 100000) :
    Calls Try.prog 19 #[.pointer (some ⟨d, 0, none⟩)] w fun e w' => e = .returned (.int .i64 (waitN t.L : Int)) ∧ w = w' := by
  obtain ⟨ad, cp, rfl⟩ := h.slice
  obtain ⟨-, c1, -⟩ := h.cell
  have H := Lib.hid h
  clear h
  go_enter Try.func19, Try.ntmps19
  go_wp2_with fail
  go_loop [3, 4] (fun n i => ∃ k : Nat, k ≤ t.L.length ∧ i = .int .i64 k ∧ n = .int .i64 (waitN (t.L.take k) : Int)) (fun _ i => t.L.length - (intOf i).toNat)
  case atStart => exact ⟨0, by omega, rfl, rfl⟩
  case round =>
    obtain ⟨k, hk, rfl, rfl⟩ := hrel
    by_cases hlt : k < t.L.length
    · have hd : decide ((k : Int) < (t.L.length : Int)) = true := by simp; omega
      have hd' : decide (k < t.L.length) = true := by simp; omega
      obtain ⟨g, rfl, he⟩ := H.out.entry (by intro e; rw [e] at hlt; cases hlt)
      obtain ⟨-, -, e2⟩ := he k hlt
      have hw := waitN_take t.L k hlt
      have hwl := waitN_le (t.L.take k)
      rw [List.length_take] at hwl
      have hwb : waitN (t.L.take k) ≤ 100000 := by omega
      have Hw := Lib.hid hw
      cases hb : (t.L[k]).done with
      | true =>
        rw [hb] at e2 Hw
        clear he hw hwl hb
        go_wp2_with fail
        go_round
        case rel => exact ⟨k + 1, by omega, by go_num, by rw [Hw.out]; rfl⟩
        case measure => simp [intOf]; omega
      | false =>
        rw [hb] at e2 Hw
        clear he hw hwl hb
        go_wp2_with fail
        go_round
        case rel => exact ⟨k + 1, by omega, by go_num, by rw [Hw.out]; rfl⟩
        case measure => simp [intOf]; omega
    · obtain rfl : k = t.L.length := by omega
      have hd : decide ((t.L.length : Int) < (t.L.length : Int)) = false := by simp
      rw [List.take_length]
      go_wp2_with fail
      go_ret
      exact ⟨rfl, rfl⟩

set_option maxRecDepth 100000 in
set_option maxHeartbeats 1000000 in
theorem look_any (w : World) (N d : Nat) (v : Value) (t : RSt) (h : RAt w N d v t) (hl : t.L.length ≤ 100000) (i : Int) :
    Calls Try.prog 21 #[.pointer (some ⟨d, 0, none⟩), .int .i64 i] w fun e w' => e = .returned (.string ⟨(lookR t.L i).toArray⟩) ∧ Below w.heap.size w w' := by
  obtain ⟨ad, cp, rfl⟩ := h.slice
  obtain ⟨-, c1, -⟩ := h.cell
  have H := Lib.hid h
  clear h
  go_enter Try.func21, Try.ntmps21
  go_wp2_with fail
  go_loop [5] (fun j => ∃ k : Nat, k ≤ t.L.length ∧ j = .int .i64 ((k : Int) - 1) ∧ lookR t.L i = lookR (t.L.take k) i) (fun j => (intOf j + 1).toNat)
  case atStart => exact ⟨t.L.length, by omega, rfl, by rw [List.take_length]⟩
  case round =>
    obtain ⟨k, hk, rfl, hlk⟩ := hrel
    cases k with
    | zero =>
      have hz : lookR (t.L.take 0) i = z64 := rfl
      rw [hz] at hlk
      have Hlk := Lib.hid hlk
      have hm := run_make64
      have hcv := conv_bytes (bsrc_block (l := z64) (heap_alloc_new w (.cells (z64.map B).toArray 5)) 64)
      rw [show z64.length = 64 from rfl] at hcv
      have Hs := Lib.hid (show (Value.string ⟨z64.toArray⟩) = .string ⟨(lookR t.L i).toArray⟩ by rw [hlk])
      clear hlk hz
      generalize (z64.map B) = Z at *
      generalize (z64.toArray) = zs at *
      have e : ((0 : Nat) : Int) - 1 = -1 := rfl
      rw [e]
      go_wp2_with fail
      go_ret
      exact ⟨show Ending.returned (.string ⟨zs⟩) = _ by rw [Hs.out], (Below.refl _ _).alloc (Nat.le_refl _) _⟩
    | succ m =>
      have hlt : m < t.L.length := by omega
      have e : ((m + 1 : Nat) : Int) - 1 = (m : Int) := by omega
      rw [e]
      obtain ⟨g, rfl, he⟩ := H.out.entry (by intro e; rw [e] at hlt; cases hlt)
      obtain ⟨e0, e1, -⟩ := he m hlt
      rw [lookR_take t.L i m hlt] at hlk
      have hd' : (m : Int) < (t.L.length : Int) := by omega
      have Hlk := Lib.hid hlk
      clear hlk he e
      generalize t.L[m] = r at *
      by_cases hi : r.at' = i
      · have hb : (r.at' == i) = true := by simpa using hi
        rw [if_pos hi] at Hlk
        clear hi
        go_wp2_with fail
        go_ret
        exact ⟨show Ending.returned (.string ⟨r.b.toArray⟩) = _ by rw [Hlk.out], Below.refl _ _⟩
      · have hb : (r.at' == i) = false := by simpa using hi
        rw [if_neg hi] at Hlk
        clear hi
        go_wp2_with fail
        go_round
        case rel => exact ⟨m, by omega, rfl, Hlk.out⟩
        case measure => simp [intOf]
end Go.Proofs.Ytammnjfccjfbhaa
