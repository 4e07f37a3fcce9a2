/- P3.1: a number written. -/
import Derived.Test.YtebadbnlihbecaaCOut
import Derived.Test.YtebadbnlihbecaaVSame
import Derived.Laws.IdiomStrings
import Derived.Lib.AppendZerosOnto
namespace Go.Proofs.Ytebadbnlihbecaa
open Go.RowKit

def zeros (n : Nat) : List Value := List.replicate n (B 0)
theorem run_make_bytes {o : Oper} {a : Act} (x : Operand) (ho : o.op = .makeSlice 36 x x) (n : Nat) (v : Int) (hv : v = (n : Int)) (hx : a.eval x = .int .i64 v) (hn : n ≤ 1000000) (w : World) :
    (execOp a.eval o).run Try.prog w = .ok (.value (.slice (some ⟨w.heap.size, 0, none⟩) n n)) (w.alloc (.cells (zeros n).toArray 5)) := by
  subst hv
  obtain ⟨i, hi, hz, hs, hb⟩ := info_parts (show (Try.prog.info? 5).map (fun i => (i.zero, i.size, i.bytes)) = some (some (.int .u8 0), 1, 1) by kernel_rfl)
  have hr := run_make (P := Try.prog) w 36 5 i (.int .u8 0) Try.underlying36 hi hz .i64 .i64 n n (by omega) (Int.le_refl _) (by rw [hb]; omega) (by omega)
  have hm : madeCells (Value.int .u8 0).cells n = (zeros n).toArray := by
    apply Array.ext
    · simp [madeCells, zeros]
    · intro k h1 h2
      simp [madeCells, zeros, Value.cells, B, Nat.mod_one]
  rw [hs, Int.toNat_natCast, Nat.mul_one, hm] at hr
  unfold execOp
  simp only [ho, hx, hr, Sem.run_bind, Result.andThen_ok]
  rfl

theorem wpList_make_bytes {ops : Array Oper} {rest : List Oper} {o : Oper} {a : Act} {w : World} {Q : Exit → Act → World → Prop} (hgd : o.guard = none) (x : Operand) (ho : o.op = .makeSlice 36 x x) (n : Nat) (v : Int) (hv : v = (n : Int)) (hx : a.eval x = .int .i64 v) (hn : n ≤ 1000000)
    (h : wpList Try.prog ops Q rest (a.put o.dst (.slice (some ⟨w.heap.size, 0, none⟩) n n)) (w.alloc (.cells (zeros n).toArray 5))) : wpList Try.prog ops Q (o :: rest) a w :=
  wpList_plain hgd fun K hK => by
    unfold Oper.wp
    rw [run_make_bytes x ho n v hv hx hn w]
    exact hK _ _ h

/-- the bytes of a number, the most significant first -/
def numB (n size : Nat) : List UInt8 := (List.range size).map fun i => UInt8.ofNat (n / 256 ^ (size - 1 - i))
theorem numB_length (n size : Nat) : (numB n size).length = size := by simp [numB]
theorem numB_at (n size k : Nat) (h : k < size) : (numB n size)[k]'(by rw [numB_length]; exact h) = UInt8.ofNat (n / 256 ^ (size - 1 - k)) := by simp [numB]
/-- the first k bytes, the rest noughts -/
def numC (n size k : Nat) : List Value := ((numB n size).take k).map B ++ zeros (size - k)
theorem numC_length (n size k : Nat) (h : k ≤ size) : (numC n size k).length = size := by simp [numC, numB_length, zeros]; omega
theorem numC_set (n size k : Nat) (h : k < size) : (numC n size k).set k (B (UInt8.ofNat (n / 256 ^ (size - 1 - k)))) = numC n size (k + 1) := by
  have hl := numB_length n size
  apply List.ext_getElem?
  intro i
  simp only [numC, zeros, List.getElem?_set, List.getElem?_append, List.length_append, List.length_map, List.length_take, List.length_replicate, List.getElem?_map, List.getElem?_take, List.getElem?_replicate, hl]
  rcases Nat.lt_trichotomy i k with h1 | h1 | h1
  · have e1 : min k size = k := by omega
    have e2 : min (k + 1) size = k + 1 := by omega
    simp [e1, e2, show ¬ k = i by omega, h1, show i < k + 1 by omega]
  · subst h1
    have e1 : min i size = i := by omega
    have e2 : min (i + 1) size = i + 1 := by omega
    simp [e1, e2, List.getElem?_eq_getElem (show i < (numB n size).length by rw [hl]; exact h), numB_at n size i h]
    omega
  · have e1 : min k size = k := by omega
    have e2 : min (k + 1) size = k + 1 := by omega
    simp [e1, e2, show ¬ k = i by omega, show ¬ i < k by omega, show ¬ i < k + 1 by omega]
    congr 1
    exact propext ⟨fun _ => by omega, fun _ => by omega⟩
theorem byteN (n j : Nat) : Value.int IntKind.u8 ((n : Int) / 2 ^ (8 * j) % 256) = B (UInt8.ofNat (n / 256 ^ j)) := by
  have e : (UInt8.ofNat (n / 256 ^ j)).toNat = n / 256 ^ j % 256 := by simp
  unfold B
  have e2 : (256 : Nat) ^ j = 2 ^ (8 * j) := by rw [Nat.pow_mul]
  rw [e, e2, Int.natCast_emod, Int.natCast_ediv, Int.natCast_pow]
  rfl

structure NumRel (w : World) (n size k : Nat) (wr : World) : Prop where
  blk : wr.heap[w.heap.size]? = some (.cells (numC n size k).toArray 5 (0, 0))
  below : Below w.heap.size w wr

set_option maxRecDepth 100000 in
set_option maxHeartbeats 1000000 in
theorem outNumber_any (w : World) (t : Nat) (T : TypeId) (st : Option ByteArray) (n size : Nat) (_hn : n < 2 ^ 64) (hs : size ≤ 8) (h : Tape w t T st) :
    Calls Try.prog 49 #[.pointer (some ⟨t, 0, none⟩), .int .u64 n, .int .i64 size] w fun e w' => e = .returned (.tuple #[]) ∧ Tape w' t T (putM st ⟨(numB n size).toArray⟩) ∧ Kept1 t w w' := by
  have H := Lib.hid h
  have hlt := h.lt
  clear h
  go_enter Try.func49, Try.ntmps49
  go_wp2_with (refine wpList_make_bytes rfl (.tmp 8) rfl size _ rfl rfl (by omega) ?_)
  have HR0 : Hid (NumRel w n size 0 (w.alloc (.cells (zeros size).toArray 5))) := Lib.hid ⟨by rw [heap_alloc_new]; simp [numC], (Below.refl _ _).alloc (Nat.le_refl _) _⟩
  generalize World.alloc _ _ = W0 at *
  go_wp2_with fail
  go_loopw [12] (fun i wr => ∃ k : Nat, k ≤ size ∧ i = .int .i64 k ∧ Hid (NumRel w n size k wr)) (fun i _ => size - (intOf i).toNat)
  case atStart => exact ⟨0, by omega, rfl, HR0⟩
  case round =>
    clear HR0
    obtain ⟨k, hk, rfl, HR⟩ := hrel
    have hfz : ∀ o, wr.frozen? ⟨w.heap.size, o, none⟩ = false := fun o => by simp [World.frozen?, HR.out.blk]
    have hb : w.heap.size < wr.heap.size := lt_block HR.out.blk
    by_cases hlt' : k < size
    · obtain ⟨c, hc⟩ : ∃ c, wr.cell? ⟨w.heap.size, k, none⟩ = some c := ⟨_, by rw [cell_block HR.out.blk]; simp; exact List.getElem?_eq_getElem (by rw [numC_length _ _ _ hk]; exact hlt')⟩
      go_wp2_with fail
      go_roundw
      case rel => exact ⟨k + 1, by omega, by go_num, Lib.hid ⟨by
        rw [byteN, heap_setCell_same _ _ _ _ _ _ HR.out.blk]
        simp [numC_set n size k hlt'], HR.out.below.setCell (Nat.le_refl _) _⟩⟩
      case measure => simp [intOf]; omega
    · obtain rfl : k = size := by omega
      have hcv := run_convert_bytes_back (P := Try.prog) wr 36 9 5 ⟨w.heap.size, 0, none⟩ k (numB n k) Try.underlying36 Try.underlying5 Try.underlying9 (fun j hj => by
        rw [Addr.add_mid, Nat.zero_add, cell_block HR.out.blk]
        rw [numB_length] at hj
        simp [numC, List.take_of_length_le (show (numB n k).length ≤ k by rw [numB_length]; omega), zeros, numB_length, hj])
      rw [numB_length] at hcv
      have P := Lib.hid (put_any wr t T st ⟨(numB n k).toArray⟩ (by unfold maxLen; show (numB n k).toArray.size ≤ _; simp [numB_length]; omega) (H.out.below HR.out.below))
      go_wp2_with (simp only [hcv])
      refine P.out.mono ?_
      rintro e w2 ⟨rfl, ht, hk2⟩
      have HT := Lib.hid ht
      have HK := Lib.hid ((Kept1.of_below (b := t) HR.out.below).trans hk2)
      clear ht hk2 hcv P
      go_wp2_with fail
      go_end0
      exact ⟨rfl, HT.out, HK.out⟩
end Go.Proofs.Ytebadbnlihbecaa
