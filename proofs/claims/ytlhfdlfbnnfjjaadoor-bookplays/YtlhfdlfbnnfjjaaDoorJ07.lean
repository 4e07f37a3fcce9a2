/- P3.1: a number written; P3.1, P3.2: numbers, truths and texts, written and read; P3.2: numbers, truths and texts, read. -/
import Derived.Test.YtlhfdlfbnnfjjaaDoorJ04
import Derived.Test.YtlhfdlfbnnfjjaaDoorJ06
import Derived.Laws.IdiomStrings
import Derived.Lib.AppendZerosOnto
namespace Go.Proofs.YtlhfdlfbnnfjjaaDoor
open Go.RowKit

def czeros (n : Nat) : List Value := List.replicate n (B 0)
set_option maxRecDepth 100000 in
theorem crun_make_bytes {o : Oper} {a : Act} (x : Operand) (ho : o.op = .makeSlice 32 x x) (n : Nat) (v : Int) (hv : v = (n : Int)) (hx : a.eval x = .int .i64 v) (hn : n ≤ 1000000) (w : World) :
    (execOp a.eval o).run Tryd.prog w = .ok (.value (.slice (some ⟨w.heap.size, 0, none⟩) n n)) (w.alloc (.cells (czeros n).toArray 5)) := by
  subst hv
  obtain ⟨i, hi, hz, hs, hb⟩ := info_parts (show (Tryd.prog.info? 5).map (fun i => (i.zero, i.size, i.bytes)) = some (some (.int .u8 0), 1, 1) by kernel_rfl)
  have hr := run_make (P := Tryd.prog) w 32 5 i (.int .u8 0) Tryd.underlying32 hi hz .i64 .i64 n n (by omega) (Int.le_refl _) (by rw [hb]; omega) (by omega)
  have hm : madeCells (Value.int .u8 0).cells n = (czeros n).toArray := by
    apply Array.ext
    · simp [madeCells, czeros]
    · intro k h1 h2
      simp [madeCells, czeros, Value.cells, B, Nat.mod_one]
  rw [hs, Int.toNat_natCast, Nat.mul_one, hm] at hr
  unfold execOp
  simp only [ho, hx, hr, Sem.run_bind, Result.andThen_ok]
  rfl

set_option maxRecDepth 100000 in
theorem cwpList_make_bytes {ops : Array Oper} {rest : List Oper} {o : Oper} {a : Act} {w : World} {Q : Exit → Act → World → Prop} (hgd : o.guard = none) (x : Operand) (ho : o.op = .makeSlice 32 x x) (n : Nat) (v : Int) (hv : v = (n : Int)) (hx : a.eval x = .int .i64 v) (hn : n ≤ 1000000)
    (h : wpList Tryd.prog ops Q rest (a.put o.dst (.slice (some ⟨w.heap.size, 0, none⟩) n n)) (w.alloc (.cells (czeros n).toArray 5))) : wpList Tryd.prog ops Q (o :: rest) a w :=
  wpList_plain hgd fun K hK => by
    unfold Oper.wp
    rw [crun_make_bytes x ho n v hv hx hn w]
    exact hK _ _ h

/-- the bytes of a number, the most significant first -/
def numB (n size : Nat) : List UInt8 := (List.range size).map fun i => UInt8.ofNat (n / 256 ^ (size - 1 - i))
set_option maxRecDepth 100000 in
theorem numB_length (n size : Nat) : (numB n size).length = size := by simp [numB]
set_option maxRecDepth 100000 in
theorem numB_at (n size k : Nat) (h : k < size) : (numB n size)[k]'(by rw [numB_length]; exact h) = UInt8.ofNat (n / 256 ^ (size - 1 - k)) := by simp [numB]
/-- the first k bytes, the rest noughts -/
def numC (n size k : Nat) : List Value := ((numB n size).take k).map B ++ czeros (size - k)
set_option maxRecDepth 100000 in
theorem numC_length (n size k : Nat) (h : k ≤ size) : (numC n size k).length = size := by simp [numC, numB_length, czeros]; omega
set_option maxRecDepth 100000 in
theorem numC_set (n size k : Nat) (h : k < size) : (numC n size k).set k (B (UInt8.ofNat (n / 256 ^ (size - 1 - k)))) = numC n size (k + 1) := by
  have hl := numB_length n size
  apply List.ext_getElem?
  intro i
  simp only [numC, czeros, List.getElem?_set, List.getElem?_append, List.length_append, List.length_map, List.length_take, List.length_replicate, List.getElem?_map, List.getElem?_take, List.getElem?_replicate, hl]
  rcases Nat.lt_trichotomy i k with h1 | h1 | h1
  · have e1 : min k size = k := by omega
    have e2 : min (k + 1) size = k + 1 := by omega
    simp [e1, e2, show ¬ k = i by omega, h1, show i < k + 1 by omega]
  · subst h1
    have e1 : min i size = i := by omega
    have e2 : min (i + 1) size = i + 1 := by omega
    simp [e1, e2, List.getElem?_eq_getElem (show i < (numB n size).length by rw [hl]; exact h), numB_at n size i h]
    omega
  · have e1 : min k size = k := by omega
    have e2 : min (k + 1) size = k + 1 := by omega
    simp [e1, e2, show ¬ k = i by omega, show ¬ i < k by omega, show ¬ i < k + 1 by omega]
    congr 1
    exact propext ⟨fun _ => by omega, fun _ => by omega⟩
set_option maxRecDepth 100000 in
theorem byteN (n j : Nat) : Value.int IntKind.u8 ((n : Int) / 2 ^ (8 * j) % 256) = B (UInt8.ofNat (n / 256 ^ j)) := by
  have e : (UInt8.ofNat (n / 256 ^ j)).toNat = n / 256 ^ j % 256 := by simp
  unfold B
  have e2 : (256 : Nat) ^ j = 2 ^ (8 * j) := by rw [Nat.pow_mul]
  rw [e, e2, Int.natCast_emod, Int.natCast_ediv, Int.natCast_pow]
  rfl

structure NumRel (w : World) (n size k : Nat) (wr : World) : Prop where
  blk : wr.heap[w.heap.size]? = some (.cells (numC n size k).toArray 5 (0, 0))
  below : Below w.heap.size w wr

set_option maxRecDepth 100000 in
set_option maxHeartbeats 1000000 in
theorem outNumber_any (w : World) (t : Nat) (T : TypeId) (st : Option ByteArray) (n size : Nat) (_hn : n < 2 ^ 64) (hs : size ≤ 8) (h : Tape w t T st) :
    Calls Tryd.prog 82 #[.pointer (some ⟨t, 0, none⟩), .int .u64 n, .int .i64 size] w fun e w' => e = .returned (.tuple #[]) ∧ Tape w' t T (putM st ⟨(numB n size).toArray⟩) ∧ Kept1 t w w' := by
  have H := Lib.hid h
  have hlt := h.lt
  clear h
  go_enter Tryd.func82, Tryd.ntmps82
  go_wp2_with (refine cwpList_make_bytes rfl (.tmp 8) rfl size _ rfl rfl (by omega) ?_)
  have HR0 : Hid (NumRel w n size 0 (w.alloc (.cells (czeros size).toArray 5))) := Lib.hid ⟨by rw [heap_alloc_new]; simp [numC], (Below.refl _ _).alloc (Nat.le_refl _) _⟩
  generalize World.alloc _ _ = W0 at *
  go_wp2_with fail
  go_loopw [12] (fun i wr => ∃ k : Nat, k ≤ size ∧ i = .int .i64 k ∧ Hid (NumRel w n size k wr)) (fun i _ => size - (intOf i).toNat)
  case atStart => exact ⟨0, by omega, rfl, HR0⟩
  case round =>
    clear HR0
    obtain ⟨k, hk, rfl, HR⟩ := hrel
    have hfz : ∀ o, wr.frozen? ⟨w.heap.size, o, none⟩ = false := fun o => by simp [World.frozen?, HR.out.blk]
    have hb : w.heap.size < wr.heap.size := lt_block HR.out.blk
    by_cases hlt' : k < size
    · obtain ⟨c, hc⟩ : ∃ c, wr.cell? ⟨w.heap.size, k, none⟩ = some c := ⟨_, by rw [cell_block HR.out.blk]; simp; exact List.getElem?_eq_getElem (by rw [numC_length _ _ _ hk]; exact hlt')⟩
      go_wp2_with fail
      go_roundw
      case rel => exact ⟨k + 1, by omega, by go_num, Lib.hid ⟨by
        rw [byteN, heap_setCell_same _ _ _ _ _ _ HR.out.blk]
        simp [numC_set n size k hlt'], HR.out.below.setCell (Nat.le_refl _) _⟩⟩
      case measure => simp [intOf]; omega
    · obtain rfl : k = size := by omega
      have hcv := run_convert_bytes_back (P := Tryd.prog) wr 32 9 5 ⟨w.heap.size, 0, none⟩ k (numB n k) Tryd.underlying32 Tryd.underlying5 Tryd.underlying9 (fun j hj => by
        rw [Addr.add_mid, Nat.zero_add, cell_block HR.out.blk]
        rw [numB_length] at hj
        simp [numC, List.take_of_length_le (show (numB n k).length ≤ k by rw [numB_length]; omega), czeros, numB_length, hj])
      rw [numB_length] at hcv
      have P := Lib.hid (cput_any wr t T st ⟨(numB n k).toArray⟩ (by unfold maxLen; show (numB n k).toArray.size ≤ _; simp [numB_length]; omega) (H.out.below HR.out.below))
      go_wp2_with (simp only [hcv])
      refine P.out.mono ?_
      rintro e w2 ⟨rfl, ht, hk2⟩
      have HT := Lib.hid ht
      have HK := Lib.hid ((Kept1.of_below (b := t) HR.out.below).trans hk2)
      clear ht hk2 hcv P
      go_wp2_with fail
      go_end0
      exact ⟨rfl, HT.out, HK.out⟩
end Go.Proofs.YtlhfdlfbnnfjjaaDoor
namespace Go.Proofs.YtlhfdlfbnnfjjaaDoor
open Go.RowKit

/-- a number without a sign is written, if it fits -/
def unsM (st : Option ByteArray) (n : Int) (size : Nat) : Option ByteArray := if 0 ≤ n ∧ n < 256 ^ size then putM st ⟨(numB n.toNat size).toArray⟩ else none
set_option maxRecDepth 100000 in
theorem putM_none (m : ByteArray) : putM none m = none := rfl
set_option maxRecDepth 100000 in
theorem unsM_none (n : Int) (size : Nat) : unsM none n size = none := by unfold unsM; split <;> rfl
set_option maxRecDepth 100000 in
theorem pow_two_int (k : Nat) : (2 : Int) ^ (8 * k) = 256 ^ k := by rw [Int.pow_mul]; rfl

set_option maxRecDepth 100000 in
set_option maxHeartbeats 1000000 in
theorem unsigned_any (w : World) (t : Nat) (T : TypeId) (st : Option ByteArray) (n : Int) (size : Nat) (hn : n < 2 ^ 63) (hs : size ≤ 8) (h : Tape w t T st) :
    Calls Tryd.prog 78 #[.pointer (some ⟨t, 0, none⟩), .int .i64 n, .int .i64 size] w fun e w' => e = .returned (.tuple #[]) ∧ Tape w' t T (unsM st n size) ∧ Kept1 t w w' := by
  have hlt := h.lt
  have H := Lib.hid h
  clear h
  go_enter Tryd.func78, Tryd.ntmps78
  go_wp2_with fail
  by_cases h0 : 0 ≤ n
  · have hwr : n % 18446744073709551616 = n := Int.emod_eq_of_lt h0 (by omega)
    by_cases h1 : n / 2 ^ (8 * size) = 0
    · refine wp_region_quiet_tailB 13 (by kernel_rfl) (by kernel_rfl) ?_
      simp only [List.take_succ_cons, List.take_zero, List.drop_succ_cons, List.drop_zero]
      iterate 13 (go_big_quiet_step (fail))
      refine wpQuiet_nil ?_
      intro m
      go_wp2_with fail
      refine (must_any m.wr t T st true (H.out.below m.below)).mono ?_
      rintro e w1 ⟨rfl, ht, hk⟩
      have HB := Lib.hid ((Kept1.of_below (b := t) m.below).trans hk)
      have hlt256 : n < 256 ^ size := by
        rw [pow_two_int] at h1
        have e1 := Int.emod_lt_of_pos n (show (0 : Int) < 256 ^ size from Int.pow_pos (by omega))
        have e2 := Int.mul_ediv_add_emod n (256 ^ size)
        rw [h1] at e2
        omega
      have hun : unsM st n size = putM st ⟨(numB n.toNat size).toArray⟩ := if_pos ⟨h0, hlt256⟩
      have HUN := Lib.hid hun
      simp only [if_true] at ht
      cases st with
      | none =>
        have HT := Lib.hid ht
        clear ht hk hun
        go_wp2_with fail
        go_end0
        rw [HUN.out]
        exact ⟨rfl, HT.out, HB.out⟩
      | some b =>
        have N := outNumber_any w1 t T (some b) n.toNat size (by omega) hs ht
        rw [show ((n.toNat : Nat) : Int) = n by omega] at N
        have HN := Lib.hid N
        clear ht hk hun N
        go_wp2_with fail
        refine HN.out.mono ?_
        rintro e w2 ⟨rfl, ht, hk⟩
        have HT := Lib.hid ht
        have HB2 := Lib.hid (HB.out.trans hk)
        clear ht hk
        go_wp2_with fail
        go_end0
        rw [HUN.out]
        exact ⟨rfl, HT.out, HB2.out⟩
    · have hb1 : (n / 2 ^ (8 * size) == 0) = false := by simpa using h1
      refine wp_region_quiet_tailB 13 (by kernel_rfl) (by kernel_rfl) ?_
      simp only [List.take_succ_cons, List.take_zero, List.drop_succ_cons, List.drop_zero]
      iterate 13 (go_big_quiet_step (fail))
      refine wpQuiet_nil ?_
      intro m
      go_wp2_with fail
      refine (must_any m.wr t T st false (H.out.below m.below)).mono ?_
      rintro e w1 ⟨rfl, ht, hk⟩
      have HB := Lib.hid ((Kept1.of_below (b := t) m.below).trans hk)
      have HT := Lib.hid ht
      clear ht hk
      have hun : unsM st n size = none := if_neg (fun hh => h1 (by rw [pow_two_int]; exact Int.ediv_eq_zero_of_lt h0 hh.2))
      have HUN := Lib.hid hun
      clear hun
      go_wp2_with fail
      go_end0
      rw [HUN.out]
      exact ⟨rfl, HT.out, HB.out⟩
  · refine wp_region_quiet_tailB 13 (by kernel_rfl) (by kernel_rfl) ?_
    simp only [List.take_succ_cons, List.take_zero, List.drop_succ_cons, List.drop_zero]
    iterate 13 (go_big_quiet_step (fail))
    refine wpQuiet_nil ?_
    intro m
    go_wp2_with fail
    refine (must_any m.wr t T st false (H.out.below m.below)).mono ?_
    rintro e w1 ⟨rfl, ht, hk⟩
    have HB := Lib.hid ((Kept1.of_below (b := t) m.below).trans hk)
    have HT := Lib.hid ht
    clear ht hk
    have hun : unsM st n size = none := if_neg (fun hh => absurd hh.1 (by omega))
    have HUN := Lib.hid hun
    clear hun
    go_wp2_with fail
    go_end0
    rw [HUN.out]
    exact ⟨rfl, HT.out, HB.out⟩
set_option maxRecDepth 100000 in
set_option maxHeartbeats 1000000 in
theorem outU8_any (w : World) (t : Nat) (T : TypeId) (st : Option ByteArray) (n : Int) (hn : n < 2 ^ 63) (h : Tape w t T st) :
    Calls Tryd.prog 63 #[.pointer (some ⟨t, 0, none⟩), .int .i64 n] w fun e w' => e = .returned (.tuple #[]) ∧ Tape w' t T (unsM st n 1) ∧ Kept1 t w w' := by
  have N := Lib.hid (unsigned_any w t T st n 1 hn (by omega) h)
  clear h
  go_enter Tryd.func63, Tryd.ntmps63
  go_wp2_with fail
  refine N.out.mono ?_
  rintro e w2 ⟨rfl, ht, hk⟩
  have HT := Lib.hid ht
  have HK := Lib.hid hk
  clear ht hk N
  go_wp2_with fail
  go_end0
  exact ⟨rfl, HT.out, HK.out⟩
set_option maxRecDepth 100000 in
set_option maxHeartbeats 1000000 in
theorem outU16_any (w : World) (t : Nat) (T : TypeId) (st : Option ByteArray) (n : Int) (hn : n < 2 ^ 63) (h : Tape w t T st) :
    Calls Tryd.prog 64 #[.pointer (some ⟨t, 0, none⟩), .int .i64 n] w fun e w' => e = .returned (.tuple #[]) ∧ Tape w' t T (unsM st n 2) ∧ Kept1 t w w' := by
  have N := Lib.hid (unsigned_any w t T st n 2 hn (by omega) h)
  clear h
  go_enter Tryd.func64, Tryd.ntmps64
  go_wp2_with fail
  refine N.out.mono ?_
  rintro e w2 ⟨rfl, ht, hk⟩
  have HT := Lib.hid ht
  have HK := Lib.hid hk
  clear ht hk N
  go_wp2_with fail
  go_end0
  exact ⟨rfl, HT.out, HK.out⟩
set_option maxRecDepth 100000 in
set_option maxHeartbeats 1000000 in
theorem outU32_any (w : World) (t : Nat) (T : TypeId) (st : Option ByteArray) (n : Int) (hn : n < 2 ^ 63) (h : Tape w t T st) :
    Calls Tryd.prog 62 #[.pointer (some ⟨t, 0, none⟩), .int .i64 n] w fun e w' => e = .returned (.tuple #[]) ∧ Tape w' t T (unsM st n 4) ∧ Kept1 t w w' := by
  have N := Lib.hid (unsigned_any w t T st n 4 hn (by omega) h)
  clear h
  go_enter Tryd.func62, Tryd.ntmps62
  go_wp2_with fail
  refine N.out.mono ?_
  rintro e w2 ⟨rfl, ht, hk⟩
  have HT := Lib.hid ht
  have HK := Lib.hid hk
  clear ht hk N
  go_wp2_with fail
  go_end0
  exact ⟨rfl, HT.out, HK.out⟩
/-- a text is written with its length ahead -/
def textM (st : Option ByteArray) (s : ByteArray) : Option ByteArray := putM (unsM st s.size 2) s
end Go.Proofs.YtlhfdlfbnnfjjaaDoor
namespace Go.Proofs.YtlhfdlfbnnfjjaaDoor
open Go.RowKit

set_option maxRecDepth 100000 in
theorem takeM_le (st : Option ByteArray) (n : Nat) : (takeM st n).1.size ≤ n := by
  cases st with
  | none => exact Nat.zero_le _
  | some s =>
    by_cases h : (0 : Int) ≤ n ∧ (n : Int) ≤ s.size
    · rw [takeM_yes h]; simp; omega
    · rw [takeM_no h]; exact Nat.zero_le _
set_option maxRecDepth 100000 in
theorem numM_lt (st : Option ByteArray) (size : Nat) : (numM st size).1 < 256 ^ size := by
  have h := numU_lt (takeM st size).1.toList
  have h2 := takeM_le st size
  have e : (takeM st size).1.toList.length = (takeM st size).1.size := by simp [ByteArray.toList_eq]
  rw [e] at h
  exact Nat.lt_of_lt_of_le h (Nat.pow_le_pow_right (by omega) h2)
set_option maxRecDepth 100000 in
theorem numM_none (size : Nat) : numM none size = (0, none) := by simp [numM, takeM, numU, ByteArray.toList_eq]
set_option maxRecDepth 100000 in
set_option maxHeartbeats 1000000 in
theorem inU8_any (w : World) (t : Nat) (T : TypeId) (st : Option ByteArray) (h : Tape w t T st) :
    Calls Tryd.prog 56 #[.pointer (some ⟨t, 0, none⟩)] w fun e w' => e = .returned (.int .i64 (numM st 1).1) ∧ Tape w' t T (numM st 1).2 ∧ Kept1 t w w' := by
  have N := Lib.hid (inNumber_any w t T st 1 (by omega) h)
  have hlt := numM_lt st 1
  generalize numM st 1 = r at *
  clear h
  go_enter Tryd.func56, Tryd.ntmps56
  go_wp2_with fail
  refine N.out.mono ?_
  rintro e w2 ⟨rfl, ht, hk⟩
  have HT := Lib.hid ht
  have HK := Lib.hid hk
  clear ht hk N
  go_wp2_with fail
  go_ret
  exact ⟨rfl, HT.out, HK.out⟩
set_option maxRecDepth 100000 in
set_option maxHeartbeats 1000000 in
theorem inU16_any (w : World) (t : Nat) (T : TypeId) (st : Option ByteArray) (h : Tape w t T st) :
    Calls Tryd.prog 57 #[.pointer (some ⟨t, 0, none⟩)] w fun e w' => e = .returned (.int .i64 (numM st 2).1) ∧ Tape w' t T (numM st 2).2 ∧ Kept1 t w w' := by
  have N := Lib.hid (inNumber_any w t T st 2 (by omega) h)
  have hlt := numM_lt st 2
  generalize numM st 2 = r at *
  clear h
  go_enter Tryd.func57, Tryd.ntmps57
  go_wp2_with fail
  refine N.out.mono ?_
  rintro e w2 ⟨rfl, ht, hk⟩
  have HT := Lib.hid ht
  have HK := Lib.hid hk
  clear ht hk N
  go_wp2_with fail
  go_ret
  exact ⟨rfl, HT.out, HK.out⟩
set_option maxRecDepth 100000 in
set_option maxHeartbeats 1000000 in
theorem inU32_any (w : World) (t : Nat) (T : TypeId) (st : Option ByteArray) (h : Tape w t T st) :
    Calls Tryd.prog 55 #[.pointer (some ⟨t, 0, none⟩)] w fun e w' => e = .returned (.int .i64 (numM st 4).1) ∧ Tape w' t T (numM st 4).2 ∧ Kept1 t w w' := by
  have N := Lib.hid (inNumber_any w t T st 4 (by omega) h)
  have hlt := numM_lt st 4
  generalize numM st 4 = r at *
  clear h
  go_enter Tryd.func55, Tryd.ntmps55
  go_wp2_with fail
  refine N.out.mono ?_
  rintro e w2 ⟨rfl, ht, hk⟩
  have HT := Lib.hid ht
  have HK := Lib.hid hk
  clear ht hk N
  go_wp2_with fail
  go_ret
  exact ⟨rfl, HT.out, HK.out⟩
/-- a truth is read -/
def flagM (st : Option ByteArray) : Bool × Option ByteArray := if (numM st 1).1 ≤ 1 then ((numM st 1).1 == 1 && (numM st 1).2.isSome, (numM st 1).2) else (false, none)
/-- a text of at most so many bytes is read -/
def inTextM (st : Option ByteArray) (most : Int) : ByteArray × Option ByteArray :=
  if ((numM st 2).1 : Int) ≤ min most 4096 then takeM (numM st 2).2 (numM st 2).1 else (⟨#[]⟩, none)
/-- whether all is read, and nothing went wrong -/
def overM (st : Option ByteArray) : Bool := st.isSome && (tapeB st).toList.isEmpty
end Go.Proofs.YtlhfdlfbnnfjjaaDoor
