/- The law's sectors. -/
import Derived.Test.YtammnjfccjfbhaaDNew
namespace Go.Proofs.Ytammnjfccjfbhaa
open Go.RowKit

theorem run_make64 (w : World) : (Instr.makeSlice 30 (.int .i64 64) (.int .i64 64)).run Try.prog w = .ok (.slice (some ⟨w.heap.size, 0, none⟩) 64 64) (w.alloc (.cells (z64.map B).toArray 5)) := by
  have := run_make_row' (P := Try.prog) 30 5 (.int .u8 0) 1 Try.underlying30 (by kernel_rfl) rfl .i64 .i64 64 (by omega) (by omega) w
  have e : madeCells #[.int .u8 0] 64 = (z64.map B).toArray := by
    have := toList_madeCells_one (.int .u8 0) 64
    rw [show z64.map B = List.replicate 64 (.int .u8 0) from rfl, ← this]
  rw [e] at this
  exact this
theorem wpList_make64 {ops : Array Oper} {rest : List Oper} {o : Oper} {a : Act} {w : World} {Q : Exit → Act → World → Prop} (hgd : o.guard = none) (ho : o.op = .makeSlice 30 (.const (.int .i64 64)) (.const (.int .i64 64)))
    (h : wpList Try.prog ops Q rest (a.put o.dst (.slice (some ⟨w.heap.size, 0, none⟩) 64 64)) (w.alloc (.cells (z64.map B).toArray 5))) : wpList Try.prog ops Q (o :: rest) a w := by
  refine wpList_plain hgd fun K hK => ?_
  have hrun := run_make64 w
  unfold Oper.wp
  simp [execOp, ho, Act.eval, hrun, Result.andThen]
  exact hK _ _ h
/-- k bytes c, then noughts -/
def partB (c : UInt8) (k : Nat) : List UInt8 := List.replicate k c ++ List.replicate (64 - k) 0
theorem partB_set (c : UInt8) (k : Nat) (hk : k < 64) : ((partB c k).map B).set k (B c) = (partB c (k + 1)).map B := by
  rw [← List.map_set]
  congr 1
  apply List.ext_getElem?
  intro i
  simp only [partB, List.getElem?_set, List.getElem?_append, List.getElem?_replicate, List.length_append, List.length_replicate]
  grind
theorem length_partB (c : UInt8) (k : Nat) (hk : k ≤ 64) : ((partB c k).map B).length = 64 := by simp [partB]; omega
/-- 64 times c -/
def sec64 (c : UInt8) : List UInt8 := List.replicate 64 c
theorem length_sec64 (c : UInt8) : (sec64 c).length = 64 := by simp [sec64]
set_option maxRecDepth 100000 in
theorem sector_any (w : World) (c : UInt8) : Calls Try.prog 22 #[B c] w fun e w' => e = .returned (.slice (some ⟨w.heap.size, 0, none⟩) 64 64) ∧ Below w.heap.size w w' ∧
    w'.heap[w.heap.size]? = some (.cells ((sec64 c).map B).toArray 5 (0, 0)) ∧ w'.heap.size = w.heap.size + 1 := by
  have hz : (z64.map B) = (partB c 0).map B := rfl
  have hlen := fun k hk => length_partB c k hk
  have hset := fun k hk => partB_set c k hk
  have hend : (partB c 64).map B = (sec64 c).map B := by simp [partB, sec64]
  generalize hP : (fun k => (partB c k).map B) = Pt at *
  have e : ∀ k, (partB c k).map B = Pt k := fun k => by rw [← hP]
  simp only [e] at hz hlen hset hend
  rw [← hend]
  have h0 := heap_alloc_new w (.cells (Pt 0).toArray 5)
  have HS := Lib.hid hset
  have HL := Lib.hid hlen
  have Hz := Lib.hid hz
  have H0 := Lib.hid h0
  clear hset hlen hP e hend hz h0
  go_enter Try.func22, Try.ntmps22
  go_wp2_with (refine wpList_make64 rfl rfl ?_)
  rw [Hz.out]
  go_loopw [4] (fun i wr => ∃ k : Nat, k ≤ 64 ∧ i = .int .i64 k ∧ wr.heap[w.heap.size]? = some (.cells (Pt k).toArray 5 (0, 0)) ∧ Below w.heap.size w wr ∧ wr.heap.size = w.heap.size + 1) (fun i _ => 64 - (intOf i).toNat)
  case atStart => exact ⟨0, by omega, rfl, H0.out, (Below.refl _ _).alloc (Nat.le_refl _) _, by simp⟩
  case round =>
    obtain ⟨k, hk, rfl, hr, hb, hs⟩ := hrel
    by_cases hlt : k < 64
    · have hd : decide ((k : Int) < 64) = true := by simp; omega
      have hd' : decide (k < 64) = true := by simp; omega
      obtain ⟨x, c1⟩ : ∃ x, wr.cell? ⟨w.heap.size, k, none⟩ = some x := ⟨_, by rw [cell_block hr, List.getElem?_toArray]; exact List.getElem?_eq_getElem (by rw [HL.out k hk]; exact hlt)⟩
      have f1 := frozen_of_row wr w.heap.size k _ _ hr
      have h2 := heap_set hr k (B c)
      rw [HS.out k hlt] at h2
      have H2 := Lib.hid h2
      have Hb := Lib.hid hb
      have Hs := Lib.hid hs
      clear hr hb hs h2
      go_wp2_with fail
      go_roundw
      case rel => exact ⟨k + 1, by omega, by go_num, H2.out, Hb.out.setCell (Nat.le_refl _) _, by simpa using Hs.out⟩
      case measure => simp [intOf]; omega
    · obtain rfl : k = 64 := by omega
      have Hr := Lib.hid hr
      have Hs := Lib.hid hs
      clear hr hs
      go_wp2_with fail
      go_ret
      exact ⟨rfl, hb, Hr.out, Hs.out⟩
end Go.Proofs.Ytammnjfccjfbhaa
