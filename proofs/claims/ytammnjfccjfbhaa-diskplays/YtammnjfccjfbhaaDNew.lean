/- New. -/
import Derived.Test.YtammnjfccjfbhaaDRead
import Derived.Deep.OwnRows
import Derived.Laws.MakeOwn
namespace Go.Proofs.Ytammnjfccjfbhaa
open Go.RowKit

theorem made_secs (m : Nat) : madeCells (Value.agg (z64.map B).toArray).cells (m * 64) = (secsC (List.replicate m z64)).toArray := by
  have hl : (secsC (List.replicate m z64)).length = m * 64 := by rw [length_secs (fun x hx => by rw [(List.mem_replicate.1 hx).2]; rfl), List.length_replicate]
  have hb : ∀ v ∈ secsC (List.replicate m z64), v = B 0 := by
    intro v hv
    simp only [secsC, List.mem_flatten, List.mem_map] at hv
    obtain ⟨l, ⟨x, hx, rfl⟩, hv⟩ := hv
    rw [(List.mem_replicate.1 hx).2] at hv
    obtain ⟨y, hy, rfl⟩ := List.mem_map.1 hv
    rw [(List.mem_replicate.1 hy).2]
  have hz0 : ∀ v ∈ z64.map B, v = B 0 := fun v hv => by
    obtain ⟨y, hy, rfl⟩ := List.mem_map.1 hv
    rw [(List.mem_replicate.1 hy).2]
  have hz : ∀ j, j < 64 → (z64.map B).toArray[j]! = B 0 := fun j hj => by
    have e := hz0 ((z64.map B).toArray[j]!) (by rw [getElem!_pos _ j (by exact hj)]; exact List.mem_toArray.1 (Array.getElem_mem (xs := (z64.map B).toArray) (i := j) hj))
    exact e
  apply Array.ext
  · rw [size_madeCells]; simp [hl]
  · intro j h1 h2
    rw [size_madeCells] at h1
    have e := hb _ (List.getElem_mem (l := secsC (List.replicate m z64)) (n := j) (by simpa using h2))
    have e2 : (secsC (List.replicate m z64)).toArray[j] = B 0 := by simpa using e
    rw [e2]
    simp only [madeCells, Array.getElem_map, Array.getElem_range, Value.cells]
    rw [show (z64.map B).toArray.size = 64 from rfl]
    exact hz _ (Nat.mod_lt _ (by omega))
theorem info_sec3 : (Try.prog.info? 64).map (fun i => (i.zero, i.size, i.bytes)) = some (some (.agg (z64.map B).toArray), 64, 64) := by kernel_rfl
theorem run_make_secs (w : World) (m : Nat) (hm : m ≤ 8192) : (Instr.makeSlice 58 (.int .i64 (m : Int)) (.int .i64 (m : Int))).run Try.prog w = .ok (.slice (some ⟨w.heap.size, 0, none⟩) m m) (w.alloc (.cells (secsC (List.replicate m z64)).toArray 64)) := by
  obtain ⟨i, hi, hz, hs, hb⟩ := info_parts info_sec3
  have := run_make (P := Try.prog) w 58 64 i _ Try.underlying58 hi hz .i64 .i64 (m : Int) (m : Int) (by omega) (by omega) (by rw [hb]; omega) (by omega)
  rw [hs, Int.toNat_natCast, made_secs] at this
  exact this
theorem wpList_make_secs {ops : Array Oper} {rest : List Oper} {o : Oper} {a : Act} {w : World} {Q : Exit → Act → World → Prop} (hgd : o.guard = none) (x : Operand) (ho : o.op = .makeSlice 58 x x) (k : Int) (hx : a.eval x = .int .i64 k) (m : Nat) (hk : k = (m : Int)) (hm : m ≤ 8192)
    (h : wpList Try.prog ops Q rest (a.put o.dst (.slice (some ⟨w.heap.size, 0, none⟩) m m)) (w.alloc (.cells (secsC (List.replicate m z64)).toArray 64))) : wpList Try.prog ops Q (o :: rest) a w := by
  subst hk
  refine wpList_plain hgd fun K hK => ?_
  have hrun := run_make_secs w m hm
  unfold Oper.wp
  simp [execOp, ho, hx, hrun, Result.andThen]
  exact hK _ _ h

/-- how many sectors there are when so many are asked for -/
def secN (n : Int) : Nat := (min (max n 0) 8192).toNat
/-- a disk at first -/
def DSt.new (m : Nat) : DSt := ⟨List.replicate m z64, [], 0, false⟩
theorem ok_new (m : Nat) (hm : m ≤ 8192) : (DSt.new m).Ok := ⟨fun x hx => by rw [(List.mem_replicate.1 hx).2]; rfl, by simpa [DSt.new] using hm, by simp [DSt.new]⟩
theorem heap2 (w : World) (X Y : Obj) : ((w.alloc X).alloc Y).heap[w.heap.size]? = some X ∧ ((w.alloc X).alloc Y).heap[w.heap.size + 1]? = some Y := by
  refine ⟨(Below.heap_alloc _ _ _ (by simp)).trans (heap_alloc_new w _), ?_⟩
  have := heap_alloc_new (w.alloc X) Y
  rwa [World.size_alloc] at this
set_option maxRecDepth 100000 in
theorem new_any (w : World) (n : Int) : Calls Try.prog 10 #[.int .i64 n] w fun e w' => e = .returned (.pointer (some ⟨w.heap.size + 1, 0, none⟩)) ∧
    DAt w' w.heap.size (w.heap.size + 1) w.heap.size (.slice none 0 0) (DSt.new (secN n)) ∧ Below w.heap.size w w' ∧ w'.heap.size = w.heap.size + 2 := by
  have hm : secN n ≤ 8192 := by unfold secN; omega
  have hn1 : n < 0 → (0 : Int) = (secN n : Int) := fun _ => by unfold secN; omega
  have hn2 : 0 ≤ n → n ≤ 8192 → n = (secN n : Int) := fun _ _ => by unfold secN; omega
  have hn3 : 8192 < n → (8192 : Int) = (secN n : Int) := fun _ => by unfold secN; omega
  have key : DAt ((w.alloc (.cells (secsC (List.replicate (secN n) z64)).toArray 64)).alloc (.cells #[.slice (some ⟨w.heap.size, 0, none⟩) (secN n) (secN n), .slice none 0 0, .int .i64 0, .bool false] 61))
      w.heap.size (w.heap.size + 1) w.heap.size (.slice none 0 0) (DSt.new (secN n)) := by
    obtain ⟨h1, h2⟩ := heap2 w (.cells (secsC (List.replicate (secN n) z64)).toArray 64) (.cells #[.slice (some ⟨w.heap.size, 0, none⟩) (secN n) (secN n), .slice none 0 0, .int .i64 0, .bool false] 61)
    refine ⟨?_, h1, World.ownsRow_nil _ _ _ _, ok_new _ hm, by omega, (fun e => by cases e), (fun e => by cases e), by omega, by omega⟩
    rw [h2]; simp [DSt.cells, DSt.new]
  have Key := Lib.hid key
  have H1 := Lib.hid hn1
  have H2 := Lib.hid hn2
  have H3 := Lib.hid hn3
  clear key hn1 hn2 hn3
  generalize secN n = m at *
  rcases (by omega : n < 0 ∨ (0 ≤ n ∧ n ≤ 8192) ∨ 8192 < n) with hc | ⟨hc, hc2⟩ | hc
  · have hk := Lib.hid (H1.out hc)
    go_enter Try.func10, Try.ntmps10
    go_wp2_with (refine wpList_make_secs rfl (.tmp 7) rfl _ rfl m hk.out hm ?_)
    go_ret
    exact ⟨rfl, Key.out, ((Below.refl _ _).alloc (Nat.le_refl _) _).alloc (by simp) _, by simp⟩
  · have hk := Lib.hid (H2.out hc hc2)
    have d1 : decide (n < 0) = false := by simpa using hc
    have d2 : decide (8192 < n) = false := by simpa using hc2
    go_enter Try.func10, Try.ntmps10
    go_wp2_with (refine wpList_make_secs rfl (.tmp 7) rfl _ rfl m hk.out hm ?_)
    go_ret
    exact ⟨rfl, Key.out, ((Below.refl _ _).alloc (Nat.le_refl _) _).alloc (by simp) _, by simp⟩
  · have hk := Lib.hid (H3.out hc)
    have d1 : decide (n < 0) = false := by simp; omega
    go_enter Try.func10, Try.ntmps10
    go_wp2_with (refine wpList_make_secs rfl (.tmp 7) rfl _ rfl m hk.out hm ?_)
    go_ret
    exact ⟨rfl, Key.out, ((Below.refl _ _).alloc (Nat.le_refl _) _).alloc (by simp) _, by simp⟩
end Go.Proofs.Ytammnjfccjfbhaa
