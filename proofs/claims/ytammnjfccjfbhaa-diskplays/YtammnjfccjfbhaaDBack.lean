/- slices.Backward over the writes that wait: its contract. -/
import Derived.Test.YtammnjfccjfbhaaDWrite
import Derived.Test.YtammnjfccjfbhaaFreshIn
import Derived.RangeFuncNested
import Derived.RangeFuncBound
import Derived.RangeFuncCalls
import Derived.RangeFuncLeaves
import Derived.Shelf.Abstract
import Derived.Shelf.RegionOpen
import Derived.OwnWalkIn
import Derived.TacticsInMore
import Derived.LoopNIn
import Derived.LoopIn
namespace Go.Proofs.Ytammnjfccjfbhaa
open Go.RowKit Go.Shelf
attribute [local go_sem] Oper.semAt_some

/-- blocks below n, but for g, are as they were -/
structure KeptB (n g : Nat) (w w' : World) : Prop where
  os : w'.os = w.os
  tape : w'.tape = w.tape
  output : w'.output = w.output
  size : w.heap.size ≤ w'.heap.size
  block : ∀ k, k < n → k ≠ g → w'.heap[k]? = w.heap[k]?
theorem KeptB.refl (n g : Nat) (w : World) : KeptB n g w w := ⟨rfl, rfl, rfl, Nat.le_refl _, fun _ _ _ => rfl⟩
theorem KeptB.trans {n g : Nat} {a b c : World} (h : KeptB n g a b) (k : KeptB n g b c) : KeptB n g a c :=
  ⟨k.os.trans h.os, k.tape.trans h.tape, k.output.trans h.output, Nat.le_trans h.size k.size, fun i hi hg => (k.block i hi hg).trans (h.block i hi hg)⟩
theorem KeptB.of_grown {n g : Nat} {a b : World} {row : Option Nat} (h : a.grownBy b row) (ha : n ≤ a.heap.size) (hr : ∀ r, row = some r → n ≤ r ∨ r = g) : KeptB n g a b :=
  ⟨h.os, h.tape, h.output, h.size, fun k hk hg => h.block k (by omega) (fun e => by rcases hr k e.symm with h | h <;> omega)⟩
theorem KeptB.put {n g : Nat} {w : World} (hn : n ≤ w.heap.size) (W : World) (l : Nat) (o o' : Obj) (hl : w.heap.size ≤ l) (h : W.heap[l]? = some o) (_ : o.isCells = false) (_ : o.isWalk = false) : KeptB n g W (W.putObj l o') :=
  .of_grown (grownBy_putObj' W l o') (by have := (Array.getElem?_eq_some_iff.1 h).1; omega) (fun r e => by cases e; exact .inl (by omega))
theorem KeptB.of_below {n g : Nat} {a b : World} (h : Below n a b) : KeptB n g a b := ⟨h.os, h.tape, h.output, h.size, fun k hk _ => h.block k hk⟩
theorem KeptB.of_kept1 {n g : Nat} {a b : World} (h : Kept1 g a b) (ha : n ≤ a.heap.size) : KeptB n g a b := ⟨h.os, h.tape, h.output, h.size, fun k hk hg => h.block k (by omega) hg⟩

/-- the cells of one write among those that wait -/
theorem own_range {w : World} {N g cap : Nat} {ws : List WrR} (h : w.ownsRow N 66 129 (.slice (some ⟨g, 0, none⟩) ws.length cap) ws.length (cellsW ws)) (hw : ∀ r ∈ ws, r.before.length = 64 ∧ r.after.length = 64) (i : Nat) (hi : i < ws.length) : w.rangeAt g (i * 129) ws[i].cells := fun j v hv => by
  have hj : j < 129 := by have := (List.getElem?_eq_some_iff.1 hv).1; rwa [length_cells _ (hw _ (List.getElem_mem hi)).1 (hw _ (List.getElem_mem hi)).2] at this
  rw [h.cellAt (i * 129 + j) (by have := Nat.mul_le_mul_right 129 (Nat.succ_le_of_lt hi); omega)]
  unfold cellsW
  rw [get_flat (wide_ws hw) i (by simpa using hi) j hj]
  simpa using hv

set_option maxHeartbeats 1000000 in
/-- slices.Backward of a slice -/
theorem back_any (a : Option Addr) (len cap : Nat) (w : World) : Calls Try.prog 25 #[.slice a len cap] w fun e w' =>
    e = .returned (.func (.func 26) #[] #[.pointer (some ⟨w.heap.size, 0, none⟩)]) ∧ w.alloc (.cells #[.slice a len cap] 59) = w' := by
  go_enter Try.func25, Try.ntmps25
  go_wp2_with fail
  go_ret
  exact ⟨rfl, rfl⟩

theorem wpListIn_run {n : Nat} {P : Program} {ops : Array Oper} {Q : Exit → Act → World → Prop} {rest : List Oper} {o : Oper} {a : Act} {w : World} (hgd : o.guard = none) (v : Value) (w' : World) (hr : (execOp a.eval o).run P w = .ok (.value v) w')
    (h : wpListIn Fence.wide n P ops Q rest (a.put o.dst v) w') : wpListIn Fence.wide n P ops Q (o :: rest) a w := by
  unfold wpListIn
  rw [if_pos (by simp [Region.wanted, hgd])]
  refine ⟨fun _ _ => trivial, ?_⟩
  show o.uponIn _ _ _ _ _ _ ((Oper.semAt none a.eval o).run P w)
  rw [Oper.semAt_none, hr]
  exact h
set_option maxRecDepth 100000 in
set_option maxHeartbeats 2000000 in
/-- its closure, at a slice that is not nil -/
theorem back1_in (n : Nat) (l Bs n₀ gs g cap N : Nat) (ws : List WrR) (hlen : ws.length ≤ 1000) (hw : ∀ r ∈ ws, r.before.length = 64 ∧ r.after.length = 64) (hg : g < n₀) (hB : Bs < n₀) (hgg : g ≠ gs) (hBg : Bs ≠ gs) (J Jx : List (Fin ws.length) → World → Prop)
    (hY : ∀ pre (x : Fin ws.length) W, J pre W → pre.length < ws.length → YieldAt Fence.wide (n - 1) Try.prog l #[.int .i64 ((x.val : Nat) : Int), .agg (ws.get x).cells.toArray] W fun e W' =>
      (e = .returned (.bool true) ∧ J (pre ++ [x]) W' ∧ KeptB n₀ gs W W') ∨ (e = .returned (.bool false) ∧ Jx (pre ++ [x]) W'))
    (W : World) (hBs : W.cell? ⟨Bs, 0, none⟩ = some (.slice (some ⟨g, 0, none⟩) ws.length cap)) (hown : W.ownsRow N 66 129 (.slice (some ⟨g, 0, none⟩) ws.length cap) ws.length (cellsW ws)) (h0 : J [] W) :
    CallsIn Fence.wide n Try.prog 26 #[.func (.yield l) #[] #[], .pointer (some ⟨Bs, 0, none⟩)] W fun e W' => (∃ v, e = .returned v) ∧
      ((∃ ys : List (Fin ws.length), ys.map ws.get = ws.reverse ∧ J ys W') ∨ (∃ pre, True ∧ Jx pre W')) := by
  refine callsIn_of_wp Try.func26 rfl trivial ?_ rfl
  simp only [Try.ntmps26, List.size_toArray, List.length_cons, List.length_nil, Nat.reduceAdd, Nat.reduceSub, Array.replicate_succ, Array.replicate_zero, List.push_toArray, List.append_toArray, List.nil_append, List.cons_append]
  gi_wp2
  gi_loopw [3] (fun i wr => ∃ (k : Nat) (pre : List (Fin ws.length)), k ≤ ws.length ∧ i = .int .i64 ((ws.length : Int) - 1 - k) ∧ pre.length = k ∧ pre.map ws.get = ws.reverse.take k ∧ J pre wr ∧ KeptB n₀ gs W wr)
    (fun i _ => ((intOf i) + 1).toNat)
  case atStart => exact ⟨0, [], Nat.zero_le _, by simp, rfl, by simp, h0, KeptB.refl _ _ _⟩
  case round =>
    obtain ⟨k, pre, hk, rfl, hpl, hpm, hJs, hkb⟩ := hrel
    by_cases hlt : k < ws.length
    · obtain ⟨m, hm⟩ : ∃ m, m = ws.length - 1 - k := ⟨_, rfl⟩
      have hmi : (ws.length : Int) - 1 - k = (m : Int) := by omega
      have hml : m < ws.length := by omega
      obtain ⟨fn, tmps, assign, body, hy, hR⟩ := hY pre ⟨m, hml⟩ wr hJs (by omega)
      dsimp only at hy
      have hnx : (pre ++ [(⟨m, hml⟩ : Fin ws.length)]).map ws.get = ws.reverse.take (k + 1) := by
        rw [List.map_append, hpm, List.take_succ_eq_append_getElem (by simp; omega)]
        congr 1
        simp [List.getElem_reverse, hm]
      have hg2 : wr.heap[g]? = W.heap[g]? := hkb.block g hg hgg
      have hrange : wr.rangeAt g (m * 129) (ws.get ⟨m, hml⟩).cells := own_range (own_same hown fun g' e => by injection e with e; subst e; exact hg2) hw m hml
      have hcB : wr.cell? ⟨Bs, 0, none⟩ = some (.slice (some ⟨g, 0, none⟩) ws.length cap) := (World.cell?_of_block (w := W) (a := ⟨Bs, 0, none⟩) (hkb.block Bs hB hBg)).trans hBs
      have hcl := length_cells (ws.get ⟨m, hml⟩) (hw _ (List.get_mem ws _)).1 (hw _ (List.get_mem ws _)).2
      have d1 : decide ((m : Int) ≥ 0) = true := by simp
      have d2 : (m : Int) < (ws.length : Int) := by omega
      rw [hmi]
      generalize (ws.get ⟨m, hml⟩).cells = L at *
      have Hnx := Lib.hid hnx
      have Hkb := Lib.hid hkb
      have Hpl := Lib.hid hpl
      have Hr := Lib.hid hrange
      have Hcl := Lib.hid hcl
      have Hm := Lib.hid hm
      clear hnx hkb hpl hpm hrange hcl hm hmi hg2 hown hBs hw hY
      gi_wp2_with (refine wpListIn_run rfl _ _ (run_load_op 66 (.tmp 15) rfl g (m * 129) rfl L _ Hr.out Try.underlying66 rfl (info_wr _ Hcl.out)) ?_)
      refine ⟨fun h => (by simp [Fence.wide] at h), hR.mono ?_⟩
      rintro e W3 (⟨rfl, hJ3, hk3⟩ | ⟨rfl, hJx3⟩)
      · have Hk3 := Lib.hid (Hkb.out.trans hk3)
        have HJ3 := Lib.hid hJ3
        clear hk3 hJ3 hR hy
        gi_wp2
        go_roundw
        case rel => exact ⟨k + 1, pre ++ [⟨m, hml⟩], by omega, by have := Hm.out; congr 1; omega, by have := Hpl.out; simp; omega, Hnx.out, HJ3.out, Hk3.out⟩
        case measure => simp [intOf]
      · have HJ3 := Lib.hid hJx3
        clear hJx3 hR hy
        gi_wp2
        refine bodyPost_ret (results_none rfl _ _ _) rfl ?_
        exact ⟨⟨_, rfl⟩, .inr ⟨_, trivial, HJ3.out⟩⟩
    · obtain rfl : k = ws.length := by omega
      have e : ((ws.length : Int) - 1 - (ws.length : Nat)) = -1 := by omega
      rw [e]
      rw [List.take_of_length_le (by simp)] at hpm
      have Hpm := Lib.hid hpm
      clear hpm hpl
      gi_wp2
      go_end0
      exact ⟨⟨_, rfl⟩, .inl ⟨pre, Hpm.out, hJs⟩⟩
set_option maxRecDepth 100000 in
set_option maxHeartbeats 1000000 in
/-- .. at the nil slice: no round -/
theorem back1_nil_in (n l Bs : Nat) {α : Type} (J : List α → World → Prop) (W : World) (hBs : W.cell? ⟨Bs, 0, none⟩ = some (.slice none 0 0)) (h0 : J [] W) :
    CallsIn Fence.wide n Try.prog 26 #[.func (.yield l) #[] #[], .pointer (some ⟨Bs, 0, none⟩)] W fun e W' => (∃ v, e = .returned v) ∧ J [] W' := by
  refine callsIn_of_wp Try.func26 rfl trivial ?_ rfl
  simp only [Try.ntmps26, List.size_toArray, List.length_cons, List.length_nil, Nat.reduceAdd, Nat.reduceSub, Array.replicate_succ, Array.replicate_zero, List.push_toArray, List.append_toArray, List.nil_append, List.cons_append]
  gi_wp2
  gi_loopw [3] (fun i wr => i = .int .i64 (-1) ∧ J [] wr) (fun _ _ => 0)
  case atStart => exact ⟨rfl, h0⟩
  case round =>
    obtain ⟨rfl, hJs⟩ := hrel
    gi_wp2
    go_end0
    exact ⟨⟨_, rfl⟩, hJs⟩
/-- Backward's contract over the writes that wait -/
theorem back_stops (n Bs n₀ gs N : Nat) (v : Value) (ws : List WrR) (hlen : ws.length ≤ 1000) (hw : ∀ r ∈ ws, r.before.length = 64 ∧ r.after.length = 64) (w : World) (hB : Bs < n₀) (hBg : Bs ≠ gs) (hn₀ : n₀ ≤ w.heap.size)
    (hv : ∀ g, v.ownBlock = some g → g < n₀ ∧ g ≠ gs) (hc : w.cell? ⟨Bs, 0, none⟩ = some v) (hown : w.ownsRow N 66 129 v ws.length (cellsW ws)) :
    SeqStopsK Fence.wide n Try.prog 26 #[.pointer (some ⟨Bs, 0, none⟩)] (fun x : Fin ws.length => #[Value.int .i64 ((x.val : Nat) : Int), .agg (ws.get x).cells.toArray]) (KeptB n₀ gs)
      (fun ys => ys.map ws.get = ws.reverse) (fun _ => True) ws.length w := fun l J Jx W hW _ _ hY h0 => by
  have hc' := (hW.cell (p := ⟨Bs, 0, none⟩) (by show Bs < _; omega)).trans hc
  have hown' := own_same (w' := W) hown fun g hg => hW.block g (by have := (hv g hg).1; omega)
  rcases hown.2 with ⟨rfl, hn⟩ | ⟨g, cap, cur, rfl, _⟩
  · have hws : ws = [] := List.eq_nil_of_length_eq_zero hn
    subst hws
    exact (back1_nil_in n l Bs J W hc' h0).mono fun e W' ⟨he, hj⟩ => ⟨he, .inl ⟨_, rfl, hj⟩⟩
  · obtain ⟨h1, h2⟩ := hv g rfl
    exact back1_in n l Bs n₀ gs g cap N ws hlen hw h1 hB h2 hBg J Jx hY W hc' hown' h0
end Go.Proofs.Ytammnjfccjfbhaa
