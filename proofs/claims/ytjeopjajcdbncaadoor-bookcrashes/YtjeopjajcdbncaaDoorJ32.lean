/- What is proved of a region goes into a round of a loop over a function. No program is named here; slices.Backward over the writes that wait: its contract; Crash. -/
import Derived.Test.YtjeopjajcdbncaaDoorJ06
import Derived.OrdersIn
import Derived.TacticsIn
import Derived.RangeFuncCalls
import Derived.Test.YtjeopjajcdbncaaDoorJ31
import Derived.RangeFuncNested
import Derived.RangeFuncBound
import Derived.RangeFuncLeaves
import Derived.Shelf.Abstract
import Derived.Shelf.RegionOpen
import Derived.OwnWalkIn
import Derived.TacticsInMore
import Derived.LoopNIn
import Derived.LoopIn
namespace Go.Proofs.YtjeopjajcdbncaaDoor
open Go RowKit

section
variable {P : Program} {ops : Array Oper} {Q : Exit → Act → World → Prop} {md : Region.Mode}
set_option maxRecDepth 100000 in
theorem upon_in {o : Oper} {a : Act} {K K' : Act → World → Prop} (hK : ∀ a w, K a w → K' a w) (l n : Nat) {r : Result Next} (h : o.upon P a K Q r) : o.uponIn (Fence.wide.inRound l) n P a K' Q r := by
  cases r with
  | ok x w' =>
    cases x <;> simp only [Oper.upon, Oper.uponIn] at h ⊢
    case value => exact hK _ _ h
    case skip => exact hK _ _ h
    case defer => exact hK _ _ h
    case enter f args =>
      refine ⟨fun h => (by simp [Fence.wide] at h), CallsIn.inRound l ((callsIn_wide.2 h).mono fun e w'' he => ?_)⟩
      cases e with
      | returned v => exact hK _ _ he
      | panicked c => exact he
      | outgrown => exact he
    case row row args =>
      refine ⟨fun h => (by simp [Fence.wide] at h), fun c cs _ => ?_⟩
      obtain ⟨v, w'', hr, hs⟩ := h c cs
      exact ⟨v, w'', hK _ _ hr, stepsIn_wide.2 hs⟩
  | halt x w' => cases x <;> simp only [Oper.upon, Oper.uponIn] at h ⊢ <;> exact h
set_option maxRecDepth 100000 in
theorem wp_in {o : Oper} {a : Act} {w : World} {K K' : Act → World → Prop} (hd : ∀ c, o.op ≠ .defer c) (hK : ∀ a w, K a w → K' a w) (l n : Nat) (h : o.wp P a w K Q) : o.wpIn (Fence.wide.inRound l) n P a w K' Q := by
  refine ⟨fun _ _ => trivial, ?_⟩
  show o.uponIn _ _ _ _ _ _ ((Oper.semAt (some l) a.eval o).run P w)
  rw [Oper.semAt_some l _ _ hd]
  exact upon_in hK l n h
set_option maxRecDepth 100000 in
theorem wpOp_in {i : Nat} {a : Act} {w : World} {K K' : Act → World → Prop} (hd : ∀ (j : Nat) (o : Oper) c, ops[j]? = some o → o.op ≠ .defer c) (hQ : ¬ LetsOut Q) (hK : ∀ a w, K a w → K' a w) (l n : Nat) (h : wpOp P ops Q i K a w) :
    wpOpIn (Fence.wide.inRound l) n P ops Q i K' a w := by
  unfold wpOp at h
  unfold wpOpIn
  cases ho : ops[i]? with
  | none => rw [ho] at h; exact hK _ _ h
  | some o =>
    rw [ho] at h
    simp only at h ⊢
    by_cases hw : Region.wanted o (yielded ops a.tmps) = true
    · rw [if_pos hw] at h ⊢
      rcases h with h | ⟨_, h⟩
      · exact wp_in (fun c => hd i o c ho) hK l n h
      · exact absurd h hQ
    · rw [if_neg hw] at h ⊢
      exact ⟨fun _ _ => trivial, hK _ _ h⟩
set_option maxRecDepth 100000 in
theorem wpAny_in (hd : ∀ (j : Nat) (o : Oper) c, ops[j]? = some o → o.op ≠ .defer c) (hQ : ¬ LetsOut Q) (l n : Nat) : ∀ (fuel : Nat) (listed : Array Bool) (a : Act) (w : World), wpAny P md ops Q fuel listed a w → wpAnyIn (Fence.wide.inRound l) n P md ops Q fuel listed a w
  | 0, _, _, _, h => h
  | fuel + 1, _, _, _, h => ⟨h.1, fun i hi => wpOp_in hd hQ (fun a w h => wpAny_in hd hQ l n fuel _ a w h) l n (h.2 i hi)⟩
def noDefer (o : Oper) : Bool := match o.op with | .defer _ => false | _ => true
set_option maxRecDepth 100000 in
theorem noDefer_spec {l : List Oper} (h : l.all noDefer = true) : ∀ (j : Nat) (o : Oper) c, l.toArray[j]? = some o → o.op ≠ .defer c := fun j o c hj e => by
  have := List.all_eq_true.1 h o (List.mem_of_getElem? (by simpa using hj))
  simp [noDefer, e] at this
set_option maxRecDepth 100000 in
/-- a region that draws its order, in a round -/
theorem wpIn_region_of {id : Nat} {a : Act} {w : World} {l : List Oper} (L n : Nat) (hm : P.follows .mixedOrders = true) (hd : l.all noDefer = true) (hQ : ¬ LetsOut Q) (h : wpAny P .any l.toArray Q l.toArray.size (Array.replicate l.toArray.size false) a (w.drewN 1)) :
    (Code.region id l.toArray true).wpIn (Fence.wide.inRound L) n P Q a w := wpIn_region_any hm (wpAny_in (noDefer_spec hd) hQ L n _ _ _ _ h)
set_option maxRecDepth 100000 in
theorem wpList_in {ops : Array Oper} : ∀ (l : List Oper) (a : Act) (w : World), l.all noDefer = true → ∀ (L n : Nat), wpList P ops Q l a w → ¬ LetsOut Q → wpListIn (Fence.wide.inRound L) n P ops Q l a w
  | [], _, _, _, _, _, h, _ => h
  | o :: rest, a, w, hd, L, n, h, hQ => by
    simp only [List.all_cons, Bool.and_eq_true] at hd
    have hdo : ∀ c, o.op ≠ .defer c := fun c e => by have := hd.1; simp [noDefer, e] at this
    unfold wpList at h
    unfold wpListIn
    by_cases hw : Region.wanted o (yielded ops a.tmps) = true
    · rw [if_pos hw] at h ⊢
      exact wp_in hdo (fun a' w' h' => wpList_in rest a' w' hd.2 L n h' hQ) L n (h.resolve_right fun x => hQ x.2)
    · rw [if_neg hw] at h ⊢
      exact ⟨fun _ _ => trivial, wpList_in rest _ _ hd.2 L n h hQ⟩
end
end Go.Proofs.YtjeopjajcdbncaaDoor
namespace Go.Proofs.YtjeopjajcdbncaaDoor
open Go.RowKit Go.Shelf
attribute [local go_sem] Oper.semAt_some

/-- blocks below n, but for g, are as they were -/
structure KeptB (n g : Nat) (w w' : World) : Prop where
  os : w'.os = w.os
  tape : w'.tape = w.tape
  output : w'.output = w.output
  size : w.heap.size ≤ w'.heap.size
  block : ∀ k, k < n → k ≠ g → w'.heap[k]? = w.heap[k]?
set_option maxRecDepth 100000 in
theorem KeptB.refl (n g : Nat) (w : World) : KeptB n g w w := ⟨rfl, rfl, rfl, Nat.le_refl _, fun _ _ _ => rfl⟩
set_option maxRecDepth 100000 in
theorem KeptB.trans {n g : Nat} {a b c : World} (h : KeptB n g a b) (k : KeptB n g b c) : KeptB n g a c :=
  ⟨k.os.trans h.os, k.tape.trans h.tape, k.output.trans h.output, Nat.le_trans h.size k.size, fun i hi hg => (k.block i hi hg).trans (h.block i hi hg)⟩
set_option maxRecDepth 100000 in
theorem KeptB.of_grown {n g : Nat} {a b : World} {row : Option Nat} (h : a.grownBy b row) (ha : n ≤ a.heap.size) (hr : ∀ r, row = some r → n ≤ r ∨ r = g) : KeptB n g a b :=
  ⟨h.os, h.tape, h.output, h.size, fun k hk hg => h.block k (by omega) (fun e => by rcases hr k e.symm with h | h <;> omega)⟩
set_option maxRecDepth 100000 in
theorem KeptB.put {n g : Nat} {w : World} (hn : n ≤ w.heap.size) (W : World) (l : Nat) (o o' : Obj) (hl : w.heap.size ≤ l) (h : W.heap[l]? = some o) (_ : o.isCells = false) (_ : o.isWalk = false) : KeptB n g W (W.putObj l o') :=
  .of_grown (grownBy_putObj' W l o') (by have := (Array.getElem?_eq_some_iff.1 h).1; omega) (fun r e => by cases e; exact .inl (by omega))
set_option maxRecDepth 100000 in
theorem KeptB.of_below {n g : Nat} {a b : World} (h : Below n a b) : KeptB n g a b := ⟨h.os, h.tape, h.output, h.size, fun k hk _ => h.block k hk⟩
set_option maxRecDepth 100000 in
theorem KeptB.of_kept1 {n g : Nat} {a b : World} (h : Kept1 g a b) (ha : n ≤ a.heap.size) : KeptB n g a b := ⟨h.os, h.tape, h.output, h.size, fun k hk hg => h.block k (by omega) hg⟩

set_option maxRecDepth 100000 in
/-- the cells of one write among those that wait -/
theorem own_rangeW {w : World} {N g cap : Nat} {ws : List WrR} (h : w.ownsRow N 82 129 (.slice (some ⟨g, 0, none⟩) ws.length cap) ws.length (cellsW ws)) (hw : ∀ r ∈ ws, r.before.length = 64 ∧ r.after.length = 64) (i : Nat) (hi : i < ws.length) : w.rangeAt g (i * 129) ws[i].cells := fun j v hv => by
  have hj : j < 129 := by have := (List.getElem?_eq_some_iff.1 hv).1; rwa [length_cells _ (hw _ (List.getElem_mem hi)).1 (hw _ (List.getElem_mem hi)).2] at this
  rw [h.cellAt (i * 129 + j) (by have := Nat.mul_le_mul_right 129 (Nat.succ_le_of_lt hi); omega)]
  unfold cellsW
  rw [get_flat (wide_ws hw) i (by simpa using hi) j hj]
  simpa using hv

set_option maxRecDepth 100000 in
set_option maxHeartbeats 1000000 in
/-- slices.Backward of a slice -/
theorem back_any (a : Option Addr) (len cap : Nat) (w : World) : Calls Tryd.prog 36 #[.slice a len cap] w fun e w' =>
    e = .returned (.func (.func 48) #[] #[.pointer (some ⟨w.heap.size, 0, none⟩)]) ∧ w.alloc (.cells #[.slice a len cap] 58) = w' := by
  go_enter Tryd.func36, Tryd.ntmps36
  go_wp2_with fail
  go_ret
  exact ⟨rfl, rfl⟩

set_option maxRecDepth 100000 in
theorem wpListIn_run {n : Nat} {P : Program} {ops : Array Oper} {Q : Exit → Act → World → Prop} {rest : List Oper} {o : Oper} {a : Act} {w : World} (hgd : o.guard = none) (v : Value) (w' : World) (hr : (execOp a.eval o).run P w = .ok (.value v) w')
    (h : wpListIn Fence.wide n P ops Q rest (a.put o.dst v) w') : wpListIn Fence.wide n P ops Q (o :: rest) a w := by
  unfold wpListIn
  rw [if_pos (by simp [Region.wanted, hgd])]
  refine ⟨fun _ _ => trivial, ?_⟩
  show o.uponIn _ _ _ _ _ _ ((Oper.semAt none a.eval o).run P w)
  rw [Oper.semAt_none, hr]
  exact h
set_option maxRecDepth 100000 in
set_option maxHeartbeats 2000000 in
/-- its closure, at a slice that is not nil -/
theorem back1_in (n : Nat) (l Bs n₀ gs g cap N : Nat) (ws : List WrR) (hlen : ws.length ≤ 1000) (hw : ∀ r ∈ ws, r.before.length = 64 ∧ r.after.length = 64) (hg : g < n₀) (hB : Bs < n₀) (hgg : g ≠ gs) (hBg : Bs ≠ gs) (J Jx : List (Fin ws.length) → World → Prop)
    (hY : ∀ pre (x : Fin ws.length) W, J pre W → pre.length < ws.length → YieldAt Fence.wide (n - 1) Tryd.prog l #[.int .i64 ((x.val : Nat) : Int), .agg (ws.get x).cells.toArray] W fun e W' =>
      (e = .returned (.bool true) ∧ J (pre ++ [x]) W' ∧ KeptB n₀ gs W W') ∨ (e = .returned (.bool false) ∧ Jx (pre ++ [x]) W'))
    (W : World) (hBs : W.cell? ⟨Bs, 0, none⟩ = some (.slice (some ⟨g, 0, none⟩) ws.length cap)) (hown : W.ownsRow N 82 129 (.slice (some ⟨g, 0, none⟩) ws.length cap) ws.length (cellsW ws)) (h0 : J [] W) :
    CallsIn Fence.wide n Tryd.prog 48 #[.func (.yield l) #[] #[], .pointer (some ⟨Bs, 0, none⟩)] W fun e W' => (∃ v, e = .returned v) ∧
      ((∃ ys : List (Fin ws.length), ys.map ws.get = ws.reverse ∧ J ys W') ∨ (∃ pre, True ∧ Jx pre W')) := by
  refine callsIn_of_wp Tryd.func48 rfl trivial ?_ rfl
  simp only [Tryd.ntmps48, List.size_toArray, List.length_cons, List.length_nil, Nat.reduceAdd, Nat.reduceSub, Array.replicate_succ, Array.replicate_zero, List.push_toArray, List.append_toArray, List.nil_append, List.cons_append]
  gi_wp2
  gi_loopw [3] (fun i wr => ∃ (k : Nat) (pre : List (Fin ws.length)), k ≤ ws.length ∧ i = .int .i64 ((ws.length : Int) - 1 - k) ∧ pre.length = k ∧ pre.map ws.get = ws.reverse.take k ∧ J pre wr ∧ KeptB n₀ gs W wr)
    (fun i _ => ((intOf i) + 1).toNat)
  case atStart => exact ⟨0, [], Nat.zero_le _, by simp, rfl, by simp, h0, KeptB.refl _ _ _⟩
  case round =>
    obtain ⟨k, pre, hk, rfl, hpl, hpm, hJs, hkb⟩ := hrel
    by_cases hlt : k < ws.length
    · obtain ⟨m, hm⟩ : ∃ m, m = ws.length - 1 - k := ⟨_, rfl⟩
      have hmi : (ws.length : Int) - 1 - k = (m : Int) := by omega
      have hml : m < ws.length := by omega
      obtain ⟨fn, tmps, assign, body, hy, hR⟩ := hY pre ⟨m, hml⟩ wr hJs (by omega)
      dsimp only at hy
      have hnx : (pre ++ [(⟨m, hml⟩ : Fin ws.length)]).map ws.get = ws.reverse.take (k + 1) := by
        rw [List.map_append, hpm, List.take_succ_eq_append_getElem (by simp; omega)]
        congr 1
        simp [List.getElem_reverse, hm]
      have hg2 : wr.heap[g]? = W.heap[g]? := hkb.block g hg hgg
      have hrange : wr.rangeAt g (m * 129) (ws.get ⟨m, hml⟩).cells := own_rangeW (own_same hown fun g' e => by injection e with e; subst e; exact hg2) hw m hml
      have hcB : wr.cell? ⟨Bs, 0, none⟩ = some (.slice (some ⟨g, 0, none⟩) ws.length cap) := (World.cell?_of_block (w := W) (a := ⟨Bs, 0, none⟩) (hkb.block Bs hB hBg)).trans hBs
      have hcl := length_cells (ws.get ⟨m, hml⟩) (hw _ (List.get_mem ws _)).1 (hw _ (List.get_mem ws _)).2
      have d1 : decide ((m : Int) ≥ 0) = true := by simp
      have d2 : (m : Int) < (ws.length : Int) := by omega
      rw [hmi]
      generalize (ws.get ⟨m, hml⟩).cells = L at *
      have Hnx := Lib.hid hnx
      have Hkb := Lib.hid hkb
      have Hpl := Lib.hid hpl
      have Hr := Lib.hid hrange
      have Hcl := Lib.hid hcl
      have Hm := Lib.hid hm
      clear hnx hkb hpl hpm hrange hcl hm hmi hg2 hown hBs hw hY
      gi_wp2_with (refine wpListIn_run rfl _ _ (run_load_op 82 (.tmp 15) rfl g (m * 129) rfl L _ Hr.out Tryd.underlying82 rfl (info_wr _ Hcl.out)) ?_)
      refine ⟨fun h => (by simp [Fence.wide] at h), hR.mono ?_⟩
      rintro e W3 (⟨rfl, hJ3, hk3⟩ | ⟨rfl, hJx3⟩)
      · have Hk3 := Lib.hid (Hkb.out.trans hk3)
        have HJ3 := Lib.hid hJ3
        clear hk3 hJ3 hR hy
        gi_wp2
        go_roundw
        case rel => exact ⟨k + 1, pre ++ [⟨m, hml⟩], by omega, by have := Hm.out; congr 1; omega, by have := Hpl.out; simp; omega, Hnx.out, HJ3.out, Hk3.out⟩
        case measure => simp [intOf]
      · have HJ3 := Lib.hid hJx3
        clear hJx3 hR hy
        gi_wp2
        refine bodyPost_ret (results_none rfl _ _ _) rfl ?_
        exact ⟨⟨_, rfl⟩, .inr ⟨_, trivial, HJ3.out⟩⟩
    · obtain rfl : k = ws.length := by omega
      have e : ((ws.length : Int) - 1 - (ws.length : Nat)) = -1 := by omega
      rw [e]
      rw [List.take_of_length_le (by simp)] at hpm
      have Hpm := Lib.hid hpm
      clear hpm hpl
      gi_wp2
      go_end0
      exact ⟨⟨_, rfl⟩, .inl ⟨pre, Hpm.out, hJs⟩⟩
set_option maxRecDepth 100000 in
set_option maxHeartbeats 1000000 in
/-- .. at the nil slice: no round -/
theorem back1_nil_in (n l Bs : Nat) {α : Type} (J : List α → World → Prop) (W : World) (hBs : W.cell? ⟨Bs, 0, none⟩ = some (.slice none 0 0)) (h0 : J [] W) :
    CallsIn Fence.wide n Tryd.prog 48 #[.func (.yield l) #[] #[], .pointer (some ⟨Bs, 0, none⟩)] W fun e W' => (∃ v, e = .returned v) ∧ J [] W' := by
  refine callsIn_of_wp Tryd.func48 rfl trivial ?_ rfl
  simp only [Tryd.ntmps48, List.size_toArray, List.length_cons, List.length_nil, Nat.reduceAdd, Nat.reduceSub, Array.replicate_succ, Array.replicate_zero, List.push_toArray, List.append_toArray, List.nil_append, List.cons_append]
  gi_wp2
  gi_loopw [3] (fun i wr => i = .int .i64 (-1) ∧ J [] wr) (fun _ _ => 0)
  case atStart => exact ⟨rfl, h0⟩
  case round =>
    obtain ⟨rfl, hJs⟩ := hrel
    gi_wp2
    go_end0
    exact ⟨⟨_, rfl⟩, hJs⟩
set_option maxRecDepth 100000 in
/-- Backward's contract over the writes that wait -/
theorem back_stops (n Bs n₀ gs N : Nat) (v : Value) (ws : List WrR) (hlen : ws.length ≤ 1000) (hw : ∀ r ∈ ws, r.before.length = 64 ∧ r.after.length = 64) (w : World) (hB : Bs < n₀) (hBg : Bs ≠ gs) (hn₀ : n₀ ≤ w.heap.size)
    (hv : ∀ g, v.ownBlock = some g → g < n₀ ∧ g ≠ gs) (hc : w.cell? ⟨Bs, 0, none⟩ = some v) (hown : w.ownsRow N 82 129 v ws.length (cellsW ws)) :
    SeqStopsK Fence.wide n Tryd.prog 48 #[.pointer (some ⟨Bs, 0, none⟩)] (fun x : Fin ws.length => #[Value.int .i64 ((x.val : Nat) : Int), .agg (ws.get x).cells.toArray]) (KeptB n₀ gs)
      (fun ys => ys.map ws.get = ws.reverse) (fun _ => True) ws.length w := fun l J Jx W hW _ _ hY h0 => by
  have hc' := (hW.cell (p := ⟨Bs, 0, none⟩) (by show Bs < _; omega)).trans hc
  have hown' := own_same (w' := W) hown fun g hg => hW.block g (by have := (hv g hg).1; omega)
  rcases hown.2 with ⟨rfl, hn⟩ | ⟨g, cap, cur, rfl, _⟩
  · have hws : ws = [] := List.eq_nil_of_length_eq_zero hn
    subst hws
    exact (back1_nil_in n l Bs J W hc' h0).mono fun e W' ⟨he, hj⟩ => ⟨he, .inl ⟨_, rfl, hj⟩⟩
  · obtain ⟨h1, h2⟩ := hv g rfl
    exact back1_in n l Bs n₀ gs g cap N ws hlen hw h1 hB h2 hBg J Jx hY W hc' hown' h0
end Go.Proofs.YtjeopjajcdbncaaDoor
namespace Go.Proofs.YtjeopjajcdbncaaDoor
open Go.RowKit Go.Shelf
attribute [local go_sem] Oper.semAt_some

/-- sectors with what stood there ahead of these writes -/
def undoL (S : List (List UInt8)) (l : List WrR) : List (List UInt8) := l.foldl (fun S r => S.set r.place r.before) S
/-- sectors with those of the writes that are picked -/
def redoL : List Bool → List WrR → List (List UInt8) → List (List UInt8)
  | b :: bs, r :: ws, S => redoL bs ws (if b then S.set r.place r.after else S)
  | _, _, S => S
set_option maxRecDepth 100000 in
theorem undoL_snoc (S : List (List UInt8)) (l : List WrR) (r : WrR) : undoL S (l ++ [r]) = (undoL S l).set r.place r.before := by simp [undoL]
set_option maxRecDepth 100000 in
theorem length_undoL (l : List WrR) : ∀ S, (undoL S l).length = S.length := by
  induction l with
  | nil => intro S; rfl
  | cons r l ih => intro S; simp only [undoL, List.foldl_cons] at ih ⊢; rw [ih]; simp
set_option maxRecDepth 100000 in
theorem redoL_snoc : ∀ (bs : List Bool) (ws : List WrR) (S : List (List UInt8)) (k : Nat) (hk : k < ws.length),
    redoL bs (ws.take (k + 1)) S = if bs.getD k false then (redoL bs (ws.take k) S).set ws[k].place ws[k].after else redoL bs (ws.take k) S
  | [], r :: ws, S, k, hk => by cases k <;> simp [redoL]
  | b :: bs, r :: ws, S, 0, hk => by simp [redoL]
  | b :: bs, r :: ws, S, k + 1, hk => by
    have := redoL_snoc bs ws (if b then S.set r.place r.after else S) k (by simpa using hk)
    simpa [redoL] using this
set_option maxRecDepth 100000 in
theorem length_redoL : ∀ (bs : List Bool) (ws : List WrR) (S : List (List UInt8)), (redoL bs ws S).length = S.length
  | b :: bs, r :: ws, S => by rw [redoL, length_redoL bs ws]; split <;> simp
  | [], _, S => by simp [redoL]
  | _ :: _, [], S => by simp [redoL]
/-- the state behind a crash -/
def DSt.crash (s : DSt) (bs : List Bool) : DSt := ⟨redoL bs s.ws (undoL s.S s.ws.reverse), [], 0, false⟩

section
variable {P : Program} {ops : Array Oper} {Q : Exit → Act → World → Prop} {rest : List Oper} {o : Oper} {a : Act} {w : World}
set_option maxRecDepth 100000 in
theorem wpList_run (hgd : o.guard = none) (v : Value) (w' : World) (hr : (execOp a.eval o).run P w = .ok (.value v) w') (h : wpList P ops Q rest (a.put o.dst v) w') : wpList P ops Q (o :: rest) a w := by
  refine wpList_plain hgd fun K hK => ?_
  unfold Oper.wp
  rw [hr]
  exact hK _ _ h
end
/-- a disk in mid-crash -/
structure Mid (w W0 : World) (N d gs : Nat) (v : Value) (s : DSt) (S : List (List UInt8)) (W : World) : Prop where
  at' : DAt W N d gs v { s with S := S }
  box : W.heap[w.heap.size]? = some (.cells #[.pointer (some ⟨d, 0, none⟩)] 25 (0, 0))
  kept : KeptB W0.heap.size gs W0 W
set_option maxRecDepth 100000 in
theorem Mid.own {w W0 : World} {N d gs : Nat} {v : Value} {s : DSt} {β : Type} (f : β → List (List UInt8)) (h0 : DAt w N d gs v s) (hW : w.heap.size + 1 ≤ W0.heap.size) : OwnFrom W0.heap.size (fun (x : β) W => Mid w W0 N d gs v s (f x) W) := fun x A B row hs hg hr => by
  have hne : ∀ k, k < W0.heap.size → row ≠ some k := fun k hk e => by have := (hr k e).1; omega
  have hsz := hs.kept.size
  refine ⟨hs.at'.same fun k hk => hg.block k (hs.at'.footN hk).2 (Ne.symm (hne k (by have := (h0.footN hk).2; omega))), ?_, hs.kept.trans (.of_grown hg hsz fun r e => .inl (hr r e).1)⟩
  exact (hg.block _ (lt_block hs.box) (Ne.symm (hne _ (by omega)))).trans hs.box

set_option maxRecDepth 100000 in
theorem Mid.below {w W0 W W' : World} {N d gs : Nat} {v : Value} {s : DSt} {S : List (List UInt8)} (h : Mid w W0 N d gs v s S W) (hb : Below W.heap.size W W') : Mid w W0 N d gs v s S W' :=
  ⟨h.at'.below hb, (hb.block _ (lt_block h.box)).trans h.box, h.kept.trans (.of_below (hb.mono h.kept.size))⟩
set_option maxRecDepth 100000 in
theorem Mid.put {w W0 W : World} {N d gs : Nat} {v : Value} {s : DSt} {S : List (List UInt8)} (h : Mid w W0 N d gs v s S W) (hg : gs ≠ w.heap.size) (i : Nat) (hi : i < S.length) (b : List UInt8) (hb : b.length = 64) :
    Mid w W0 N d gs v s (S.set i b) (W.setCells gs (i * 64) (b.map B)) ∧ Kept1 gs W (W.setCells gs (i * 64) (b.map B)) := by
  obtain ⟨D5, K5⟩ := h.at'.put i hi b hb
  exact ⟨⟨D5, (K5.block _ (lt_block h.box) (Ne.symm hg)).trans h.box, h.kept.trans (.of_kept1 K5 h.kept.size)⟩, K5⟩
set_option maxRecDepth 100000 in
set_option maxHeartbeats 4000000 in
theorem crash_any (w : World) (N d gs : Nat) (v : Value) (s : DSt) (h : DAt w N d gs v s) (hws : s.ws.length ≤ 1000) (pa : Option Addr) (pg po pc : Nat) (bs : List Bool) (hbl : bs.length ≤ 100000)
    (hpa : bs ≠ [] → pa = some ⟨pg, po, none⟩) (hpc : ∀ j, (hj : j < bs.length) → w.cell? ⟨pg, po + j, none⟩ = some (.bool bs[j])) (hpf : bs ≠ [] → ¬ foot d gs v pg) :
    Calls Tryd.prog 24 #[.pointer (some ⟨d, 0, none⟩), .slice pa bs.length pc] w fun e w' => e = .returned (.tuple #[]) ∧ DAt w' N d gs (.slice none 0 0) (s.crash bs) ∧ KeptF (foot d gs v) w w' := by
  refine callsIn_wide (n := 4).1 ?_
  refine callsIn_of_wp_marks Tryd.func24 rfl trivial ?_ rfl
  simp only [Tryd.ntmps24, List.size_toArray, List.length_cons, List.length_nil, Nat.reduceAdd, Nat.reduceSub, Array.replicate_succ, Array.replicate_zero, List.push_toArray, List.append_toArray, List.nil_append, List.cons_append]
  obtain ⟨ad, cp, hv⟩ : ∃ ad cp, v = .slice ad s.ws.length cp := by
    rcases h.wait.2 with ⟨rfl, hn⟩ | ⟨g, cap, cur, rfl, _⟩
    · exact ⟨none, 0, by rw [hn]⟩
    · exact ⟨_, _, rfl⟩
  obtain ⟨c0, c1, c2, c3⟩ := h.cell
  rw [hv] at c1
  have hdlt := h.lt.1
  have hwf := fun r hr => (h.ok.wok r hr).2
  have c1' : (w.alloc (.cells #[.pointer (some ⟨d, 0, none⟩)] 25)).cell? ⟨d, 1, none⟩ = some (.slice ad s.ws.length cp) := by rw [World.cell?_alloc_lt _ _ _ (by exact hdlt)]; exact c1
  have H := Lib.hid h
  have Hv := Lib.hid hv
  have Hpa := Lib.hid hpa
  have Hpc := Lib.hid hpc
  have Hpf := Lib.hid hpf
  have Hwf := Lib.hid hwf
  clear h hv hpa hpc hpf c0 c1 c2 c3 hwf
  gi_wp2
  refine ⟨trivial, (callsIn_wide.2 (back_any _ _ _ _)).mono ?_⟩
  rintro e w' ⟨rfl, rfl⟩
  gi_wp2
  obtain ⟨W0, hW0⟩ : ∃ W0, (w.alloc (.cells #[.pointer (some ⟨d, 0, none⟩)] 25)).alloc (.cells #[.slice ad s.ws.length cp] 58) = W0 := ⟨_, rfl⟩
  rw [hW0]
  have sz0 : W0.heap.size = w.heap.size + 2 := by rw [← hW0]; simp
  have b0 : Below w.heap.size w W0 := by rw [← hW0]; exact ((Below.refl _ _).alloc (Nat.le_refl _) _).alloc (by simp) _
  have x0 : W0.heap[w.heap.size]? = some (.cells #[.pointer (some ⟨d, 0, none⟩)] 25 (0, 0)) := by rw [← hW0]; exact (heap2d _ _ _).1
  have x1 : W0.cell? ⟨w.heap.size + 1, 0, none⟩ = some v := by rw [Hv.out, ← hW0, cell_block (heap2d _ _ _).2]; rfl
  have D0 := H.out.below b0
  have hlt := H.out.lt
  have hft : ∀ g, v.ownBlock = some g → g < W0.heap.size ∧ g ≠ gs := fun g hg => ⟨by have := (H.out.wait.lt g hg).2; omega, fun e => H.out.ng (by rw [hg, e])⟩
  have HS := Lib.hid (back_stops 3 (w.heap.size + 1) W0.heap.size gs N v s.ws hws Hwf.out W0 (by omega) (by omega) (Nat.le_refl _) hft x1 D0.wait)
  have HM : Hid (Mid w W0 N d gs v s s.S W0) := Lib.hid ⟨D0, x0, KeptB.refl _ _ _⟩
  have HB0 := Lib.hid b0
  have Hsz := Lib.hid sz0
  have hszle : w.heap.size + 1 ≤ W0.heap.size := by omega
  clear hW0 sz0 b0 x0 x1 D0 hft c1'
  refine wpIn_rangeFunc_ownH rfl (by omega) (gf := 48) (lb := #[.pointer (some ⟨w.heap.size + 1, 0, none⟩)]) rfl trivial (enters_of Tryd.func48 (by kernel_rfl) rfl)
    HS.out (fun h k => h.trans k) (KeptB.put (Nat.le_refl _)) (Below.refl _ _) (fun _ => rfl)
    (fun pre W => Mid w W0 N d gs v s (undoL s.S (pre.map s.ws.get)) W) (fun _ _ _ => False)
    (Mid.own (fun pre => undoL s.S (List.map s.ws.get pre)) H.out hszle) (fun _ _ _ _ _ hs _ _ => hs) HM.out
    (fun x a' W => ∃ G, W0.heap.size ≤ G ∧ W.heap[G]? = some (.cells (s.ws.get x).cells.toArray 82 (0, 0)) ∧ a' = { tmps := #[.pointer (some ⟨d, 0, none⟩), .slice pa bs.length pc, .pointer (some ⟨w.heap.size, 0, none⟩), undef, undef, .pointer (some ⟨G, 0, none⟩), undef, undef, .pointer (some ⟨d, 0, none⟩), .pointer (some ⟨d, 0, none⟩), .pointer (some ⟨d, 1, none⟩), .slice ad s.ws.length cp, .func (.func 48) #[] #[.pointer (some ⟨w.heap.size + 1, 0, none⟩)], .int .i64 ((x.val : Nat) : Int), .agg (s.ws.get x).cells.toArray, undef, undef, undef, undef, undef, undef, undef, undef, undef, undef, undef, undef, undef, undef, undef, undef, undef, undef, undef, undef, undef, undef, undef, undef, undef, undef, undef, undef, undef, undef, undef, undef, undef, undef, undef, undef, undef, undef, undef, undef, undef, undef, undef, undef, undef, undef, undef, undef], defers := [] })
    (fun x a' _ A B row hs hg hr => ?hAx) ?assign ?body ?done ?stop
  case hAx =>
    obtain ⟨G, h1, h2, h3⟩ := hs
    refine ⟨G, h1, (hg.block G (lt_block h2) (fun e => ?_)).trans h2, h3⟩
    obtain ⟨_, o, ho, hc⟩ := hr G e.symm
    rw [h2] at ho
    cases ho
    cases hc
  case assign =>
    rintro l pre x W K hi hK
    have hzv := zero_wr'
    have hz129 : z129.length = 129 := rfl
    have hcl := length_cells (s.ws.get x) (Hwf.out _ (List.get_mem _ _)).1 (Hwf.out _ (List.get_mem _ _)).2
    generalize z129 = Z at *
    have hWle := hi.kept.size
    have s1 := set1_setRow (w := W.alloc (.cells Z.toArray 82)) (G := W.heap.size) (cells := (s.ws.get x).cells.toArray) (heap_alloc_new _ _)
    have b1 : Below W.heap.size W ((W.alloc (.cells Z.toArray 82)).setRow W.heap.size (s.ws.get x).cells.toArray) := s1.below ((Below.refl _ _).alloc (Nat.le_refl _) _) (Nat.le_refl _)
    have k1 : KeptB W0.heap.size gs W ((W.alloc (.cells Z.toArray 82)).setRow W.heap.size (s.ws.get x).cells.toArray) := .of_below (b1.mono hWle)
    have m1 : Mid w W0 N d gs v s (undoL s.S (pre.map s.ws.get)) ((W.alloc (.cells Z.toArray 82)).setRow W.heap.size (s.ws.get x).cells.toArray) := ⟨hi.at'.below b1, (b1.block _ (lt_block hi.box)).trans hi.box, hi.kept.trans k1⟩
    generalize hT : Array.foldl _ _ (Array.zip _ _) = T
    have hT2 : T = #[.pointer (some ⟨d, 0, none⟩), .slice pa bs.length pc, .pointer (some ⟨w.heap.size, 0, none⟩), undef, undef, undef, undef, undef, .pointer (some ⟨d, 0, none⟩), .pointer (some ⟨d, 0, none⟩), .pointer (some ⟨d, 1, none⟩), .slice ad s.ws.length cp, .func (.func 48) #[] #[.pointer (some ⟨w.heap.size + 1, 0, none⟩)], .int .i64 ((x.val : Nat) : Int), .agg (s.ws.get x).cells.toArray, undef, undef, undef, undef, undef, undef, undef, undef, undef, undef, undef, undef, undef, undef, undef, undef, undef, undef, undef, undef, undef, undef, undef, undef, undef, undef, undef, undef, undef, undef, undef, undef, undef, undef, undef, undef, undef, undef, undef, undef, undef, undef, undef, undef, undef, undef, undef, undef] := by
      rw [← hT]
      kernel_rfl
    clear hT
    subst hT2
    dsimp only at hK ⊢
    refine wpIn_region_lit (wpList_in _ _ _ (by kernel_rfl) l _ ?_ (by rintro ⟨_, _, h⟩; exact h))
    refine wpList_run rfl _ _ (run_alloc_op 82 rfl Z hzv W) ?_
    refine wpList_store_row rfl 82 (.tmp 5) (.tmp 14) rfl W.heap.size (s.ws.get x).cells.toArray rfl rfl 82 Z.toArray (heap_alloc_new _ _) (info_wr _ (by rw [List.size_toArray, hcl])) (by rw [List.size_toArray, List.size_toArray, hz129, hcl]) (all_oneCell_toArray (one_wr _)) ?_
    exact hK _ _ ⟨b1.size, fun k o _ hk _ => (b1.block k (lt_block hk)).trans hk⟩ k1 m1 ⟨W.heap.size, hWle, s1.new, rfl⟩
  case body =>
    rintro l pre x a' W hl hrec hi ⟨G, hG1, hG2, rfl⟩ hlen
    obtain ⟨r, hr⟩ : ∃ r, r = s.ws.get x := ⟨_, rfl⟩
    have hwok := H.out.ok.wok _ (List.get_mem s.ws x)
    rw [← hr] at hG2 hwok ⊢
    have hmap : undoL s.S ((pre ++ [x]).map s.ws.get) = (undoL s.S (pre.map s.ws.get)).set r.place r.before := by rw [List.map_append, List.map_singleton, undoL_snoc, hr]
    have hlenU : (undoL s.S (pre.map s.ws.get)).length = s.S.length := length_undoL _ _
    have hS8 := H.out.ok.lim
    have Hmap := Lib.hid hmap
    generalize undoL s.S (pre.map s.ws.get) = U at *
    obtain ⟨c0, -⟩ := hi.at'.cell
    dsimp only at c0
    rw [hlenU] at c0
    have cb : W.cell? ⟨w.heap.size, 0, none⟩ = some (.pointer (some ⟨d, 0, none⟩)) := by rw [cell_block hi.box]; rfl
    have cG : W.cell? ⟨G, 0, none⟩ = some (.int .i64 (r.place : Int)) := by rw [cell_block hG2]; rfl
    have lb : w.heap.size < W.heap.size := lt_block hi.box
    have ld : d < W.heap.size := hi.at'.lt.1
    have lG : G < W.heap.size := lt_block hG2
    have hb64 : (r.before.map B).length = 64 := by simpa using hwok.2.1
    have i2 : (r.place : Int) < (s.S.length : Int) := by omega
    have HG := Lib.hid hG2
    have HI := Lib.hid hi
    have HW := Lib.hid hwok
    have Hb64 := Lib.hid hb64
    have HLU := Lib.hid hlenU
    clear hG2 hi hwok hb64 hlenU hmap hr hrec hl
    dsimp only
    refine wpIn_block ?_
    refine wpIn_region_of l _ (by kernel_rfl) (by kernel_rfl) (by rintro ⟨_, _, h⟩; exact h) ?_
    refine wpAny_fresh 8 [.calm, .calm, .calm, .calm, .calm, .calm, .calm, .calm] (fun _ => .cells #[] 0) (fun _ => .cells #[] 0) (fun _ _ => undef) (by kernel_rfl) (by kernel_rfl) ?_
    intro R hR
    have hne := hR.nonempty
    simp only [List.take_succ_cons, List.take_zero, List.drop_succ_cons, List.drop_zero, calmL]
    have cm0 : ∀ m : BlR W R, m.wr.cell? ⟨d, 0, none⟩ = some (.slice (some ⟨gs, 0, none⟩) s.S.length s.S.length) := fun m => by rw [m.below.cell (by exact ld)]; exact c0
    have cm1 : ∀ m : BlR W R, m.wr.cell? ⟨w.heap.size, 0, none⟩ = some (.pointer (some ⟨d, 0, none⟩)) := fun m => by rw [m.below.cell (by exact lb)]; exact cb
    have cm2 : ∀ m : BlR W R, m.wr.cell? ⟨G, 0, none⟩ = some (.int .i64 (r.place : Int)) := fun m => by rw [m.below.cell (by exact lG)]; exact cG
    iterate 7 (go_big_quiet_step (fail))
    refine wpQuiet_load_mid rfl 80 (.tmp 21) rfl G 1 (by first | rfl | (simp [Act.eval]; omega)) (r.before.map B) _ (fun w' ⟨m, hw'⟩ => hw' ▸ range_below m.below (range_before HG.out) lG) Tryd.underlying80 rfl (info_sec _ Hb64.out) ?_
    simp only [Act.put, List.setIfInBounds_toArray, List.set_cons_succ, List.set_cons_zero]
    refine wpQuiet_nil ?_
    refine ⟨by simp only [obF], ?_⟩
    intro γ w4 hf4
    clear cm0 cm1 cm2 hR hne R
    simp only [putF]
    have hb4 := hf4.below
    clear hf4
    have D4 := HI.out.at'.below hb4
    have hpl : r.place < U.length := by rw [HLU.out]; exact HW.out.1
    have HT := Lib.hid (there_sec D4 r.place hpl)
    have HP := Lib.hid (D4.put r.place hpl r.before HW.out.2.1)
    have HB4 := Lib.hid hb4
    have HX4 := Lib.hid ((hb4.block _ lb).trans HI.out.box)
    clear D4 hb4
    go_wp2_with (refine wpList_store_mid rfl 80 (.tmp 23) (.tmp 22) rfl gs (r.place * 64) (r.before.map B).toArray rfl rfl (by simpa [Hb64.out] using HT.out) (info_sec _ (by simp [Hb64.out])) (all_oneCell_toArray (done_bytes _)) ?_)
    obtain ⟨D5, K5⟩ := HP.out
    have hWle := HI.out.kept.size
    have k4 : KeptB W0.heap.size gs W w4 := .of_below (HB4.out.mono hWle)
    have k5 : KeptB W0.heap.size gs w4 (w4.setCells gs (r.place * 64) (r.before.map B)) := .of_kept1 K5 (by have := HB4.out.size; omega)
    show KeepsFrom W0.heap.size W (w4.setCells gs (r.place * 64) (r.before.map B)) ∧ KeptB W0.heap.size gs W (w4.setCells gs (r.place * 64) (r.before.map B)) ∧ Mid w W0 N d gs v s (undoL s.S (List.map s.ws.get (pre ++ [x]))) (w4.setCells gs (r.place * 64) (r.before.map B))
    refine ⟨⟨Nat.le_trans HB4.out.size K5.size, fun k o _ hk ho => ?_⟩, k4.trans k5, ?_⟩
    · have hk4 := (HB4.out.block k (lt_block hk)).trans hk
      refine (K5.block k (lt_block hk4) (fun e => ?_)).trans hk4
      subst e
      have := HI.out.at'.sec
      rw [hk] at this
      cases this
      cases ho
    · rw [Hmap.out]
      exact ⟨D5, (K5.block _ (lt_block HX4.out) (by omega)).trans HX4.out, HI.out.kept.trans (k4.trans k5)⟩
  case done =>
    rintro D xs W hD hS hM hK
    rw [hS] at hM
    have hUl : (undoL s.S s.ws.reverse).length = s.S.length := length_undoL _ _
    obtain ⟨U, hU⟩ : ∃ U, undoL s.S s.ws.reverse = U := ⟨_, rfl⟩
    rw [hU] at hM hUl
    have cb : W.cell? ⟨w.heap.size, 0, none⟩ = some (.pointer (some ⟨d, 0, none⟩)) := by rw [cell_block hM.box]; rfl
    obtain ⟨-, c1, -⟩ := hM.at'.cell
    rw [Hv.out] at c1
    have HM2 := Lib.hid hM
    have HK := Lib.hid hK
    have HU := Lib.hid hU
    have HUl := Lib.hid hUl
    have hwl := Lib.hid (show s.ws.length ≤ 1000 from hws)
    clear hS hM hK hU hUl HM HS
    gi_wp2
    clear cb c1
    refine wpIn_wide.2 ?_
    go_loopw [29] (fun i wr => ∃ k : Nat, k ≤ s.ws.length ∧ i = .int .i64 k ∧ Mid w W0 N d gs v s (redoL bs (s.ws.take k) U) wr ∧ wr.heap[D]? = some (.deferred (some []))) (fun i _ => s.ws.length - (intOf i).toNat)
    case atStart => exact ⟨0, by omega, rfl, by simpa [redoL] using HM2.out, HK.out⟩
    case round =>
      obtain ⟨k, hk, rfl, hM, hKD⟩ := hrel
      by_cases hlt : k < s.ws.length
      · obtain ⟨g, hve, hgo⟩ : ∃ g, ad = some ⟨g, 0, none⟩ ∧ wr.rangeAt g (k * 129) (s.ws[k]).cells := by
          rcases hM.at'.wait.2 with ⟨_, hn⟩ | ⟨g, cap, cur, hve, _⟩
          · have hn' : s.ws.length = 0 := hn
            omega
          · have e := Hv.out.symm.trans hve
            injection e with e1 e2 e3
            refine ⟨g, e1, own_rangeW (N := N) (cap := cap) ?_ Hwf.out k hlt⟩
            have := hM.at'.wait
            rw [hve] at this
            exact this
        subst hve
        have hcl := length_cells s.ws[k] (Hwf.out _ (List.getElem_mem hlt)).1 (Hwf.out _ (List.getElem_mem hlt)).2
        have hwok := H.out.ok.wok _ (List.getElem_mem hlt)
        have hsnoc := redoL_snoc bs s.ws U k hlt
        have hVl : (redoL bs (s.ws.take k) U).length = s.S.length := by rw [length_redoL, HUl.out]
        generalize s.ws[k] = r at *
        generalize redoL bs (s.ws.take k) U = V at *
        have hzv := zero_wr'
        have hz129 : z129.length = 129 := rfl
        generalize z129 = Z at *
        have hd1 : decide ((k : Int) < (s.ws.length : Int)) = true := by simp; omega
        have s1 := set1_setRow (w := wr.alloc (.cells Z.toArray 82)) (G := wr.heap.size) (cells := r.cells.toArray) (heap_alloc_new _ _)
        have b1 : Below wr.heap.size wr ((wr.alloc (.cells Z.toArray 82)).setRow wr.heap.size r.cells.toArray) := s1.below ((Below.refl _ _).alloc (Nat.le_refl _) _) (Nat.le_refl _)
        have HB1 := Lib.hid b1
        have HS1 := Lib.hid s1.new
        have HgO := Lib.hid hgo
        have Hcl := Lib.hid hcl
        have HW := Lib.hid hwok
        have HSn := Lib.hid hsnoc
        have HVl := Lib.hid hVl
        have Hz := Lib.hid hz129
        have HMr := Lib.hid hM
        have HKD := Lib.hid hKD
        have hle0 : W0.heap.size ≤ wr.heap.size := hM.kept.size
        have hwlt : s.ws.length ≤ 1000 := hws
        clear s1 b1 hgo hcl hwok hsnoc hVl hz129 hM hKD HM2 HK
        by_cases hp : k < bs.length
        · have hpb : bs ≠ [] := by intro e; rw [e] at hp; cases hp
          obtain rfl := Hpa.out hpb
          have hpgl : pg < w.heap.size := block_lt_of_cell (Hpc.out k hp)
          have hpgf : pg ≠ gs := fun e => Hpf.out hpb (.inr (.inl e))
          have cpk : ((wr.alloc (.cells Z.toArray 82)).setRow wr.heap.size r.cells.toArray).cell? ⟨pg, po + k, none⟩ = some (.bool bs[k]) := by
            rw [HB1.out.cell (by show pg < _; omega)]
            rw [World.cell?_of_block (w := W0) (a := ⟨pg, po + k, none⟩) (HMr.out.kept.block pg (by omega) hpgf), HB0.out.cell (by exact hpgl)]
            exact Hpc.out k hp
          have hd2 : decide ((k : Int) < (bs.length : Int)) = true := by simp; omega
          have hd3 : decide (k < bs.length) = true := by simp; omega
          have hgd : bs.getD k false = bs[k] := by simp [List.getD, hp]
          rw [hgd] at HSn
          generalize bs[k] = bk at *
          cases bk with
          | false =>
            go_wp2_with (first
              | (refine wpList_load_mid rfl 82 (.tmp 32) rfl g (k * 129) rfl r.cells _ HgO.out Tryd.underlying82 rfl (info_wr _ Hcl.out) ?_)
              | (refine wpList_store_row rfl 82 (.tmp 7) (.tmp 33) rfl wr.heap.size r.cells.toArray rfl rfl 82 Z.toArray (heap_alloc_new _ _) (info_wr _ (by rw [List.size_toArray, Hcl.out])) (by rw [List.size_toArray, List.size_toArray, Hz.out, Hcl.out]) (all_oneCell_toArray (one_wr _)) ?_))
            go_roundw
            case rel => exact ⟨k + 1, by omega, by go_num, by rw [HSn.out]; exact HMr.out.below HB1.out, (HB1.out.block D (lt_block HKD.out)).trans HKD.out⟩
            case measure => simp [intOf]; omega
          | true =>
            go_wp2_with (first
              | (refine wpList_load_mid rfl 82 (.tmp 32) rfl g (k * 129) rfl r.cells _ HgO.out Tryd.underlying82 rfl (info_wr _ Hcl.out) ?_)
              | (refine wpList_store_row rfl 82 (.tmp 7) (.tmp 33) rfl wr.heap.size r.cells.toArray rfl rfl 82 Z.toArray (heap_alloc_new _ _) (info_wr _ (by rw [List.size_toArray, Hcl.out])) (by rw [List.size_toArray, List.size_toArray, Hz.out, Hcl.out]) (all_oneCell_toArray (one_wr _)) ?_))
            generalize World.setRow _ _ _ = W6 at *
            have HM6 := Lib.hid (HMr.out.below HB1.out)
            have HD6 := Lib.hid ((HB1.out.block D (lt_block HKD.out)).trans HKD.out)
            have lG : wr.heap.size < W6.heap.size := lt_block HS1.out
            obtain ⟨c0, -⟩ := HM6.out.at'.cell
            dsimp only at c0
            rw [HVl.out] at c0
            have cb : W6.cell? ⟨w.heap.size, 0, none⟩ = some (.pointer (some ⟨d, 0, none⟩)) := by rw [cell_block HM6.out.box]; rfl
            have cG : W6.cell? ⟨wr.heap.size, 0, none⟩ = some (.int .i64 (r.place : Int)) := by rw [cell_block HS1.out]; rfl
            have lb : w.heap.size < W6.heap.size := lt_block HM6.out.box
            have ld : d < W6.heap.size := HM6.out.at'.lt.1
            have ha64 : (r.after.map B).length = 64 := by simpa using HW.out.2.2
            have i2 : (r.place : Int) < (s.S.length : Int) := by have := HW.out.1; omega
            have Ha64 := Lib.hid ha64
            have hS8 := H.out.ok.lim
            clear ha64
            refine wp_region_fresh 8 [.calm, .calm, .calm, .calm, .calm, .calm, .calm, .calm] (fun _ => .cells #[] 0) (fun _ => .cells #[] 0) (fun _ _ => undef) (by kernel_rfl) (by kernel_rfl) (by kernel_rfl) ?_
            intro R hR
            have hne := hR.nonempty
            simp only [List.take_succ_cons, List.take_zero, List.drop_succ_cons, List.drop_zero, calmL]
            have cm0 : ∀ m : BlR W6 R, m.wr.cell? ⟨d, 0, none⟩ = some (.slice (some ⟨gs, 0, none⟩) s.S.length s.S.length) := fun m => by rw [m.below.cell (by exact ld)]; exact c0
            have cm1 : ∀ m : BlR W6 R, m.wr.cell? ⟨w.heap.size, 0, none⟩ = some (.pointer (some ⟨d, 0, none⟩)) := fun m => by rw [m.below.cell (by exact lb)]; exact cb
            have cm2 : ∀ m : BlR W6 R, m.wr.cell? ⟨wr.heap.size, 0, none⟩ = some (.int .i64 (r.place : Int)) := fun m => by rw [m.below.cell (by exact lG)]; exact cG
            iterate 7 (go_big_quiet_step (fail))
            refine wpQuiet_load_mid rfl 80 (.tmp 50) rfl wr.heap.size 65 (by first | rfl | (simp [Act.eval]; omega)) (r.after.map B) _ (fun w' ⟨m, hw'⟩ => hw' ▸ range_below m.below (range_after HS1.out HW.out.2.1) lG) Tryd.underlying80 rfl (info_sec _ Ha64.out) ?_
            simp only [Act.put, List.setIfInBounds_toArray, List.set_cons_succ, List.set_cons_zero]
            refine wpQuiet_nil ?_
            refine ⟨by simp only [obF], ?_⟩
            intro γ w7 hf7
            clear cm0 cm1 cm2 hR hne R
            simp only [putF]
            have hb7 := hf7.below
            clear hf7
            have M7 := HM6.out.below hb7
            have hpl : r.place < V.length := by rw [HVl.out]; exact HW.out.1
            have HT := Lib.hid (there_sec M7.at' r.place hpl)
            have hgsD : gs ≠ D := by omega
            have hgsb : gs ≠ w.heap.size := by omega
            have HP := Lib.hid (M7.put (by omega) r.place hpl r.after HW.out.2.2)
            have HD7 := Lib.hid ((hb7.block D (lt_block HD6.out)).trans HD6.out)
            clear M7 hb7 c0 cb cG
            go_wp2_with (refine wpList_store_mid rfl 80 (.tmp 52) (.tmp 51) rfl gs (r.place * 64) (r.after.map B).toArray rfl rfl (by simpa [Ha64.out] using HT.out) (info_sec _ (by simp [Ha64.out])) (all_oneCell_toArray (done_bytes _)) ?_)
            go_roundw
            case rel => exact ⟨k + 1, by omega, by go_num, by rw [HSn.out]; exact HP.out.1, (HP.out.2.block D (lt_block HD7.out) (Ne.symm hgsD)).trans HD7.out⟩
            case measure => simp [intOf]; omega
        · have hd2 : decide ((k : Int) < (bs.length : Int)) = false := by simp; omega
          have hd3 : decide (k < bs.length) = false := by simp; omega
          have hgd : bs.getD k false = false := by simp [List.getD, hp]
          rw [hgd] at HSn
          go_wp2_with (first
              | (refine wpList_load_mid rfl 82 (.tmp 32) rfl g (k * 129) rfl r.cells _ HgO.out Tryd.underlying82 rfl (info_wr _ Hcl.out) ?_)
              | (refine wpList_store_row rfl 82 (.tmp 7) (.tmp 33) rfl wr.heap.size r.cells.toArray rfl rfl 82 Z.toArray (heap_alloc_new _ _) (info_wr _ (by rw [List.size_toArray, Hcl.out])) (by rw [List.size_toArray, List.size_toArray, Hz.out, Hcl.out]) (all_oneCell_toArray (one_wr _)) ?_))
          go_roundw
          case rel => exact ⟨k + 1, by omega, by go_num, by rw [HSn.out]; exact HMr.out.below HB1.out, (HB1.out.block D (lt_block HKD.out)).trans HKD.out⟩
          case measure => simp [intOf]; omega
      · obtain rfl : k = s.ws.length := by omega
        rw [List.take_length] at hM
        have cb : wr.cell? ⟨w.heap.size, 0, none⟩ = some (.pointer (some ⟨d, 0, none⟩)) := by rw [cell_block hM.box]; rfl
        obtain ⟨c0, c1, c2, c3⟩ := hM.at'.cell
        have f1 := hM.at'.frozen 1
        have f2 := hM.at'.frozen 2
        have f3 := hM.at'.frozen 3
        have hnd : ⟨w.heap.size, 0, none⟩ ≠ (⟨d, 1, none⟩ : Addr) := fun e => by injection e; omega
        have HMr := Lib.hid hM
        have HKD := Lib.hid hKD
        dsimp only at c2 c3
        clear hM hKD c0 HM2 HK
        go_wp2_with fail
        gi_wp2
        have k1 : Kept1 d wr (((wr.setCell ⟨d, 1, none⟩ (.slice none 0 0)).setCell ⟨d, 2, none⟩ (.int .i64 0)).setCell ⟨d, 3, none⟩ (.bool false)) := (((Kept1.refl d wr).setCell ⟨d, 1, none⟩ (.inl rfl) _).setCell ⟨d, 2, none⟩ (.inl rfl) _).setCell ⟨d, 3, none⟩ (.inl rfl) _
        have D1 := HMr.out.at'.turn (v' := .slice none 0 0) (s' := ⟨redoL bs s.ws U, [], 0, false⟩) k1 (heap_set (heap_set (heap_set HMr.out.at'.blk 1 _) 2 _) 3 _) rfl (.inr ⟨rfl, rfl⟩)
        have hcr : s.crash bs = ⟨redoL bs s.ws U, [], 0, false⟩ := by unfold DSt.crash; rw [HU.out]
        rw [← hcr] at D1
        clear hcr
        have hKD1 := (k1.block D (lt_block HKD.out) (by omega)).trans HKD.out
        generalize World.setCell (World.setCell (World.setCell wr _ _) _ _) _ _ = w8 at *
        refine ⟨by simp, .inl ⟨_, _, rfl, run_takeDeferred hKD1, ?_⟩⟩
        have hput : ∀ k, k ≠ D → (w8.putObj D (.deferred none)).heap[k]? = w8.heap[k]? := fun k hk => World.putObj_heap_other hk
        refine ⟨_, results_none rfl _ _ _, rfl, D1.same fun k hk => hput k ?_, ⟨?_, ?_, ?_, ?_, fun k hk hF => ?_⟩⟩
        · rcases hk with hk | hk | hk
          · omega
          · omega
          · cases hk
        · exact k1.os.trans (HMr.out.kept.os.trans HB0.out.os)
        · exact k1.tape.trans (HMr.out.kept.tape.trans HB0.out.tape)
        · exact k1.output.trans (HMr.out.kept.output.trans HB0.out.output)
        · have h1 := HB0.out.size
          have h2 := HMr.out.kept.size
          have h3 := k1.size
          have h4 := (grownBy_putObj' w8 D (.deferred none)).size
          omega
        · have h2 := HMr.out.kept.size
          rw [hput k (by omega), k1.block k (by omega) (fun e => hF (.inl e)), HMr.out.kept.block k (by omega) (fun e => hF (.inr (.inl e))), HB0.out.block k hk]
  case stop =>
    rintro D c pre W _ _ h _
    exact h.elim
end Go.Proofs.YtjeopjajcdbncaaDoor
