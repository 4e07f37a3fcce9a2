/- Structs that are built of parts which are lists. No program is named here; Drawn regions in which all but one operation may be taken first: the moves. No program is named here. -/
import Derived.Test.YtllgodaphoncnaaGreatDoorMem
import Derived.OrdersHeld
namespace Go.Proofs.YtllgodaphoncnaaGreatDoor
open Go.RowKit

section
variable {P : Program} {ops : Array Oper} {o : Oper} {a : Act} {w : World} {K : Act → World → Prop} {Q : Exit → Act → World → Prop} {E : Prop}
set_option maxRecDepth 100000 in
theorem step_run (hgd : o.guard = none) (v : Value) (w' : World) (hr : (execOp a.eval o).run P w = .ok (.value v) w') (k : K (a.put o.dst v) w') : if Region.wanted o (yielded ops a.tmps) = true then Oper.wp P o a w K Q else E := by
  rw [if_pos (by simp [Region.wanted, hgd])]
  unfold Oper.wp
  rw [hr]
  exact k
set_option maxRecDepth 100000 in
theorem step_skip (hgd : o.guard = none) (w' : World) (hr : (execOp a.eval o).run P w = .ok .skip w') (k : K (a.put o.dst undef) w') : if Region.wanted o (yielded ops a.tmps) = true then Oper.wp P o a w K Q else E := by
  rw [if_pos (by simp [Region.wanted, hgd])]
  unfold Oper.wp
  rw [hr]
  exact k
set_option maxRecDepth 100000 in
theorem run_load_op (ty : TypeId) (x : Operand) (ho : o.op = .load ty x) (b off : Nat) (hx : a.eval x = .pointer (some ⟨b, off, none⟩)) (cs : List Value) (d : TypeDesc) (hc : w.rangeAt b off cs)
    (hu : P.underlying ty = some d) (hd : d.isRow = true) (hi : (P.info? ty).map (·.size) = some cs.length) : (execOp a.eval o).run P w = .ok (.value (.agg cs.toArray)) w := by
  unfold execOp
  simp only [ho, hx, Instr.loadAt, Instr.sureAddr, Sem.run_bind, Sem.run_pure, Result.andThen_ok, run_loadVar_mid w b off ty cs d hc hu hd hi]
set_option maxRecDepth 100000 in
theorem run_buildd_op (t : TypeId) (parts : Array (Nat × Operand)) (ho : o.op = .build t parts) (vals : List (Nat × Value)) (hv : (parts.map fun (i, x) => (i, a.eval x)).toList = vals) (cells : Array Value) (h : P.built t vals = some cells) : (execOp a.eval o).run P w = .ok (.value (.agg cells)) w := by
  subst hv
  unfold execOp
  simp only [ho, Sem.run_bind, run_build w t _ cells h, Result.andThen_ok]
  rfl
set_option maxRecDepth 100000 in
/-- a struct is built, in a row of operations -/
theorem wpList_buildd {rest : List Oper} (hgd : o.guard = none) (t : TypeId) (parts : Array (Nat × Operand)) (ho : o.op = .build t parts) (vals : List (Nat × Value)) (hv : (parts.map fun (i, x) => (i, a.eval x)).toList = vals) (cells : Array Value) (h : P.built t vals = some cells)
    (k : wpList P ops Q rest (a.put o.dst (.agg cells)) w) : wpList P ops Q (o :: rest) a w :=
  wpList_plain hgd fun K hK => by
    unfold Oper.wp
    rw [run_buildd_op t parts ho vals hv cells h]
    exact hK _ _ k
end

/-! what fills a struct -/
set_option maxRecDepth 100000 in
theorem fold_over (off : Nat) : ∀ (vs : List Value) (k : Nat) (Z : List Value), off + k + vs.length ≤ Z.length →
    List.foldl (fun (cs : Array Value) (x : Value × Nat) => cs.setIfInBounds (off + x.2) x.1) Z.toArray (vs.zipIdx k) = (over Z (off + k) vs).toArray
  | [], k, Z, _ => by simp [over]
  | v :: vs, k, Z, h => by
    simp only [List.zipIdx_cons, List.foldl_cons, List.setIfInBounds_toArray]
    rw [fold_over off vs (k + 1) (Z.set (off + k) v) (by simp at h ⊢; omega), ← set_over Z (off + k) v vs (by simpa using h), show off + (k + 1) = off + k + 1 by omega]
set_option maxRecDepth 100000 in
theorem fill_cons (place : Nat → Option (Nat × Nat)) (Z : List Value) (i : Nat) (v : Value) (vs : List Value) (hvs : v.cells = vs.toArray) (off : Nat) (hp : place i = some (off, vs.length)) (hl : off + vs.length ≤ Z.length) (rest : List (Nat × Value)) :
    Instr.fill place Z.toArray ((i, v) :: rest) = Instr.fill place (over Z off vs).toArray rest := by
  have e := fold_over off vs 0 Z (by omega)
  simp only [Nat.add_zero] at e
  rw [Instr.fill, hp]
  simp only [hvs, List.size_toArray]
  rw [if_neg (by simp; omega)]
  congr 1
  rw [← e, ← Array.foldl_toList]
  simp
set_option maxRecDepth 100000 in
theorem built_struct {P : Program} (t : TypeId) (parts : List (Nat × Value)) (fields : Array Field) (places : List (Nat × Nat)) (z : Value) (hu : P.underlying t = some (.struct fields)) (hz : (P.info? t).bind (·.zero) = some z)
    (hp : fields.toList.mapM (fun f => (P.info? f.type).map fun i => (f.offset, i.size)) = some places) : P.built t parts = Instr.fill (places.toArray[·]?) z.cells parts := by
  cases hi : P.info? t with
  | none => rw [hi] at hz; cases hz
  | some it =>
    rw [hi] at hz
    have hz' : it.zero = some z := hz
    simp only [Program.built, hi, hu, hz', hp]
end Go.Proofs.YtllgodaphoncnaaGreatDoor
namespace Go.Proofs.YtllgodaphoncnaaGreatDoor
open Go.RowKit

section
variable {P : Program} {ops : Array Oper} {Q : Exit → Act → World → Prop} {md : Region.Mode} {S : World → Prop} {i fuel : Nat} {listed : Array Bool} {a : Act} {w : World} {o : Oper}
set_option maxRecDepth 100000 in
/-- one that may come up is taken first: it yields v in every world that meets S -/
theorem held_take (d : Option Tmp) (hi : ops[i]? = some o) (hd : o.dst = d) (hs : Region.noSelect ops = true) (hf : Region.free md ops listed i = true) (hr : (Region.ready md ops listed).contains i = true) (v : Value)
    (hQ : ∀ c a w, Q (.panic c) (a.put o.dst v) w → Q (.panic c) a w) (hw : Region.wanted o (yielded ops a.tmps) = true) (hy : ∀ w, S w → (execOp a.eval o).run P w = .ok (.value v) w) (hS : S w)
    (k : wpAnyH P md ops Q S fuel (listed.setIfInBounds i true) (a.put d v) w) : wpAnyH P md ops Q S (fuel + 1) listed a w := by
  subst hd
  exact wpAnyH_take hi hs hf hr hQ (.inl ⟨hw, hy⟩) hS k
set_option maxRecDepth 100000 in
theorem held_of (hi : ops[i]? = some o) (hr : Region.ready md ops listed = [i]) (hw : Region.wanted o (yielded ops a.tmps) = true) (h : Oper.wp P o a w (fun a' w' => S w' ∧ wpAnyH P md ops Q S fuel (listed.setIfInBounds i true) a' w') Q) :
    wpAnyH P md ops Q S (fuel + 1) listed a w := by
  refine wpAnyH_all hr (by simp) fun j hj => ?_
  obtain rfl := List.mem_singleton.1 hj
  unfold wpOp
  rw [hi]
  simp only [hw, if_true]
  exact .inl h
set_option maxRecDepth 100000 in
/-- one alone may come up: it yields a value -/
theorem held_run (d : Option Tmp) (hi : ops[i]? = some o) (hd : o.dst = d) (hr : Region.ready md ops listed = [i]) (hw : Region.wanted o (yielded ops a.tmps) = true) (v : Value) (w' : World) (hrun : (execOp a.eval o).run P w = .ok (.value v) w') (hS : S w')
    (k : wpAnyH P md ops Q S fuel (listed.setIfInBounds i true) (a.put d v) w') : wpAnyH P md ops Q S (fuel + 1) listed a w :=
  held_of hi hr hw (by subst hd; unfold Oper.wp; rw [hrun]; exact ⟨hS, k⟩)
set_option maxRecDepth 100000 in
theorem held_skip (d : Option Tmp) (hi : ops[i]? = some o) (hd : o.dst = d) (hr : Region.ready md ops listed = [i]) (hw : Region.wanted o (yielded ops a.tmps) = true) (w' : World) (hrun : (execOp a.eval o).run P w = .ok .skip w') (hS : S w')
    (k : wpAnyH P md ops Q S fuel (listed.setIfInBounds i true) (a.put d undef) w') : wpAnyH P md ops Q S (fuel + 1) listed a w :=
  held_of hi hr hw (by subst hd; unfold Oper.wp; rw [hrun]; exact ⟨hS, k⟩)
set_option maxRecDepth 100000 in
/-- one alone may come up: it is a call -/
theorem held_call (d : Option Tmp) (hi : ops[i]? = some o) (hd : o.dst = d) (hr : Region.ready md ops listed = [i]) (hw : Region.wanted o (yielded ops a.tmps) = true) (f : FuncId) (args : Array Value) (hrun : (execOp a.eval o).run P w = .ok (.enter f args) w)
    (h : Calls P f args w fun e w' => ∃ v, e = .returned v ∧ S w' ∧ wpAnyH P md ops Q S fuel (listed.setIfInBounds i true) (a.put d v) w') : wpAnyH P md ops Q S (fuel + 1) listed a w :=
  held_of hi hr hw (by
    subst hd
    unfold Oper.wp
    rw [hrun]
    exact Calls.mono h fun e w' ⟨v, he, hk⟩ => by subst he; exact hk)
end
end Go.Proofs.YtllgodaphoncnaaGreatDoor
