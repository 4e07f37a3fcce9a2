/- What a call leaves to the next one: the variables listed; Structs that are built of parts which are lists. No program is named here. -/
import Derived.Test.YtllgodaphoncnaaGreatDoorJ03
import Derived.Test.YtllgodaphoncnaaGreatDoorJ08
namespace Go.Proofs.YtllgodaphoncnaaGreatDoor
open Go.RowKit

set_option maxRecDepth 100000 in
theorem LexW.low {w w' : World} {N : Nat} (h : LexW w) (hb : Below N w w') (hN : 9 ≤ N) : LexW w' := by
  have hv : ∀ (nm : String) (g : Nat) (x : Array Value), Tryz.prog.globalNamed nm = some g → g < 9 → w.var? Tryz.prog nm = some x → w'.var? Tryz.prog nm = some x := fun nm g x h1 h2 h3 => by
    unfold World.var? at h3 ⊢
    rw [h1] at h3 ⊢
    have hblk := hb.block g (by omega)
    simp only [Option.bind_some] at h3 ⊢
    rw [hblk]; exact h3
  obtain ⟨t1, p1, h1⟩ := h.syn
  obtain ⟨t2, p2, h2⟩ := h.ran
  refine ⟨fun j v hv => ?_, ⟨t1, p1, hv _ 4 _ (by kernel_rfl) (by decide) h1⟩, ⟨t2, p2, hv _ 5 _ (by kernel_rfl) (by decide) h2⟩, ?_⟩
  · have h0 := h.sig j v hv
    rw [hb.cell (by show 0 < N; omega)]
    exact h0
  · exact hv _ 6 _ (by kernel_rfl) (by decide) h.pow

end Go.Proofs.YtllgodaphoncnaaGreatDoor
namespace Go.Proofs.YtllgodaphoncnaaGreatDoor
open Go.RowKit

section
variable {P : Program} {ops : Array Oper} {o : Oper} {a : Act} {w : World} {K : Act → World → Prop} {Q : Exit → Act → World → Prop} {E : Prop}
set_option maxRecDepth 100000 in
theorem step_run (hgd : o.guard = none) (v : Value) (w' : World) (hr : (execOp a.eval o).run P w = .ok (.value v) w') (k : K (a.put o.dst v) w') : if Region.wanted o (yielded ops a.tmps) = true then Oper.wp P o a w K Q else E := by
  rw [if_pos (by simp [Region.wanted, hgd])]
  unfold Oper.wp
  rw [hr]
  exact k
set_option maxRecDepth 100000 in
theorem step_skip (hgd : o.guard = none) (w' : World) (hr : (execOp a.eval o).run P w = .ok .skip w') (k : K (a.put o.dst undef) w') : if Region.wanted o (yielded ops a.tmps) = true then Oper.wp P o a w K Q else E := by
  rw [if_pos (by simp [Region.wanted, hgd])]
  unfold Oper.wp
  rw [hr]
  exact k
set_option maxRecDepth 100000 in
theorem run_load_op (ty : TypeId) (x : Operand) (ho : o.op = .load ty x) (b off : Nat) (hx : a.eval x = .pointer (some ⟨b, off, none⟩)) (cs : List Value) (d : TypeDesc) (hc : w.rangeAt b off cs)
    (hu : P.underlying ty = some d) (hd : d.isRow = true) (hi : (P.info? ty).map (·.size) = some cs.length) : (execOp a.eval o).run P w = .ok (.value (.agg cs.toArray)) w := by
  unfold execOp
  simp only [ho, hx, Instr.loadAt, Instr.sureAddr, Sem.run_bind, Sem.run_pure, Result.andThen_ok, run_loadVar_mid w b off ty cs d hc hu hd hi]
set_option maxRecDepth 100000 in
theorem run_buildd_op (t : TypeId) (parts : Array (Nat × Operand)) (ho : o.op = .build t parts) (vals : List (Nat × Value)) (hv : (parts.map fun (i, x) => (i, a.eval x)).toList = vals) (cells : Array Value) (h : P.built t vals = some cells) : (execOp a.eval o).run P w = .ok (.value (.agg cells)) w := by
  subst hv
  unfold execOp
  simp only [ho, Sem.run_bind, run_build w t _ cells h, Result.andThen_ok]
  rfl
set_option maxRecDepth 100000 in
/-- a struct is built, in a row of operations -/
theorem wpList_buildd {rest : List Oper} (hgd : o.guard = none) (t : TypeId) (parts : Array (Nat × Operand)) (ho : o.op = .build t parts) (vals : List (Nat × Value)) (hv : (parts.map fun (i, x) => (i, a.eval x)).toList = vals) (cells : Array Value) (h : P.built t vals = some cells)
    (k : wpList P ops Q rest (a.put o.dst (.agg cells)) w) : wpList P ops Q (o :: rest) a w :=
  wpList_plain hgd fun K hK => by
    unfold Oper.wp
    rw [run_buildd_op t parts ho vals hv cells h]
    exact hK _ _ k
end

/-! what fills a struct -/
set_option maxRecDepth 100000 in
theorem fold_over (off : Nat) : ∀ (vs : List Value) (k : Nat) (Z : List Value), off + k + vs.length ≤ Z.length →
    List.foldl (fun (cs : Array Value) (x : Value × Nat) => cs.setIfInBounds (off + x.2) x.1) Z.toArray (vs.zipIdx k) = (over Z (off + k) vs).toArray
  | [], k, Z, _ => by simp [over]
  | v :: vs, k, Z, h => by
    simp only [List.zipIdx_cons, List.foldl_cons, List.setIfInBounds_toArray]
    rw [fold_over off vs (k + 1) (Z.set (off + k) v) (by simp at h ⊢; omega), ← set_over Z (off + k) v vs (by simpa using h), show off + (k + 1) = off + k + 1 by omega]
set_option maxRecDepth 100000 in
theorem fill_cons (place : Nat → Option (Nat × Nat)) (Z : List Value) (i : Nat) (v : Value) (vs : List Value) (hvs : v.cells = vs.toArray) (off : Nat) (hp : place i = some (off, vs.length)) (hl : off + vs.length ≤ Z.length) (rest : List (Nat × Value)) :
    Instr.fill place Z.toArray ((i, v) :: rest) = Instr.fill place (over Z off vs).toArray rest := by
  have e := fold_over off vs 0 Z (by omega)
  simp only [Nat.add_zero] at e
  rw [Instr.fill, hp]
  simp only [hvs, List.size_toArray]
  rw [if_neg (by simp; omega)]
  congr 1
  rw [← e, ← Array.foldl_toList]
  simp
set_option maxRecDepth 100000 in
theorem built_struct {P : Program} (t : TypeId) (parts : List (Nat × Value)) (fields : Array Field) (places : List (Nat × Nat)) (z : Value) (hu : P.underlying t = some (.struct fields)) (hz : (P.info? t).bind (·.zero) = some z)
    (hp : fields.toList.mapM (fun f => (P.info? f.type).map fun i => (f.offset, i.size)) = some places) : P.built t parts = Instr.fill (places.toArray[·]?) z.cells parts := by
  cases hi : P.info? t with
  | none => rw [hi] at hz; cases hz
  | some it =>
    rw [hi] at hz
    have hz' : it.zero = some z := hz
    simp only [Program.built, hi, hu, hz', hp]
end Go.Proofs.YtllgodaphoncnaaGreatDoor
