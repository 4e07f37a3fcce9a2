/- The operations that make blocks and fill them. No program is named here. -/
import Derived.Test.YtmegncaadglhmaaDoorFresh3
import Derived.Test.YtmegncaadglhmaaDoorBuild1
namespace Go.Proofs.YtmegncaadglhmaaDoor
open Go RowKit

section
variable {P : Program}
theorem run_alloc_op {o : Oper} {ρ : Operand → Value} (ty : TypeId) (ho : o.op = .alloc ty) (Z : List Value) (hz : ∀ w, (zeroValue ty).run P w = .ok (.agg Z.toArray) w) (w : World) :
    (execOp ρ o).run P w = .ok (.value (.pointer (some ⟨w.heap.size, 0, none⟩))) (w.alloc (.cells Z.toArray ty)) := by
  simp [execOp, ho, Instr.alloc, hz, Value.cells, go_sem]
theorem set1_setRow {w : World} {G : Nat} {old cells : Array Value} {t : TypeId} (hg : w.heap[G]? = some (.cells old t (0, 0))) : Set1 G (.cells cells t (0, 0)) w (w.setRow G cells) :=
  ⟨rfl, rfl, rfl, by simp [World.setRow], setRow_heap w G old cells t _ hg, fun k hk => by simp [World.setRow, Array.getElem?_modify, Ne.symm hk]⟩
theorem run_fill {o : Oper} {a : Act} {w : World} (ty : TypeId) (x y : Operand) (ho : o.op = .store ty x y) (G : Nat) (L : List Value) (hx : a.eval x = .pointer (some ⟨G, 0, none⟩)) (hy : a.eval y = .agg L.toArray)
    (t : TypeId) (Z : List Value) (hg : w.heap[G]? = some (.cells Z.toArray t (0, 0))) (hi : (P.info? ty).map (·.size) = some L.length) (hZ : Z.length = L.length) (h1 : ∀ v ∈ L, v.oneCell' = true) :
    ∃ w'', (execOp a.eval o).run P w = .ok .skip w'' ∧ Set1 G (.cells L.toArray t (0, 0)) w w'' := by
  refine ⟨w.setRow G L.toArray, ?_, set1_setRow hg⟩
  unfold execOp
  simp only [ho, hx, hy, Instr.storeAt, Instr.sureAddr, Sem.run_bind, Sem.run_pure, Result.andThen_ok, run_storeVar_row w G t ty Z.toArray L.toArray hg (by simpa using hi) (by simpa using hZ) (all_oneCell_toArray h1)]
theorem run_build1_op {o : Oper} {a : Act} (t elem : TypeId) (x : Operand) (ho : o.op = .buildSlice t 1 #[(0, x)]) (L Z : List Value) (hx : a.eval x = .agg L.toArray) (hu : P.underlying t = some (.slice elem))
    (hsz : ∀ w, (sizeOf elem).run P w = .ok L.length w) (hz : ∀ w, (zeroValue elem).run P w = .ok (.agg Z.toArray) w) (hpos : 0 < L.length) (hle : L.length ≤ 16777216) (w : World) :
    (execOp a.eval o).run P w = .ok (.value (.slice (some ⟨w.heap.size, 0, none⟩) 1 1)) (w.alloc (.cells L.toArray elem)) := by
  simp [execOp, ho, hx, run_build1 w t elem L Z hu hsz hz hpos hle, Result.andThen]
theorem Lasting.nonempty {w0 : World} {R : World → Prop} (h : Lasting w0 R) : Nonempty (BlR w0 R) := let ⟨w, hb, hr⟩ := h.some; ⟨⟨w, hb, hr⟩⟩
theorem Set1.below {G : Nat} {Y : Obj} {w0 w w' : World} {B : Nat} (h : Set1 G Y w w') (hb : Below B w0 w) (hg : B ≤ G) : Below B w0 w' :=
  ⟨h.os.trans hb.os, h.tape.trans hb.tape, h.output.trans hb.output, by rw [h.size]; exact hb.size, fun k hk => by rw [h.old k (by omega)]; exact hb.block k hk⟩
/-- a range lies where it lay -/
theorem range_below {B : Nat} {w w' : World} (hb : Below B w w') {g o : Nat} {L : List Value} (h : w.rangeAt g o L) (hg : g < B) : w'.rangeAt g o L := fun j v hv => by
  rw [hb.cell (by exact hg)]; exact h j v hv
end
end Go.Proofs.YtmegncaadglhmaaDoor
