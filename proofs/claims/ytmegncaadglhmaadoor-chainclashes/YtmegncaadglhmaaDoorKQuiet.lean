/- Guarded operations that only read; lists of a size that is looked at. -/
import Derived.Test.YtmegncaadglhmaaDoorKAwake
namespace Go.Proofs.YtmegncaadglhmaaDoor
open Go.RowKit

section
variable {P : Program} {ops : Array Oper} {C : World → Prop}
theorem wpQuiet_load_midG {Q : Act → Prop} {rest : List Oper} {o : Oper} {a : Act} (hw : Region.wanted o (yielded ops a.tmps) = true) (ty : TypeId) (x : Operand) (ho : o.op = .load ty x)
    (b off : Nat) (hx : a.eval x = .pointer (some ⟨b, off, none⟩)) (cs : List Value) (d : TypeDesc) (hc : ∀ w', C w' → w'.rangeAt b off cs)
    (hu : P.underlying ty = some d) (hd : d.isRow = true) (hi : (P.info? ty).map (·.size) = some cs.length)
    (h : wpQuiet P ops C Q rest (a.put o.dst (.agg cs.toArray))) : wpQuiet P ops C Q (o :: rest) a := by
  refine BigFrame.wpQuiet_want hw fun K hK => ⟨.agg cs.toArray, fun w' hw' => ?_, hK _ h⟩
  unfold Oper.quietAt execOp
  simp only [ho, hx, Instr.loadAt, Instr.sureAddr, Sem.run_bind, Sem.run_pure, Result.andThen_ok, run_loadVar_mid w' b off ty cs d (hc w' hw') hu hd hi]
  exact ⟨rfl, rfl⟩
theorem wpQuiet_of_opG {Q : Act → Prop} {rest : List Oper} {o : Oper} {a : Act} (hw : Region.wanted o (yielded ops a.tmps) = true) (v : Value) (hv : ∀ w', C w' → (execOp a.eval o).run P w' = .ok (.value v) w')
    (h : wpQuiet P ops C Q rest (a.put o.dst v)) : wpQuiet P ops C Q (o :: rest) a := by
  refine BigFrame.wpQuiet_want hw fun K hK => ⟨v, fun w' hw' => ?_, hK _ h⟩
  unfold Oper.quietAt
  rw [hv w' hw']
  exact ⟨rfl, rfl⟩
end

/-- a store, as a run -/
theorem run_store0 {P : Program} (w : World) (b : Nat) (L : List Value) (ht : w.there b 0 L.length) (h1 : ∀ v ∈ L, v.oneCell' = true) : (storeCells ⟨b, 0, none⟩ L).run P w = .ok () (w.setCells b 0 L) := by
  have := run_storeCells_cells (P := P) b 0 L 0 w (fun j hj => by simpa using (ht j hj).1) (fun j hj => by simpa using (ht j hj).2) h1
  simpa using this
theorem fewS_mem : ∀ (ps : List Part) (p : Part), p ∈ ps → min p.l.length 10000 ≤ fewS ps
  | q :: ps, p, h => by
    have e : fewS (q :: ps) = min q.l.length 10000 + fewS ps := by simp [fewS]
    rcases List.mem_cons.1 h with rfl | h
    · omega
    · have := fewS_mem ps p h; omega
theorem few_small (ps : List Part) (n : Nat) (hn : n ≤ 100) (most : Nat) (hmo : most ≤ 1000) (hf : (decide ((ps.length : Int) ≤ n) && decide ((fewS (ps.take 200) : Int) ≤ most)) = true) : ps.length ≤ n ∧ ∀ p ∈ ps, p.l.length ≤ most := by
  rw [Bool.and_eq_true] at hf
  have hl : ps.length ≤ n := by have := of_decide_eq_true hf.1; omega
  have hs : fewS ps ≤ most := by have := of_decide_eq_true hf.2; rw [List.take_of_length_le (by omega)] at this; omega
  exact ⟨hl, fun p hp => by have := fewS_mem ps p hp; omega⟩
end Go.Proofs.YtmegncaadglhmaaDoor
