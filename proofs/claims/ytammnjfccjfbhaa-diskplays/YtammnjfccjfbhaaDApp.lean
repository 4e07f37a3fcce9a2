/- What Write is made of: a struct that is built, one more in the row of those that wait. -/
import Derived.Test.YtammnjfccjfbhaaDSec
import Derived.Deep.DeepCutAuto
import Derived.Deep.DeepAppendWide
import Derived.RangeFuncBox
namespace Go.Proofs.Ytammnjfccjfbhaa
open Go.RowKit

section
variable {P : Program} {ops : Array Oper} {o : Oper} {a : Act} {w : World} {K : Act → World → Prop} {Q : Exit → Act → World → Prop} {E : Prop}
theorem step_run (hgd : o.guard = none) (v : Value) (w' : World) (hr : (execOp a.eval o).run P w = .ok (.value v) w') (k : K (a.put o.dst v) w') : if Region.wanted o (yielded ops a.tmps) = true then Oper.wp P o a w K Q else E := by
  rw [if_pos (by simp [Region.wanted, hgd])]
  unfold Oper.wp
  rw [hr]
  exact k
theorem step_skip (hgd : o.guard = none) (w' : World) (hr : (execOp a.eval o).run P w = .ok .skip w') (k : K (a.put o.dst undef) w') : if Region.wanted o (yielded ops a.tmps) = true then Oper.wp P o a w K Q else E := by
  rw [if_pos (by simp [Region.wanted, hgd])]
  unfold Oper.wp
  rw [hr]
  exact k
theorem run_load_op (ty : TypeId) (x : Operand) (ho : o.op = .load ty x) (b off : Nat) (hx : a.eval x = .pointer (some ⟨b, off, none⟩)) (cs : List Value) (d : TypeDesc) (hc : w.rangeAt b off cs)
    (hu : P.underlying ty = some d) (hd : d.isRow = true) (hi : (P.info? ty).map (·.size) = some cs.length) : (execOp a.eval o).run P w = .ok (.value (.agg cs.toArray)) w := by
  unfold execOp
  simp only [ho, hx, Instr.loadAt, Instr.sureAddr, Sem.run_bind, Sem.run_pure, Result.andThen_ok, run_loadVar_mid w b off ty cs d hc hu hd hi]
theorem run_build_op (t : TypeId) (parts : Array (Nat × Operand)) (ho : o.op = .build t parts) (vals : List (Nat × Value)) (hv : (parts.map fun (i, x) => (i, a.eval x)).toList = vals) (cells : Array Value) (h : P.built t vals = some cells) : (execOp a.eval o).run P w = .ok (.value (.agg cells)) w := by
  subst hv
  unfold execOp
  simp only [ho, Sem.run_bind, run_build w t _ cells h, Result.andThen_ok]
  rfl
end

/-! what fills a struct -/
theorem fold_over (off : Nat) : ∀ (vs : List Value) (k : Nat) (Z : List Value), off + k + vs.length ≤ Z.length →
    List.foldl (fun (cs : Array Value) (x : Value × Nat) => cs.setIfInBounds (off + x.2) x.1) Z.toArray (vs.zipIdx k) = (over Z (off + k) vs).toArray
  | [], k, Z, _ => by simp [over]
  | v :: vs, k, Z, h => by
    simp only [List.zipIdx_cons, List.foldl_cons, List.setIfInBounds_toArray]
    rw [fold_over off vs (k + 1) (Z.set (off + k) v) (by simp at h ⊢; omega), ← set_over Z (off + k) v vs (by simpa using h), show off + (k + 1) = off + k + 1 by omega]
theorem fill_cons (place : Nat → Option (Nat × Nat)) (Z : List Value) (i : Nat) (v : Value) (vs : List Value) (hvs : v.cells = vs.toArray) (off : Nat) (hp : place i = some (off, vs.length)) (hl : off + vs.length ≤ Z.length) (rest : List (Nat × Value)) :
    Instr.fill place Z.toArray ((i, v) :: rest) = Instr.fill place (over Z off vs).toArray rest := by
  have e := fold_over off vs 0 Z (by omega)
  simp only [Nat.add_zero] at e
  rw [Instr.fill, hp]
  simp only [hvs, List.size_toArray]
  rw [if_neg (by simp; omega)]
  congr 1
  rw [← e, ← Array.foldl_toList]
  simp
theorem built_struct {P : Program} (t : TypeId) (parts : List (Nat × Value)) (fields : Array Field) (places : List (Nat × Nat)) (z : Value) (hu : P.underlying t = some (.struct fields)) (hz : (P.info? t).bind (·.zero) = some z)
    (hp : fields.toList.mapM (fun f => (P.info? f.type).map fun i => (f.offset, i.size)) = some places) : P.built t parts = Instr.fill (places.toArray[·]?) z.cells parts := by
  cases hi : P.info? t with
  | none => rw [hi] at hz; cases hz
  | some it =>
    rw [hi] at hz
    have hz' : it.zero = some z := hz
    simp only [Program.built, hi, hu, hz', hp]
/-- 129 noughts -/
def z129 : List Value := .int .i64 0 :: (z64.map B ++ z64.map B)
theorem places_wr : ∃ fields, Try.prog.underlying 66 = some (.struct fields) ∧ fields.toList.mapM (fun f => (Try.prog.info? f.type).map fun i => (f.offset, i.size)) = some [(0, 1), (1, 64), (65, 64)] := ⟨_, Try.underlying66, by kernel_rfl⟩
theorem zero_wr : (Try.prog.info? 66).bind (·.zero) = some (.agg z129.toArray) := by kernel_rfl
theorem built_wr (r : WrR) (hb : r.before.length = 64) (ha : r.after.length = 64) : Try.prog.built 66 [(0, .int .i64 (r.place : Int)), (1, .agg (r.before.map B).toArray), (2, .agg (r.after.map B).toArray)] = some r.cells.toArray := by
  obtain ⟨fields, hu, hp⟩ := places_wr
  rw [built_struct _ _ fields _ _ hu zero_wr hp]
  have hb' : (r.before.map B).length = 64 := by simpa using hb
  have ha' : (r.after.map B).length = 64 := by simpa using ha
  have hz : z129.length = 129 := rfl
  unfold WrR.cells
  generalize r.before.map B = X at *
  generalize r.after.map B = Y at *
  generalize z129 = Z at *
  show Instr.fill _ Z.toArray _ = _
  have l1 : (over Z 0 [Value.int .i64 (r.place : Int)]).length = 129 := by rw [length_over _ _ _ (by simp [hz]), hz]
  have l2 : (over (over Z 0 [Value.int .i64 (r.place : Int)]) 1 X).length = 129 := by rw [length_over _ _ _ (by rw [l1, hb']; omega), l1]
  rw [fill_cons _ Z 0 _ [.int .i64 (r.place : Int)] rfl 0 rfl (by simp [hz]), fill_cons _ _ 1 _ X rfl 1 (by simp [hb']) (by rw [l1, hb']; omega), fill_cons _ _ 2 _ Y rfl 65 (by simp [ha']) (by rw [l2, ha']; omega)]
  simp only [Instr.fill]
  congr 2
  apply List.ext_getElem?
  intro i
  simp only [over, List.getElem?_append, List.length_take, List.getElem?_take, List.getElem?_drop, List.length_cons, List.length_nil, List.length_append, List.length_drop, List.cons_append, List.nil_append, List.getElem?_cons]
  grind

theorem info_wr (n : Nat) (h : n = 129) : (Try.prog.info? 66).map (·.size) = some n := by subst h; kernel_rfl
theorem zero_wr' : ∀ w, (zeroValue 66).run Try.prog w = .ok (.agg z129.toArray) w := fun _ => by kernel_rfl
theorem size_wr (w : World) : (sizeOf 66).run Try.prog w = .ok 129 w := by kernel_rfl
theorem length_cells (r : WrR) (hb : r.before.length = 64) (ha : r.after.length = 64) : r.cells.length = 129 := by simp [WrR.cells]; omega
theorem cellsW_snoc (ws : List WrR) (r : WrR) : cellsW (ws ++ [r]) = cellsW ws ++ r.cells := by simp [cellsW]
theorem fold_all (L A : List Value) (h : A.length = L.length) : List.foldl (fun (cs : Array Value) (x : Value × Nat) => cs.setIfInBounds x.snd x.fst) A.toArray L.zipIdx = L.toArray := by
  have e := fold_over 0 L 0 A (by omega)
  simp only [Nat.zero_add] at e
  rw [e]
  simp [over, List.drop_of_length_le (Nat.le_of_eq h)]
theorem run_build1 {P : Program} (w : World) (t elem : TypeId) (L Z : List Value) (hu : P.underlying t = some (.slice elem)) (hsz : ∀ w, (sizeOf elem).run P w = .ok L.length w) (hz : ∀ w, (zeroValue elem).run P w = .ok (.agg Z.toArray) w)
    (hpos : 0 < L.length) (hle : L.length ≤ 16777216) :
    (Instr.buildSlice t 1 #[(0, .agg L.toArray)]).run P w = .ok (.slice (some ⟨w.heap.size, 0, none⟩) 1 1) (w.alloc (.cells L.toArray elem)) := by
  have hf := fun (f : Nat → Value) => fold_all L ((Array.range L.length).map f).toList (by simp)
  simp only [Array.toArray_toList] at hf
  simp [Instr.buildSlice, run_underlying hu, hsz, hz, Instr.fill, show ¬ 16777216 < L.length by omega, show ¬ L.length = 0 by omega, Value.cells, go_sem]
  rw [hf]
theorem run_build1_op {P : Program} {o : Oper} {a : Act} (t elem : TypeId) (x : Operand) (ho : o.op = .buildSlice t 1 #[(0, x)]) (L Z : List Value) (hx : a.eval x = .agg L.toArray) (hu : P.underlying t = some (.slice elem))
    (hsz : ∀ w, (sizeOf elem).run P w = .ok L.length w) (hz : ∀ w, (zeroValue elem).run P w = .ok (.agg Z.toArray) w) (hpos : 0 < L.length) (hle : L.length ≤ 16777216) (w : World) :
    (execOp a.eval o).run P w = .ok (.value (.slice (some ⟨w.heap.size, 0, none⟩) 1 1)) (w.alloc (.cells L.toArray elem)) := by
  simp [execOp, ho, hx, run_build1 w t elem L Z hu hsz hz hpos hle, Result.andThen]

/-- one more write waits: the row lies where it lay, or in a new block -/
theorem step_append_w {ops : Array Oper} {o : Oper} {a : Act} {w : World} {K : Act → World → Prop} {Q : Exit → Act → World → Prop} {E : Prop} (hgd : o.guard = none) (s x : Operand)
    (ho : o.op = .call { callee := .builtin .append, args := #[s, x], argTypes := #[59, 59] })
    (N : Nat) (ws : List WrR) (r : WrR) (v : Value) (hs : a.eval s = v) (hown : w.ownsRow N 66 129 v ws.length (cellsW ws)) (g : Nat) (hx : a.eval x = .slice (some ⟨g, 0, none⟩) 1 1)
    (hsrc : w.heap[g]? = some (.cells r.cells.toArray 66 (0, 0))) (hl : r.cells.length = 129) (hlen : ws.length ≤ 100000) (hbase : N ≤ w.heap.size)
    (k : ∀ g' cap' w', w'.ownsRow N 66 129 (.slice (some ⟨g', 0, none⟩) (ws.length + 1) cap') (ws.length + 1) (cellsW (ws ++ [r])) → w.grownBy w' v.ownBlock → (v.ownBlock = some g' ∨ g' = w.heap.size) →
      K (a.put o.dst (.slice (some ⟨g', 0, none⟩) (ws.length + 1) cap')) w') : if Region.wanted o (yielded ops a.tmps) = true then Oper.wp Try.prog o a w K Q else E := by
  obtain ⟨i, hi, hz, hsz, hby⟩ := info_parts (show (Try.prog.info? 66).map (fun i => (i.zero, i.size, i.bytes)) = some (some (.agg z129.toArray), 129, 136) by kernel_rfl)
  have hu := Try.underlying59
  have hnews : ∀ j u, r.cells[j]? = some u → w.cell? ((⟨g, 0, none⟩ : Addr).add j) = some u := by
    intro j u hj
    rw [Addr.add_mid, Nat.zero_add, cell_block hsrc]
    simpa using hj
  have hl7 : r.cells.length = 1 * 129 := by omega
  obtain ⟨v', w', hr, h2, h3, _⟩ := run_append_own_wide (P := Try.prog) w N 59 o.type 66 i _ 129 136 hu hi hz hsz hby rfl (by omega) v ws.length (cellsW ws) hown ⟨g, 0, none⟩ 1 1 r.cells hl7 hnews (one_wr r) (by unfold maxLen; omega) (by omega) hbase
  have hblk : v'.ownBlock = v.ownBlock ∨ v'.ownBlock = some w.heap.size := by
    rcases hown.2 with ⟨rfl, hn⟩ | ⟨g', cap, cur, rfl, hbg, hg, hnc, hcm, hcs, htake⟩
    · have e := run_append_nil (P := Try.prog) w 59 o.type 66 i _ hu hi hz ⟨g, 0, none⟩ 1 1 r.cells (by rw [hsz, hl7]) hnews (by omega) (by omega) (by rw [hby]; omega)
      rw [hr] at e
      injection e with e1 e2
      exact .inr (by rw [e1]; rfl)
    · by_cases hroom : ws.length + 1 ≤ cap
      · have e := run_append_room (P := Try.prog) w 59 o.type 66 i hu hi g' ws.length cap cur hg ⟨g, 0, none⟩ 1 1 r.cells (by rw [hsz, hl7]) hnews (one_wr r) hroom (by rw [hsz, hl7, hcs]; omega)
        rw [hr] at e
        injection e with e1 e2
        exact .inl (by rw [e1]; rfl)
      · have holds : ∀ j u, (cellsW ws)[j]? = some u → w.cell? ((⟨g', 0, none⟩ : Addr).add j) = some u := hown.cells (g := g') rfl
        have e := run_append_grow (P := Try.prog) w 59 o.type 66 i _ hu hi hz ⟨g', 0, none⟩ ws.length cap (cellsW ws) (by rw [hsz]; exact hown.1) holds ⟨g, 0, none⟩ 1 1 r.cells (by rw [hsz, hl7]) hnews (by omega) (by omega) (growslice_fits_wide (by omega) (by rw [hby]; omega))
        rw [hr] at e
        injection e with e1 e2
        exact .inr (by rw [e1]; rfl)
  rw [← cellsW_snoc] at h2
  obtain ⟨g', cap', rfl⟩ := ownsRow_succ h2
  rw [if_pos (by simp [Region.wanted, hgd])]
  unfold Oper.wp execOp
  simp only [ho, resolve, invoke, builtin, Sem.run_bind, Sem.run_pure, Result.andThen_ok, List.map_toArray, List.map_cons, List.map_nil, hs, hx, hr]
  refine k g' cap' w' h2 h3 ?_
  rcases hblk with h | h
  · exact .inl h.symm
  · injection h with h; exact .inr h
end Go.Proofs.Ytammnjfccjfbhaa
