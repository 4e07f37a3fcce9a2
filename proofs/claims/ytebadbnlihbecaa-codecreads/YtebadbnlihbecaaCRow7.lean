/- P3.2: a row of parts of one's own. -/
import Derived.Test.YtebadbnlihbecaaCWMath
namespace Go.Proofs.Ytebadbnlihbecaa
open Go.RowKit

/-- a part's cells -/
def PartV.cells (p : PartV) : List Value := [.int .u8 (p.q : Int), .int .i64 p.n, .string p.s, .int .i64 p.v.k, .int .i64 p.v.i, .string p.v.s, .slice p.v.a p.v.n p.v.c]
/-- the cells of parts, one behind the other -/
def cellsP (ps : List (PartV × List Val)) : List Value := ps.flatMap fun p => p.1.cells
theorem length_cellsP (ps : List (PartV × List Val)) : (cellsP ps).length = ps.length * 7 := by
  induction ps with
  | nil => rfl
  | cons x l ih => simp only [cellsP, List.flatMap_cons, List.length_append, List.length_cons] at ih ⊢; rw [ih, show x.1.cells.length = 7 from rfl]; omega
theorem cellsP_append (l m : List (PartV × List Val)) : cellsP (l ++ m) = cellsP l ++ cellsP m := by simp [cellsP]
theorem drop_cellsP (l : List (PartV × List Val)) (i : Nat) (h : i ≤ l.length) : (cellsP l).drop (i * 7) = cellsP (l.drop i) := by
  have e : cellsP l = cellsP (l.take i) ++ cellsP (l.drop i) := by rw [← cellsP_append, List.take_append_drop]
  rw [e, List.drop_left' (by rw [length_cellsP, List.length_take, Nat.min_eq_left h])]
theorem one_cellsP (p : PartV) : ∀ v ∈ p.cells, v.oneCell' = true := by
  intro v hv
  simp only [PartV.cells, List.mem_cons, List.not_mem_nil, or_false] at hv
  rcases hv with rfl | rfl | rfl | rfl | rfl | rfl | rfl <;> rfl
/-- a row of one's own of these parts -/
structure OwnsP (w : World) (base : Nat) (v : Value) (ps : List (PartV × List Val)) : Prop where
  row : w.ownsRow base 35 7 v ps.length (cellsP ps)
theorem ownP_on {w w' : World} {base : Nat} {v : Value} {ps : List (PartV × List Val)} (h : OwnsP w base v ps) (hk : ∀ g, base ≤ g → g < w.heap.size → w'.heap[g]? = w.heap[g]?) : OwnsP w' base v ps := by
  obtain ⟨h1, h2⟩ := h.row
  refine ⟨h1, ?_⟩
  rcases h2 with h2 | ⟨g, cap, cur, e, hb, hg, hc, hm, hsz, ht⟩
  · exact .inl h2
  · exact .inr ⟨g, cap, cur, e, hb, (hk g hb (lt_block hg)).trans hg, hc, hm, hsz, ht⟩
theorem ownP_block {w : World} {base : Nat} {v : Value} {ps : List (PartV × List Val)} (h : OwnsP w base v ps) {g : Nat} (hg : v.ownBlock = some g) : base ≤ g ∧ g < w.heap.size := by
  rcases h.row.2 with ⟨rfl, _⟩ | ⟨g', cap, cur, rfl, hb, hg', _⟩
  · cases hg
  · injection hg with hg
    subst hg
    exact ⟨hb, lt_block hg'⟩
/-- an owned row of parts is a list of parts -/
theorem own_parts {w : World} {base : Nat} {v : Value} {ps : List (PartV × List Val)} (h : OwnsP w base v ps) (hok : ∀ p ∈ ps, p.1.Ok) (hf : ∀ p ∈ ps, Full w p.1.v p.2) :
    ∃ ad g cp, v = .slice ad ps.length cp ∧ PList w ad g 0 ps := by
  rcases h.row.2 with ⟨rfl, hn⟩ | ⟨g, cap, cur, rfl, hb, hg, hc, hm, hcs, ht⟩
  · have : ps = [] := List.eq_nil_of_length_eq_zero hn
    subst this
    exact ⟨none, 0, 0, rfl, ⟨fun h => absurd rfl h, (fun j hj => absurd hj (by simp)), (fun j hj => absurd hj (by simp)), (fun j hj => absurd hj (by simp)), (fun j hj => absurd hj (by simp)), (fun j hj => absurd hj (by simp)), (fun j hj => absurd hj (by simp)), (fun j hj => absurd hj (by simp)), hok, hf⟩⟩
  · have key : ∀ j, (hj : j < ps.length) → ∀ k, k < 7 → w.cell? ⟨g, j * 7 + k, none⟩ = (ps[j].1.cells)[k]? := by
      intro j hj k hk
      rw [cell_block hg (j * 7 + k)]
      have e : (cellsP ps)[j * 7 + k]? = cur[j * 7 + k]? := by
        rw [← ht, List.getElem?_take, if_pos (by omega)]
        simp
      rw [← e, ← List.getElem?_drop, drop_cellsP ps j (by omega), List.drop_eq_getElem_cons hj]
      show (ps[j].1.cells ++ cellsP (ps.drop (j + 1)))[k]? = _
      rw [List.getElem?_append_left hk]
    refine ⟨some ⟨g, 0, none⟩, g, cap, rfl, ⟨fun _ => rfl, fun j hj => ?_, fun j hj => ?_, fun j hj => ?_, fun j hj => ?_, fun j hj => ?_, fun j hj => ?_, fun j hj => ?_, hok, hf⟩⟩
    · simpa [PartV.cells] using key j hj 0 (by omega)
    · simpa [PartV.cells] using key j hj 1 (by omega)
    · simpa [PartV.cells] using key j hj 2 (by omega)
    · simpa [PartV.cells] using key j hj 3 (by omega)
    · simpa [PartV.cells] using key j hj 4 (by omega)
    · simpa [PartV.cells] using key j hj 5 (by omega)
    · simpa [PartV.cells] using key j hj 6 (by omega)
def zeroP : List Value := [.int .u8 0, .int .i64 0, .string ⟨#[]⟩, .int .i64 0, .int .i64 0, .string ⟨#[]⟩, .slice none 0 0]
/-- one part is appended: the row lies where it lay, or in a new block -/
theorem append_part {w : World} {ops : Array Oper} {rest : List Oper} {o : Oper} {a : Act} {Q : Exit → Act → World → Prop} (hgd : o.guard = none) (s x : Operand)
    (ho : o.op = .call { callee := .builtin .append, args := #[s, x], argTypes := #[22, 22] })
    (base : Nat) (ps : List (PartV × List Val)) (p : PartV × List Val) (v : Value) (hs : a.eval s = v) (hown : OwnsP w base v ps) (g : Nat) (hx : a.eval x = .slice (some ⟨g, 0, none⟩) 1 1)
    (hsrc : w.heap[g]? = some (.cells p.1.cells.toArray 35 (0, 0))) (hlen : ps.length ≤ 1000) (hbase : base ≤ w.heap.size)
    (k : ∀ v' w', OwnsP w' base v' (ps ++ [p]) → w.grownBy w' v.ownBlock → (v'.ownBlock = v.ownBlock ∨ v'.ownBlock = some w.heap.size) → wpList Try.prog ops Q rest (a.put o.dst v') w') : wpList Try.prog ops Q (o :: rest) a w := by
  obtain ⟨i, hi, hz, hsz, hby⟩ := info_parts (show (Try.prog.info? 35).map (fun i => (i.zero, i.size, i.bytes)) = some (some (.agg zeroP.toArray), 7, 88) by kernel_rfl)
  have hu := Try.underlying22
  have hnews : ∀ j u, p.1.cells[j]? = some u → w.cell? ((⟨g, 0, none⟩ : Addr).add j) = some u := by
    intro j u hj
    rw [Addr.add_mid, Nat.zero_add, cell_block hsrc]
    simpa using hj
  have hl7 : p.1.cells.length = 1 * 7 := rfl
  obtain ⟨v', w', hr, h2, h3, _⟩ := run_append_own_wide (P := Try.prog) w base 22 o.type 35 i _ 7 88 hu hi hz hsz hby rfl (by omega) v ps.length (cellsP ps) hown.row ⟨g, 0, none⟩ 1 1 p.1.cells hl7 hnews (one_cellsP p.1) (by unfold maxLen; omega) (by omega) hbase
  have hblk : v'.ownBlock = v.ownBlock ∨ v'.ownBlock = some w.heap.size := by
    rcases hown.row.2 with ⟨rfl, hn⟩ | ⟨g', cap, cur, rfl, hbg, hg, hnc, hcm, hcs, htake⟩
    · have e := run_append_nil (P := Try.prog) w 22 o.type 35 i _ hu hi hz ⟨g, 0, none⟩ 1 1 p.1.cells (by rw [hsz, hl7]) hnews (by omega) (by omega) (by rw [hby]; omega)
      rw [hr] at e
      injection e with e1 e2
      exact .inr (by rw [e1]; rfl)
    · by_cases hroom : ps.length + 1 ≤ cap
      · have e := run_append_room (P := Try.prog) w 22 o.type 35 i hu hi g' ps.length cap cur hg ⟨g, 0, none⟩ 1 1 p.1.cells (by rw [hsz, hl7]) hnews (one_cellsP p.1) hroom (by rw [hsz, hl7, hcs]; omega)
        rw [hr] at e
        injection e with e1 e2
        exact .inl (by rw [e1]; rfl)
      · have holds : ∀ j u, (cellsP ps)[j]? = some u → w.cell? ((⟨g', 0, none⟩ : Addr).add j) = some u := hown.row.cells (g := g') rfl
        have e := run_append_grow (P := Try.prog) w 22 o.type 35 i _ hu hi hz ⟨g', 0, none⟩ ps.length cap (cellsP ps) (by rw [hsz]; exact hown.row.1) holds ⟨g, 0, none⟩ 1 1 p.1.cells (by rw [hsz, hl7]) hnews (by omega) (by omega) (growslice_fits_wide (by omega) (by rw [hby]; omega))
        rw [hr] at e
        injection e with e1 e2
        exact .inr (by rw [e1]; rfl)
  refine wpList_plain hgd fun _ hK => ?_
  unfold Oper.wp execOp
  simp only [ho, resolve, invoke, builtin, Sem.run_bind, Sem.run_pure, Result.andThen_ok, List.map_toArray, List.map_cons, List.map_nil, hs, hx, hr]
  refine hK _ _ (k v' w' ⟨?_⟩ h3 hblk)
  rw [List.length_append, cellsP_append]
  simpa [cellsP] using h2
end Go.Proofs.Ytebadbnlihbecaa
