/- A row of values is appended to an owned one. -/
import Derived.Test.YtllgodaphoncnaaGreatDoorJ16
import Derived.Laws.AppendOwnNone
namespace Go.Proofs.YtllgodaphoncnaaGreatDoor
open Go.RowKit

/-- a slice of values whose cells lie in this world -/
def Src (w : World) (u : Value) (l : List Val) : Prop :=
  (u = .slice none 0 0 ∧ l = []) ∨ ∃ (a : Addr) (c : Nat), u = .slice (some a) l.length c ∧ ∀ j v, (cellsL l)[j]? = some v → w.cell? (a.add j) = some v
set_option maxRecDepth 100000 in
theorem Src.below {w w' : World} {u : Value} {l : List Val} (h : Src w u l) (hb : Below w.heap.size w w') : Src w' u l := by
  rcases h with h | ⟨a, c, e, h⟩
  · exact .inl h
  · exact .inr ⟨a, c, e, fun j v hv => by
      have h1 := h j v hv
      exact (hb.cell (block_lt_of_cell h1)).trans h1⟩
set_option maxRecDepth 100000 in
theorem own_mono {w : World} {base base' : Nat} {v : Value} {n : Nat} {xs : List Value} (h : w.ownsRow base 24 4 v n xs) (hb : base' ≤ base) : w.ownsRow base' 24 4 v n xs := by
  obtain ⟨h1, h2⟩ := h
  refine ⟨h1, ?_⟩
  rcases h2 with h2 | ⟨g, cap, cur, e, hg, rest⟩
  · exact .inl h2
  · exact .inr ⟨g, cap, cur, e, by omega, rest⟩
set_option maxRecDepth 100000 in
theorem len_cellsL (l : List Val) : (cellsL l).length = l.length * 4 := by
  induction l with
  | nil => rfl
  | cons x l ih => rw [show cellsL (x :: l) = x.cells ++ cellsL l by simp [cellsL], List.length_append, ih, show x.cells.length = 4 from rfl, List.length_cons]; omega
set_option maxRecDepth 100000 in
/-- an owned row's cut is a source -/
theorem src_cut {w : World} {base g cap : Nat} {l : List Val} (h : w.ownsRow base 24 4 (.slice (some ⟨g, 0, none⟩) l.length cap) l.length (cellsL l)) (a b : Nat) (hab : a ≤ b) (hb : b ≤ l.length) (c : Nat) :
    Src w (.slice (some ⟨g, a * 4, none⟩) (b - a) c) ((l.drop a).take (b - a)) := by
  rcases h.2 with ⟨hn, _⟩ | ⟨g', cap', cur, e, hbb, hg, hc, hm, hsz, ht⟩
  · cases hn
  · obtain ⟨⟨rfl⟩, _, rfl⟩ : some (⟨g, 0, none⟩ : Addr) = some ⟨g', 0, none⟩ ∧ l.length = l.length ∧ cap = cap' := by injection e with e1 e2 e3; exact ⟨e1, e2, e3⟩
    have hlen : ((l.drop a).take (b - a)).length = b - a := by simp; omega
    refine .inr ⟨⟨g, a * 4, none⟩, c, by rw [hlen], fun j v hv => ?_⟩
    rw [Addr.add_mid, cell_block hg]
    have e1 : cellsL l = cellsL (l.take a) ++ (cellsL ((l.drop a).take (b - a)) ++ cellsL ((l.drop a).drop (b - a))) := by
      rw [← cellsL_append, List.take_append_drop, ← cellsL_append, List.take_append_drop]
    have hj : j < (cellsL ((l.drop a).take (b - a))).length := by
      rcases Nat.lt_or_ge j (cellsL ((l.drop a).take (b - a))).length with k | k
      · exact k
      · rw [List.getElem?_eq_none k] at hv; cases hv
    have hjb : j < (b - a) * 4 := by rw [len_cellsL, hlen] at hj; exact hj
    have hta : (l.take a).length = a := by simp; omega
    have h2 : (cellsL l)[a * 4 + j]? = some v := by
      rw [e1, List.getElem?_append_right (by rw [len_cellsL, hta]; omega), len_cellsL, hta, Nat.add_sub_cancel_left, List.getElem?_append_left hj, hv]
    rw [← ht, List.getElem?_take, if_pos (by omega)] at h2
    simpa using h2
set_option maxRecDepth 100000 in
theorem own_cap {w : World} {base g cap : Nat} {n : Nat} {xs : List Value} (h : w.ownsRow base 24 4 (.slice (some ⟨g, 0, none⟩) n cap) n xs) : n ≤ cap := by
  rcases h.2 with ⟨hn, _⟩ | ⟨g', cap', cur, e, hbb, hg, hc, hm, hsz, ht⟩
  · cases hn
  · injection e with e1 e2 e3; omega
set_option maxRecDepth 100000 in
theorem own_shape {w : World} {base : Nat} {v : Value} {n : Nat} {xs : List Value} (h : w.ownsRow base 24 4 v n xs) : ∃ ad m cap, v = .slice ad m cap := by
  rcases h.2 with ⟨hn, _⟩ | ⟨g', cap', cur, e, _⟩
  · exact ⟨_, _, _, hn⟩
  · exact ⟨_, _, _, e⟩
set_option maxRecDepth 100000 in
/-- a list in memory is a source -/
theorem src_of_list {w : World} {ad : Option Addr} {g o cp : Nat} {l : List Val} (h : ListAt w ad g o l) (hc : ad = none → cp = 0) : Src w (.slice ad l.length cp) l := by
  rcases ad with _ | a
  · have : l = [] := by
      apply Classical.byContradiction
      intro hn
      have := h.at' hn
      cases this
    subst this
    exact .inl ⟨by rw [hc rfl]; rfl, rfl⟩
  · refine .inr ⟨a, cp, rfl, fun j v hv => ?_⟩
    have hj : j < (cellsL l).length := by
      rcases Nat.lt_or_ge j (cellsL l).length with k | k
      · exact k
      · rw [List.getElem?_eq_none k] at hv; cases hv
    rw [len_cellsL] at hj
    have hi : j / 4 < l.length := by omega
    have ha := h.at' (by intro e; subst e; simp at hj)
    injection ha with ha
    subst ha
    have key : ∀ i r, (hi : i < l.length) → r < 4 → (cellsL l)[i * 4 + r]? = (l[i].cells)[r]? := by
      intro i r hi hr
      rw [← List.getElem?_drop, drop_cellsL l _ (by omega), List.drop_eq_getElem_cons hi]
      show (l[i].cells ++ cellsL (l.drop _))[r]? = _
      rw [List.getElem?_append_left hr]
    have e2 : (cellsL l)[j]? = (l[j / 4].cells)[j % 4]? := by
      have := key (j / 4) (j % 4) hi (by omega)
      rwa [show j / 4 * 4 + j % 4 = j by omega] at this
    rw [e2] at hv
    rw [Addr.add_mid]
    have c0 := h.c0 (j / 4) hi
    have c1 := h.c1 (j / 4) hi
    have c2 := h.c2 (j / 4) hi
    have c3 := h.c3 (j / 4) hi
    obtain h4 | h4 | h4 | h4 : j % 4 = 0 ∨ j % 4 = 1 ∨ j % 4 = 2 ∨ j % 4 = 3 := by omega
    all_goals rw [h4] at hv
    · rw [show o + j = o + j / 4 * 4 by omega, c0, ← hv]; rfl
    · rw [show o + j = o + j / 4 * 4 + 1 by omega, c1, ← hv]; rfl
    · rw [show o + j = o + j / 4 * 4 + 2 by omega, c2, ← hv]; rfl
    · rw [show o + j = o + j / 4 * 4 + 3 by omega, c3, ← hv]; rfl
set_option maxRecDepth 100000 in
theorem src_nil {w : World} {g o c : Nat} : Src w (.slice (some ⟨g, o, none⟩) 0 c) [] := .inr ⟨_, _, rfl, fun j v hv => by simp [cellsL] at hv⟩
set_option maxRecDepth 100000 in
theorem src_one {w : World} {g : Nat} {x : Val} (h : w.heap[g]? = some (.cells #[.int .i64 x.k, .int .i64 x.i, .string x.s, .slice x.a x.n x.c] 24 (0, 0))) : Src w (.slice (some ⟨g, 0, none⟩) 1 1) [x] := by
  refine .inr ⟨⟨g, 0, none⟩, 1, rfl, fun j v hv => ?_⟩
  rw [Addr.add_mid, Nat.zero_add, cell_block h]
  simpa [cellsL, Val.cells] using hv
/-- a row of one's own of these values -/
structure Owns (w : World) (base : Nat) (v : Value) (l : List Val) : Prop where
  row : w.ownsRow base 24 4 v l.length (cellsL l)
set_option maxRecDepth 100000 in
theorem append_vals {w : World} {ops : Array Oper} {rest : List Oper} {o : Oper} {a : Act} {Q : Exit → Act → World → Prop} (hgd : o.guard = none) (s x : Operand)
    (ho : o.op = .call { callee := .builtin .append, args := #[s, x], argTypes := #[22, 22] })
    (base : Nat) (h l : List Val) (v : Value) (hs : a.eval s = v) (hown' : Owns w base v h) (u : Value) (hx : a.eval x = u) (hsrc : Src w u l) (hlen : h.length + l.length ≤ 100000) (hbase : base ≤ w.heap.size) (r : List Val) (hr : r = h ++ l)
    (k : ∀ v' w', Owns w' base v' r → Below base w w' → wpList Tryz.prog ops Q rest (a.put o.dst v') w') : wpList Tryz.prog ops Q (o :: rest) a w := by
  obtain ⟨i, hi, hz, hsz, hby⟩ := info_parts (show (Tryz.prog.info? 24).map (fun i => (i.zero, i.size, i.bytes)) = some (some (.agg zeroCells.toArray), 4, 56) by kernel_rfl)
  subst hr
  have hown := hown'.row
  rcases hsrc with ⟨rfl, rfl⟩ | ⟨q, c, rfl, hc⟩
  · exact wpList_append_own_none hgd s x _ ho base 24 i 4 Tryz.underlying22 hi v h.length (cellsL h) hs hown hx (k v w ⟨by rw [List.append_nil]; exact hown⟩ (Below.refl _ _))
  · refine wpList_append_own_wide w hgd s x 22 ho base 24 i _ 4 56 Tryz.underlying22 hi hz hsz hby rfl (by omega) v h.length (cellsL h) hs hown q l.length c (cellsL l) hx (len_cellsL l) hc (one_cellsL l) (by unfold maxLen; omega) (by omega) hbase ?_
    intro v' w' hown' hgr _
    exact k v' w' ⟨by rw [List.length_append, cellsL_append]; exact hown'⟩ ((Below.refl base w).grown hgr hbase (fun b hb => (hown.lt b hb).1))
end Go.Proofs.YtllgodaphoncnaaGreatDoor
