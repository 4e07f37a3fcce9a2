/- What crashes come to, as plain lists. -/
import Derived.Test.YtammnjfccjfbhaaDCrash
namespace Go.Proofs.Ytammnjfccjfbhaa
open Go.RowKit

/-- sectors with all of these writes -/
def redoA (ws : List WrR) (S : List (List UInt8)) : List (List UInt8) := ws.foldl (fun S r => S.set r.place r.after) S
/-- sectors are what these writes made of others -/
structure Hist (S0 : List (List UInt8)) (s : DSt) : Prop where
  undo : undoL s.S s.ws.reverse = S0
  redo : redoA s.ws S0 = s.S
theorem burnt_S (s : DSt) : s.burnt.S = s.S ∧ s.burnt.ws = s.ws := by unfold DSt.burnt; split <;> exact ⟨rfl, rfl⟩
theorem wrote_S (s : DSt) (i : Nat) (b : List UInt8) : (s.wrote i b).S = s.S.set i b ∧ (s.wrote i b).ws = s.ws ++ [⟨i, s.S[i]?.getD [], b⟩] := by unfold DSt.wrote; exact burnt_S _
theorem Hist.wrote {S0 : List (List UInt8)} {s : DSt} (h : Hist S0 s) (i : Nat) (hi : i < s.S.length) (b : List UInt8) : Hist S0 (s.wrote i b) := by
  obtain ⟨e1, e2⟩ := wrote_S s i b
  refine ⟨?_, ?_⟩
  · rw [e1, e2, List.reverse_append, List.reverse_singleton, List.singleton_append]
    show undoL ((s.S.set i b).set i (s.S[i]?.getD [])) s.ws.reverse = S0
    rw [List.set_set, List.getElem?_eq_getElem hi, Option.getD_some, List.set_getElem_self, h.undo]
  · rw [e1, e2]
    unfold redoA
    rw [List.foldl_append]
    show ((redoA s.ws S0).set i b) = _
    rw [h.redo]
theorem Hist.none (s : DSt) (h : s.ws = []) : Hist s.S s := by
  refine ⟨?_, ?_⟩ <;> rw [h] <;> rfl
theorem redoL_all : ∀ (n : Nat) (ws : List WrR) (S : List (List UInt8)), ws.length ≤ n → redoL (List.replicate n true) ws S = redoA ws S
  | 0, [], S, _ => by simp [redoL, redoA]
  | n + 1, [], S, _ => by simp [List.replicate_succ, redoL, redoA]
  | n + 1, r :: ws, S, h => by
    rw [List.replicate_succ, redoL, redoL_all n ws _ (by simpa using h)]
    simp [redoA]
theorem redoL_none : ∀ (n : Nat) (ws : List WrR) (S : List (List UInt8)), redoL (List.replicate n false) ws S = S
  | 0, _, S => by simp [redoL]
  | n + 1, [], S => by simp [List.replicate_succ, redoL]
  | n + 1, r :: ws, S => by
    rw [List.replicate_succ, redoL, redoL_none n ws]
    simp
theorem crash_all {S0 : List (List UInt8)} {s : DSt} (h : Hist S0 s) (n : Nat) (hn : s.ws.length ≤ n) (b : Bool) : (s.crash (List.replicate n b)).S = if b then s.S else S0 := by
  unfold DSt.crash
  rw [h.undo]
  cases b
  · exact redoL_none n _ _
  · show redoL (List.replicate n true) s.ws S0 = s.S
    rw [redoL_all n _ _ hn, h.redo]
theorem undoL_get (p : Nat) : ∀ (l : List WrR) (S : List (List UInt8)), (∀ r ∈ l, r.place ≠ p) → (undoL S l)[p]? = S[p]?
  | [], _, _ => rfl
  | r :: l, S, h => by
    show (undoL (S.set r.place r.before) l)[p]? = _
    rw [undoL_get p l _ (fun x hx => h x (List.mem_cons_of_mem _ hx)), List.getElem?_set_ne (h r (List.mem_cons_self ..))]
theorem redoL_get (p : Nat) : ∀ (bs : List Bool) (l : List WrR) (S : List (List UInt8)), (∀ r ∈ l, r.place ≠ p) → (redoL bs l S)[p]? = S[p]?
  | b :: bs, r :: l, S, h => by
    rw [redoL, redoL_get p bs l _ (fun x hx => h x (List.mem_cons_of_mem _ hx))]
    split
    · rw [List.getElem?_set_ne (h r (List.mem_cons_self ..))]
    · rfl
  | [], _, _, _ => by simp [redoL]
  | _ :: _, [], _, _ => by simp [redoL]
theorem crash_get (s : DSt) (bs : List Bool) (p : Nat) (h : ∀ r ∈ s.ws, r.place ≠ p) : (s.crash bs).S[p]? = s.S[p]? := by
  unfold DSt.crash
  rw [redoL_get p bs _ _ h, undoL_get p _ _ (fun r hr => h r (List.mem_reverse.1 hr))]
theorem crash_len (s : DSt) (bs : List Bool) : (s.crash bs).S.length = s.S.length := by simp only [DSt.crash, length_redoL, length_undoL]

/-- sectors of one byte each -/
theorem map_set64 (L : List UInt8) (p : Nat) (c : UInt8) : (L.map sec64).set p (sec64 c) = (L.set p c).map sec64 := by rw [List.map_set]
theorem new_map : (DSt.new 20).S = (List.replicate 20 (0 : UInt8)).map sec64 := by
  show List.replicate 20 z64 = _
  rw [List.map_replicate]
  rfl
/-- pairs of bytes in memory -/
structure Pairs (w : World) (ad : Option Addr) (g o : Nat) (ps : List (UInt8 × UInt8)) : Prop where
  addr : ps ≠ [] → ad = some ⟨g, o, none⟩
  c0 : ∀ i, (h : i < ps.length) → w.cell? ⟨g, o + i * 2, none⟩ = some (B ps[i].1)
  c1 : ∀ i, (h : i < ps.length) → w.cell? ⟨g, o + i * 2 + 1, none⟩ = some (B ps[i].2)
theorem Pairs.below {w w' : World} {ad : Option Addr} {g o : Nat} {ps : List (UInt8 × UInt8)} {N : Nat} (h : Pairs w ad g o ps) (hb : Below N w w') (hN : ps ≠ [] → g < N) : Pairs w' ad g o ps := by
  refine ⟨h.addr, fun i hi => ?_, fun i hi => ?_⟩
  · rw [hb.cell (by exact hN (by intro e; rw [e] at hi; cases hi))]; exact h.c0 i hi
  · rw [hb.cell (by exact hN (by intro e; rw [e] at hi; cases hi))]; exact h.c1 i hi
theorem Pairs.lt {w : World} {ad : Option Addr} {g o : Nat} {ps : List (UInt8 × UInt8)} (h : Pairs w ad g o ps) (hn : ps ≠ []) : g < w.heap.size :=
  block_lt_of_cell (h.c0 0 (List.length_pos_iff.2 hn))
end Go.Proofs.Ytammnjfccjfbhaa
