/- The document's disk, as plain lists, beside the program's. -/
import Derived.Test.YtammnjfccjfbhaaDHist
namespace Go.Proofs.Ytammnjfccjfbhaa
open Go.RowKit

/-- a write, as the document keeps it -/
structure RWr where
  at' : Int
  b : List UInt8
  done : Bool
instance : Inhabited RWr := ⟨⟨0, [], false⟩⟩
/-- the document's disk -/
structure RSt where
  n : Nat
  L : List RWr
  fuse : Int
def RWr.cells (r : RWr) : List Value := [.int .i64 r.at', .string ⟨r.b.toArray⟩, .bool r.done]
def cellsR (L : List RWr) : List Value := (L.map RWr.cells).flatten
theorem cellsR_snoc (L : List RWr) (r : RWr) : cellsR (L ++ [r]) = cellsR L ++ r.cells := by simp [cellsR]
theorem wide_R (L : List RWr) : Wide 3 (L.map RWr.cells) := by
  intro r hr
  obtain ⟨x, hx, rfl⟩ := List.mem_map.1 hr
  rfl
theorem length_cellsR (L : List RWr) : (cellsR L).length = L.length * 3 := by unfold cellsR; rw [length_flat (wide_R L), List.length_map]
theorem one_R (r : RWr) : ∀ v ∈ r.cells, v.oneCell' = true := by
  intro v hv
  simp only [RWr.cells, List.mem_cons, List.not_mem_nil, or_false] at hv
  rcases hv with rfl | rfl | rfl <;> rfl
/-- a sector, by its last write -/
def lookR (L : List RWr) (i : Int) : List UInt8 := L.foldl (fun acc r => if r.at' = i then r.b else acc) z64
theorem lookR_snoc (L : List RWr) (r : RWr) (i : Int) : lookR (L ++ [r]) i = if r.at' = i then r.b else lookR L i := by simp [lookR]
theorem lookR_take (L : List RWr) (i : Int) (k : Nat) (h : k < L.length) : lookR (L.take (k + 1)) i = if (L[k]).at' = i then (L[k]).b else lookR (L.take k) i := by
  rw [List.take_succ_eq_append_getElem h, lookR_snoc]
def RWr.mark (r : RWr) : RWr := { r with done := true }
theorem lookR_mark (L : List RWr) (i : Int) : lookR (L.map RWr.mark) i = lookR L i := by
  unfold lookR
  rw [List.foldl_map]
  rfl
/-- sectors are what these writes left -/
def View (S : List (List UInt8)) (L : List RWr) : Prop := ∀ i, i < S.length → S[i]? = some (lookR L (i : Int))
theorem View.set {S : List (List UInt8)} {L : List RWr} (h : View S L) (p : Nat) (b : List UInt8) (d : Bool) : View (S.set p b) (L ++ [⟨(p : Int), b, d⟩]) := by
  intro i hi
  rw [List.length_set] at hi
  rw [lookR_snoc]
  by_cases e : p = i
  · subst e
    rw [List.getElem?_set_self hi, if_pos rfl]
  · rw [List.getElem?_set_ne e, h i hi, if_neg (by show ¬ ((p : Int) = (i : Int)); omega)]
/-- those that are picked -/
def keptL : List Bool → List RWr → List RWr
  | b :: bs, r :: L => (if b then [r.mark] else []) ++ keptL bs L
  | _, _ => []
theorem keptL_snoc : ∀ (bs : List Bool) (L : List RWr) (k : Nat) (hk : k < L.length), keptL bs (L.take (k + 1)) = keptL bs (L.take k) ++ (if bs.getD k false then [(L[k]).mark] else [])
  | [], r :: L, k, hk => by cases k <;> simp [keptL]
  | b :: bs, r :: L, 0, hk => by simp [keptL]
  | b :: bs, r :: L, k + 1, hk => by
    have := keptL_snoc bs L k (by simpa using hk)
    simp only [List.take_succ_cons, keptL, List.append_assoc, this]
    simp
theorem view_redo : ∀ (bs : List Bool) (ws : List WrR) (Lw : List RWr) (S0 : List (List UInt8)) (Ld : List RWr), (ws.map fun r => ((r.place : Int), r.after)) = (Lw.map fun x => (x.at', x.b)) → View S0 Ld → View (redoL bs ws S0) (Ld ++ keptL bs Lw)
  | [], ws, Lw, S0, Ld, _, h => by simpa [redoL, keptL] using h
  | b :: bs, [], Lw, S0, Ld, he, h => by
    have : Lw = [] := by cases Lw with | nil => rfl | cons => simp at he
    subst this
    simpa [redoL, keptL] using h
  | b :: bs, r :: ws, [], S0, Ld, he, h => by simp at he
  | b :: bs, r :: ws, x :: Lw, S0, Ld, he, h => by
    simp only [List.map_cons, List.cons.injEq, Prod.mk.injEq] at he
    obtain ⟨⟨e1, e2⟩, e3⟩ := he
    rw [redoL, keptL, ← List.append_assoc]
    refine view_redo bs ws Lw _ _ e3 ?_
    cases b with
    | false => simpa using h
    | true =>
      have := h.set r.place r.after true
      simp only [if_true]
      rw [show x.mark = ⟨(r.place : Int), r.after, true⟩ by rw [e1, e2]; rfl]
      exact this
/-- how many wait -/
def waitN (L : List RWr) : Nat := (L.filter fun r => !r.done).length
theorem waitN_snoc (L : List RWr) (r : RWr) : waitN (L ++ [r]) = waitN L + if r.done then 0 else 1 := by
  unfold waitN
  rw [List.filter_append]
  cases h : r.done <;> simp [h]
theorem waitN_take (L : List RWr) (k : Nat) (h : k < L.length) : waitN (L.take (k + 1)) = waitN (L.take k) + if (L[k]).done then 0 else 1 := by
  rw [List.take_succ_eq_append_getElem h, waitN_snoc]
theorem waitN_le (L : List RWr) : waitN L ≤ L.length := List.length_filter_le _ _
/-- what a crash keeps of the first k -/
def keptK (bs : List Bool) (L : List RWr) : Nat → List RWr
  | 0 => []
  | k + 1 => keptK bs L k ++ (match L[k]? with | none => [] | some r => if r.done then [r] else if bs.getD (waitN (L.take k)) false then [r.mark] else [])
theorem keptK_succ (bs : List Bool) (L : List RWr) (k : Nat) (h : k < L.length) : keptK bs L (k + 1) = keptK bs L k ++ (if (L[k]).done then [L[k]] else if bs.getD (waitN (L.take k)) false then [(L[k]).mark] else []) := by
  rw [keptK, List.getElem?_eq_getElem h]
theorem length_keptK (bs : List Bool) (L : List RWr) : ∀ k, (keptK bs L k).length ≤ k
  | 0 => by simp [keptK]
  | k + 1 => by
    have := length_keptK bs L k
    rw [keptK, List.length_append]
    have : (match L[k]? with | none => [] | some r => if r.done then [r] else if bs.getD (waitN (L.take k)) false then [r.mark] else []).length ≤ 1 := by
      split
      · simp
      · split
        · simp
        · split <;> simp
    omega
theorem waitN_done (L : List RWr) (h : ∀ x ∈ L, x.done = true) : waitN L = 0 := by
  unfold waitN
  rw [List.length_eq_zero_iff, List.filter_eq_nil_iff]
  intro x hx
  simp [h x hx]
theorem waitN_wait (L : List RWr) (h : ∀ x ∈ L, x.done = false) : waitN L = L.length := by
  unfold waitN
  rw [List.filter_eq_self.2]
  intro x hx
  simp [h x hx]
theorem waitN_append (L M : List RWr) : waitN (L ++ M) = waitN L + waitN M := by unfold waitN; rw [List.filter_append, List.length_append]
theorem keptK_split (bs : List Bool) (Ld Lw : List RWr) (hd : ∀ x ∈ Ld, x.done = true) (hw : ∀ x ∈ Lw, x.done = false) : keptK bs (Ld ++ Lw) (Ld ++ Lw).length = Ld ++ keptL bs Lw := by
  have h1 : ∀ k, k ≤ Ld.length → keptK bs (Ld ++ Lw) k = Ld.take k := by
    intro k
    induction k with
    | zero => intro _; simp [keptK]
    | succ k ih =>
      intro hk
      rw [keptK_succ _ _ k (by simp; omega), ih (by omega), List.getElem_append_left (by omega), if_pos (hd _ (List.getElem_mem _)), ← List.take_succ_eq_append_getElem (by omega)]
  have h2 : ∀ j, j ≤ Lw.length → keptK bs (Ld ++ Lw) (Ld.length + j) = Ld ++ keptL bs (Lw.take j) := by
    intro j
    induction j with
    | zero => intro _; rw [Nat.add_zero, h1 _ (Nat.le_refl _), List.take_length]; cases bs <;> simp [keptL]
    | succ j ih =>
      intro hj
      have hwt : waitN ((Ld ++ Lw).take (Ld.length + j)) = j := by
        rw [List.take_append, List.take_of_length_le (by omega), Nat.add_sub_cancel_left, waitN_append, waitN_done Ld hd, waitN_wait _ (fun x hx => hw x (List.mem_of_mem_take hx)), List.length_take]; omega
      rw [show Ld.length + (j + 1) = Ld.length + j + 1 by omega, keptK_succ _ _ _ (by simp; omega), ih (by omega), hwt, List.getElem_append_right (by omega)]
      simp only [Nat.add_sub_cancel_left]
      rw [if_neg (by rw [hw _ (List.getElem_mem _)]; simp), keptL_snoc bs Lw j (by omega), List.append_assoc]
  have := h2 Lw.length (Nat.le_refl _)
  rw [List.take_length] at this
  rw [List.length_append, this]
theorem keptL_done : ∀ (bs : List Bool) (L : List RWr), ∀ x ∈ keptL bs L, x.done = true
  | b :: bs, r :: L, x, hx => by
    rw [keptL] at hx
    rcases List.mem_append.1 hx with hx | hx
    · cases b with
      | false => cases hx
      | true => rw [List.mem_singleton.1 hx]; rfl
    · exact keptL_done bs L x hx
  | [], _, x, hx => by simp [keptL] at hx
  | _ :: _, [], x, hx => by simp [keptL] at hx

/-- the program's disk beside the document's -/
structure RelD (s : DSt) (t : RSt) : Prop where
  n : t.n = s.S.length
  split : ∃ Ld Lw, t.L = Ld ++ Lw ∧ (∀ x ∈ Ld, x.done = true) ∧ (∀ x ∈ Lw, x.done = false) ∧ View (undoL s.S s.ws.reverse) Ld ∧ (s.ws.map fun r => ((r.place : Int), r.after)) = (Lw.map fun x => (x.at', x.b))
  view : View s.S t.L
  gone : s.gone = decide (t.fuse = 0)
  fuse : s.gone = false → s.fuse = max t.fuse 0
  lo : -1 ≤ t.fuse
theorem RelD.waits {s : DSt} {t : RSt} (h : RelD s t) : waitN t.L = s.ws.length := by
  obtain ⟨Ld, Lw, e, hd, hw, _, hm⟩ := h.split
  rw [e, waitN_append, waitN_done Ld hd, waitN_wait Lw hw]
  have := congrArg List.length hm
  simp at this
  omega
theorem rel_new (m : Nat) : RelD (DSt.new m) ⟨m, [], -1⟩ := by
  have hv : View (List.replicate m z64) [] := fun i hi => by
    rw [List.length_replicate] at hi
    rw [List.getElem?_replicate, if_pos hi]
    rfl
  exact ⟨by simp [DSt.new], ⟨[], [], rfl, (fun x hx => by cases hx), (fun x hx => by cases hx), hv, rfl⟩, hv, rfl, fun _ => rfl, by show (-1 : Int) ≤ -1; omega⟩
theorem RelD.write {s : DSt} {t : RSt} (h : RelD s t) (hg : s.gone = false) (i : Nat) (hi : i < s.S.length) (b : List UInt8) : RelD (s.wrote i b) ⟨t.n, t.L ++ [⟨(i : Int), b, false⟩], if 0 < t.fuse then t.fuse - 1 else t.fuse⟩ := by
  obtain ⟨e1, e2⟩ := wrote_S s i b
  obtain ⟨Ld, Lw, e, hd, hw, hv, hm⟩ := h.split
  have hne : t.fuse ≠ 0 := fun e0 => by have := h.gone; rw [hg, e0] at this; cases this
  have hfu := h.fuse hg
  have hlo := h.lo
  have hbu : (s.wrote i b).gone = decide ((if 0 < t.fuse then t.fuse - 1 else t.fuse) = 0) ∧ ((s.wrote i b).gone = false → (s.wrote i b).fuse = max (if 0 < t.fuse then t.fuse - 1 else t.fuse) 0) := by
    unfold DSt.wrote DSt.burnt
    by_cases hp : 0 < t.fuse
    · rw [if_pos (by show 0 < s.fuse; omega), if_pos hp]
      refine ⟨?_, fun hx => ?_⟩
      · show (s.fuse - 1 == 0) = _
        rw [Bool.eq_iff_iff, beq_iff_eq, decide_eq_true_iff]
        omega
      · show s.fuse - 1 = _
        have hx' : (s.fuse - 1 == 0) = false := hx
        have : s.fuse - 1 ≠ 0 := by simpa using hx'
        omega
    · rw [if_neg (by show ¬ 0 < s.fuse; omega), if_neg hp]
      refine ⟨?_, fun _ => ?_⟩
      · show s.gone = _
        rw [hg, decide_eq_false hne]
      · show s.fuse = _
        omega
  refine ⟨by rw [e1, List.length_set]; exact h.n, ⟨Ld, Lw ++ [⟨(i : Int), b, false⟩], by rw [e, List.append_assoc], hd, fun x hx => ?_, ?_, by rw [e2, List.map_append, List.map_append, hm]; rfl⟩, by rw [e1]; exact h.view.set i b false, hbu.1, hbu.2, ?_⟩
  · rcases List.mem_append.1 hx with hx | hx
    · exact hw x hx
    · rw [List.mem_singleton.1 hx]
  · rw [e1, e2, List.reverse_append, List.reverse_singleton, List.singleton_append]
    show View (undoL ((s.S.set i b).set i (s.S[i]?.getD [])) s.ws.reverse) Ld
    rw [List.set_set, List.getElem?_eq_getElem hi, Option.getD_some, List.set_getElem_self]
    exact hv
  · show -1 ≤ if 0 < t.fuse then t.fuse - 1 else t.fuse
    split <;> omega
theorem RelD.flush {s : DSt} {t : RSt} (h : RelD s t) : RelD { s with ws := [] } ⟨t.n, t.L.map RWr.mark, t.fuse⟩ := by
  have hv : View s.S (t.L.map RWr.mark) := fun i hi => by rw [lookR_mark]; exact h.view i hi
  refine ⟨h.n, ⟨t.L.map RWr.mark, [], by simp, fun x hx => ?_, (fun x hx => by cases hx), hv, rfl⟩, hv, h.gone, h.fuse, h.lo⟩
  obtain ⟨y, _, rfl⟩ := List.mem_map.1 hx
  rfl
theorem RelD.setFuse {s : DSt} {t : RSt} (h : RelD s t) (m : Int) : RelD { s with fuse := max m 0, gone := m == 0 } ⟨t.n, t.L, max m (-1)⟩ := by
  refine ⟨h.n, h.split, h.view, ?_, fun _ => ?_, ?_⟩
  · show (m == 0) = _
    rw [Bool.eq_iff_iff, beq_iff_eq, decide_eq_true_iff]
    show m = 0 ↔ max m (-1) = 0
    omega
  · show max m 0 = max (max m (-1)) 0
    omega
  · show -1 ≤ max m (-1)
    omega
theorem RelD.crash {s : DSt} {t : RSt} (h : RelD s t) (bs : List Bool) : RelD (s.crash bs) ⟨t.n, keptK bs t.L t.L.length, -1⟩ := by
  obtain ⟨Ld, Lw, e, hd, hw, hv, hm⟩ := h.split
  have hk : keptK bs t.L t.L.length = Ld ++ keptL bs Lw := by rw [e]; exact keptK_split bs Ld Lw hd hw
  have hv' : View (s.crash bs).S (Ld ++ keptL bs Lw) := view_redo bs s.ws Lw _ Ld hm hv
  refine ⟨by rw [crash_len]; exact h.n, ⟨Ld ++ keptL bs Lw, [], by rw [hk]; simp, fun x hx => ?_, (fun x hx => by cases hx), hv', rfl⟩, by rw [hk]; exact hv', rfl, fun _ => rfl, by show (-1 : Int) ≤ -1; omega⟩
  rcases List.mem_append.1 hx with hx | hx
  · exact hd x hx
  · exact keptL_done bs Lw x hx
end Go.Proofs.Ytammnjfccjfbhaa
