/- How many nodes the trees have that are read. -/
import Derived.Test.YtllgodaphoncnaaGreatDoorSExpr
namespace Go.Proofs.YtllgodaphoncnaaGreatDoor

section
variable {T : List Tk}
/-- two nodes at most for each token that is read -/
def Sized (f : PS → Tr × PS) : Prop := ∀ p, sizeT (f p).1 ≤ 2 * ((f p).2.at' - p.at') + 1
set_option maxRecDepth 100000 in
theorem size_mk1 (op : List UInt8) (a : Tr) : sizeT (mk1 op a) = 1 + sizeT a := by simp [mk1, sizeT, sizeL]
set_option maxRecDepth 100000 in
theorem size_mk2 (op : List UInt8) (a b : Tr) : sizeT (mk2 op a b) = 1 + (sizeT a + sizeT b) := by simp [mk2, sizeT, sizeL]
set_option maxRecDepth 100000 in
theorem size_leaf (op : List UInt8) (v : PV) (who name : List UInt8) : sizeT (.mk op v who name []) = 1 := by simp [sizeT, sizeL]
set_option maxRecDepth 100000 in
theorem pass_at (p : PS) : (passP p).at' = p.at' + 1 := rfl
set_option maxRecDepth 100000 in
theorem size_loop {part : PS → Tr × PS} (hp : Reads1 T part) (hs : Sized part) (ops : List (List UInt8)) (hne : ∀ s ∈ ops, s ≠ []) : ∀ (n : Nat) (e : Tr) (q : PS) (m : Nat), m ≤ q.at' → sizeT e ≤ 2 * (q.at' - m) + 1 → sizeT (loopP T part ops n (e, q)).1 ≤ 2 * ((loopP T part ops n (e, q)).2.at' - m) + 1
  | 0, e, q, m, hm, h => h
  | n + 1, e, q, m, hm, h => by
    unfold loopP
    dsimp only
    rcases takesOne_cases (T := T) ops q with ⟨ho, -⟩ | ⟨s, hs', ht, ho⟩
    · rw [ho]; simpa using h
    · rw [ho]
      dsimp only
      rw [if_neg (hne s hs')]
      have h1 := hs (passP q)
      have h2 := (hp (passP q)).mono
      rw [pass_at] at h1 h2
      refine size_loop hp hs ops hne n _ _ m (by omega) ?_
      rw [size_mk2]
      omega
set_option maxRecDepth 100000 in
theorem size_plain {ex : PS → Tr × PS} (hp : Reads1 T ex) (hs : Sized ex) : Sized (plainP T ex) := by
  intro p
  unfold plainP
  split
  · unfold valT; rw [size_leaf]; omega
  · split
    · unfold attrP attrT; rw [size_leaf]; omega
    · simp only
      rcases takesOne_cases (T := T) plainOps p with ⟨h, -⟩ | ⟨s, hs', ht, h⟩
      · rw [h]
        simp [noTr, size_leaf]
      · rw [h]
        have hne : s ≠ [] := by intro e; subst e; revert hs'; decide
        simp only [hne, if_false]
        split
        · unfold leafT; rw [size_leaf]; omega
        · split
          · unfold bagP bagTail valT; rw [size_leaf]; omega
          · split
            · have h1 := hs (passP p)
              have h2 := (hp (passP p)).mono
              have h3 := (adv_needs (T := T) kEnd (ex (passP p)).2).mono
              rw [pass_at] at h1 h2
              unfold closedP
              dsimp only
              omega
            · unfold closedP callP
              dsimp only
              split
              · unfold attrP attrT; dsimp only; rw [size_leaf]; omega
              · split
                · unfold roleT; dsimp only; rw [size_leaf]; omega
                · dsimp only
                  have h0 := (adv_needs (T := T) kPar (passP p)).mono
                  have h1 := hs (needsP T kPar (passP p))
                  have h2 := (hp (needsP T kPar (passP p))).mono
                  have h3 := (adv_needs (T := T) kEnd (ex (needsP T kPar (passP p))).2).mono
                  rw [pass_at] at h0
                  rw [size_mk1]
                  omega
set_option maxRecDepth 100000 in
theorem size_step {rec : Lv → PS → Tr × PS} (hr : ∀ lv, Reads1 T (rec lv)) (hs : ∀ lv, Sized (rec lv)) (lv : Lv) : Sized (stepP T rec lv) := by
  intro p
  have row : ∀ lv' ops, (∀ s ∈ ops, s ≠ []) → sizeT (loopP T (rec lv') ops (T.length + 1) (rec lv' p)).1 ≤ 2 * ((loopP T (rec lv') ops (T.length + 1) (rec lv' p)).2.at' - p.at') + 1 := fun lv' ops hne =>
    size_loop (hr lv') (hs lv') ops hne _ (rec lv' p).1 (rec lv' p).2 p.at' (hr lv' p).mono (hs lv' p)
  cases lv <;> unfold stepP <;> simp only
  · exact row .ands [kOr] (by decide)
  · exact row .nots [kAnd] (by decide)
  · split
    · have h1 := hs .nots (passP p)
      have h2 := (hr .nots (passP p)).mono
      rw [pass_at] at h1 h2
      dsimp only
      rw [size_mk1]; omega
    · exact hs .cmp p
  · rcases takesOne_cases (T := T) cmpOps (rec .sum p).2 with ⟨h, -⟩ | ⟨s, hs', ht, h⟩
    · rw [h]; exact hs .sum p
    · rw [h]
      have hne : s ≠ [] := by intro e; subst e; revert hs'; decide
      simp only [hne, if_false]
      have h0 := hs .sum p
      have h1 := hs .sum (passP (rec .sum p).2)
      have h2 := (hr .sum (passP (rec .sum p).2)).mono
      have h3 := (hr .sum p).mono
      rw [pass_at] at h1 h2
      rw [size_mk2]; omega
  · exact row .prod [kPlus, kMinus] (by decide)
  · exact row .neg [kStar] (by decide)
  · split
    · have h1 := hs .neg (passP p)
      have h2 := (hr .neg (passP p)).mono
      rw [pass_at] at h1 h2
      dsimp only
      rw [size_mk1]; omega
    · exact hs .plain p
  · exact size_plain (hr .ors) (hs .ors) p
set_option maxRecDepth 100000 in
theorem size_fuel : ∀ (f : Nat) (lv : Lv), Sized (fuelP T f lv)
  | 0, _ => fun p => by simp [fuelP, noTr, size_leaf]
  | f + 1, lv => size_step (adv_fuel f) (size_fuel f) lv
set_option maxRecDepth 100000 in
theorem size_expr (lv : Lv) : Sized (exprP T lv) := size_fuel _ lv
end
/-- what tokens are parsed as: the tree, the place, the error -/
def parseM (T : List Tk) : Tr × Nat × Int :=
  if 600 < T.length then (noTr, 0, 13)
  else
    let x := exprP T .ors ⟨0, none⟩
    let q := if x.2.at' < T.length then stopP x.2 else x.2
    match q.err with
    | some e => (noTr, e.2, e.1)
    | none => if 12 < depthT x.1 then (noTr, 0, 11) else (x.1, 0, 0)
end Go.Proofs.YtllgodaphoncnaaGreatDoor
