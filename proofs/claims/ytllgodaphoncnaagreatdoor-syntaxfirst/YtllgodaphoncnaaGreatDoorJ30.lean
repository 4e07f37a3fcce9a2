/- What each level of binding reads: the program's way is the plain one; How many nodes the trees have that are read. -/
import Derived.Test.YtllgodaphoncnaaGreatDoorJ29
namespace Go.Proofs.YtllgodaphoncnaaGreatDoor
open Go.RowKit

/-- the function of a level -/
def lvFn : Lv → FuncId
  | .ors => 40
  | .ands => 61
  | .nots => 89
  | .cmp => 117
  | .sum => 125
  | .prod => 134
  | .neg => 144
  | .plain => 149
set_option maxRecDepth 100000 in
theorem level_any (I : RI) : ∀ (n : Nat) (lv : Lv) (q : PS) (W : World), Rd I W q → lv.mu I.T q < n → Calls Tryz.prog (lvFn lv) #[I.ptr] W (PostT I W (exprP I.T lv q))
  | 0, _, _, _, _, h => by omega
  | n + 1, lv, q, W, hr, hmu => by
    have ih := level_any I n
    have hm : ∀ (lv' : Lv) (q' : PS), q.at' ≤ q'.at' → lv'.rank < lv.rank → lv'.mu I.T q' < n := fun lv' q' h1 h2 => by
      have := mono_mu (T := I.T) h1 lv lv' h2; omega
    have hpm : (aheadP I.T q).k ≠ 0 → ∀ lv' : Lv, lv'.mu I.T (passP q) < n := fun h lv' => by
      have := pass_mu (T := I.T) h lv lv'; omega
    rw [expr_eq]
    cases lv <;> unfold stepP <;> simp only
    · exact expr_row I W q hr (exprP I.T .ands) (adv_expr .ands) fun W' q' h1 h2 => ih .ands q' W' h1 (hm .ands q' h2 (by decide))
    · exact ands_row I W q hr (exprP I.T .nots) (adv_expr .nots) fun W' q' h1 h2 => ih .nots q' W' h1 (hm .nots q' h2 (by decide))
    · exact not_one I W q hr (exprP I.T .nots) (exprP I.T .cmp) (fun h W' h1 => ih .nots _ W' h1 (hpm (isP_ne h) .nots)) (fun W' h1 => ih .cmp q W' h1 (hm .cmp q (Nat.le_refl _) (by decide)))
    · exact cmp_any I W q hr (exprP I.T .sum) (adv_expr .sum) fun W' q' h1 h2 => ih .sum q' W' h1 (hm .sum q' h2 (by decide))
    · exact sum_row I W q hr (exprP I.T .prod) (adv_expr .prod) fun W' q' h1 h2 => ih .prod q' W' h1 (hm .prod q' h2 (by decide))
    · exact product_row I W q hr (exprP I.T .neg) (adv_expr .neg) fun W' q' h1 h2 => ih .neg q' W' h1 (hm .neg q' h2 (by decide))
    · exact neg_one I W q hr (exprP I.T .neg) (exprP I.T .plain) (fun h W' h1 => ih .neg _ W' h1 (hpm (isP_ne h) .neg)) (fun W' h1 => ih .plain q W' h1 (hm .plain q (Nat.le_refl _) (by decide)))
    · refine plain_any I W q hr (exprP I.T .ors) (adv_expr .ors) fun W' q' h1 h2 => ih .ors q' W' h2 ?_
      have h3 := h2.at'
      simp only [Lv.mu, Lv.rank] at hmu ⊢
      omega
set_option maxRecDepth 100000 in
/-- what an expression is read as -/
theorem expr_any (I : RI) (w : World) (p : PS) (h : Rd I w p) : Calls Tryz.prog 40 #[I.ptr] w (PostT I w (exprP I.T .ors p)) :=
  level_any I _ .ors p w h (Nat.lt_succ_self _)
/-! how many nodes a tree has -/
mutual
def sizeT : Tr → Nat
  | .mk _ _ _ _ ps => 1 + sizeL ps
def sizeL : List Tr → Nat
  | [] => 0
  | t :: l => sizeT t + sizeL l
end
mutual
def depthT : Tr → Nat
  | .mk _ _ _ _ ps => 1 + depthL ps
def depthL : List Tr → Nat
  | [] => 0
  | t :: l => max (depthT t) (depthL l)
end
set_option maxRecDepth 100000 in
theorem sizeL_mem {t : Tr} : ∀ {l : List Tr}, t ∈ l → sizeT t ≤ sizeL l
  | a :: l, h => by
    rcases List.mem_cons.1 h with rfl | h
    · unfold sizeL; omega
    · have := sizeL_mem h; unfold sizeL; omega
set_option maxRecDepth 100000 in
theorem sizeT_pos (t : Tr) : 1 ≤ sizeT t := by cases t; unfold sizeT; omega
set_option maxRecDepth 100000 in
theorem depthT_pos (t : Tr) : 1 ≤ depthT t := by cases t; unfold depthT; omega
end Go.Proofs.YtllgodaphoncnaaGreatDoor
namespace Go.Proofs.YtllgodaphoncnaaGreatDoor

section
variable {T : List Tk}
/-- two nodes at most for each token that is read -/
def Sized (f : PS → Tr × PS) : Prop := ∀ p, sizeT (f p).1 ≤ 2 * ((f p).2.at' - p.at') + 1
set_option maxRecDepth 100000 in
theorem size_mk1 (op : List UInt8) (a : Tr) : sizeT (mk1 op a) = 1 + sizeT a := by simp [mk1, sizeT, sizeL]
set_option maxRecDepth 100000 in
theorem size_mk2 (op : List UInt8) (a b : Tr) : sizeT (mk2 op a b) = 1 + (sizeT a + sizeT b) := by simp [mk2, sizeT, sizeL]
set_option maxRecDepth 100000 in
theorem size_leaf (op : List UInt8) (v : PV) (who name : List UInt8) : sizeT (.mk op v who name []) = 1 := by simp [sizeT, sizeL]
set_option maxRecDepth 100000 in
theorem pass_at (p : PS) : (passP p).at' = p.at' + 1 := rfl
set_option maxRecDepth 100000 in
theorem size_loop {part : PS → Tr × PS} (hp : Reads1 T part) (hs : Sized part) (ops : List (List UInt8)) (hne : ∀ s ∈ ops, s ≠ []) : ∀ (n : Nat) (e : Tr) (q : PS) (m : Nat), m ≤ q.at' → sizeT e ≤ 2 * (q.at' - m) + 1 → sizeT (loopP T part ops n (e, q)).1 ≤ 2 * ((loopP T part ops n (e, q)).2.at' - m) + 1
  | 0, e, q, m, hm, h => h
  | n + 1, e, q, m, hm, h => by
    unfold loopP
    dsimp only
    rcases takesOne_cases (T := T) ops q with ⟨ho, -⟩ | ⟨s, hs', ht, ho⟩
    · rw [ho]; simpa using h
    · rw [ho]
      dsimp only
      rw [if_neg (hne s hs')]
      have h1 := hs (passP q)
      have h2 := (hp (passP q)).mono
      rw [pass_at] at h1 h2
      refine size_loop hp hs ops hne n _ _ m (by omega) ?_
      rw [size_mk2]
      omega
set_option maxRecDepth 100000 in
theorem size_plain {ex : PS → Tr × PS} (hp : Reads1 T ex) (hs : Sized ex) : Sized (plainP T ex) := by
  intro p
  unfold plainP
  split
  · unfold valT; rw [size_leaf]; omega
  · split
    · unfold attrP attrT; rw [size_leaf]; omega
    · simp only
      rcases takesOne_cases (T := T) plainOps p with ⟨h, -⟩ | ⟨s, hs', ht, h⟩
      · rw [h]
        simp [noTr, size_leaf]
      · rw [h]
        have hne : s ≠ [] := by intro e; subst e; revert hs'; decide
        simp only [hne, if_false]
        split
        · unfold leafT; rw [size_leaf]; omega
        · split
          · unfold bagP bagTail valT; rw [size_leaf]; omega
          · split
            · have h1 := hs (passP p)
              have h2 := (hp (passP p)).mono
              have h3 := (adv_needs (T := T) kEnd (ex (passP p)).2).mono
              rw [pass_at] at h1 h2
              unfold closedP
              dsimp only
              omega
            · unfold closedP callP
              dsimp only
              split
              · unfold attrP attrT; dsimp only; rw [size_leaf]; omega
              · split
                · unfold roleT; dsimp only; rw [size_leaf]; omega
                · dsimp only
                  have h0 := (adv_needs (T := T) kPar (passP p)).mono
                  have h1 := hs (needsP T kPar (passP p))
                  have h2 := (hp (needsP T kPar (passP p))).mono
                  have h3 := (adv_needs (T := T) kEnd (ex (needsP T kPar (passP p))).2).mono
                  rw [pass_at] at h0
                  rw [size_mk1]
                  omega
set_option maxRecDepth 100000 in
theorem size_step {rec : Lv → PS → Tr × PS} (hr : ∀ lv, Reads1 T (rec lv)) (hs : ∀ lv, Sized (rec lv)) (lv : Lv) : Sized (stepP T rec lv) := by
  intro p
  have row : ∀ lv' ops, (∀ s ∈ ops, s ≠ []) → sizeT (loopP T (rec lv') ops (T.length + 1) (rec lv' p)).1 ≤ 2 * ((loopP T (rec lv') ops (T.length + 1) (rec lv' p)).2.at' - p.at') + 1 := fun lv' ops hne =>
    size_loop (hr lv') (hs lv') ops hne _ (rec lv' p).1 (rec lv' p).2 p.at' (hr lv' p).mono (hs lv' p)
  cases lv <;> unfold stepP <;> simp only
  · exact row .ands [kOr] (by decide)
  · exact row .nots [kAnd] (by decide)
  · split
    · have h1 := hs .nots (passP p)
      have h2 := (hr .nots (passP p)).mono
      rw [pass_at] at h1 h2
      dsimp only
      rw [size_mk1]; omega
    · exact hs .cmp p
  · rcases takesOne_cases (T := T) cmpOps (rec .sum p).2 with ⟨h, -⟩ | ⟨s, hs', ht, h⟩
    · rw [h]; exact hs .sum p
    · rw [h]
      have hne : s ≠ [] := by intro e; subst e; revert hs'; decide
      simp only [hne, if_false]
      have h0 := hs .sum p
      have h1 := hs .sum (passP (rec .sum p).2)
      have h2 := (hr .sum (passP (rec .sum p).2)).mono
      have h3 := (hr .sum p).mono
      rw [pass_at] at h1 h2
      rw [size_mk2]; omega
  · exact row .prod [kPlus, kMinus] (by decide)
  · exact row .neg [kStar] (by decide)
  · split
    · have h1 := hs .neg (passP p)
      have h2 := (hr .neg (passP p)).mono
      rw [pass_at] at h1 h2
      dsimp only
      rw [size_mk1]; omega
    · exact hs .plain p
  · exact size_plain (hr .ors) (hs .ors) p
set_option maxRecDepth 100000 in
theorem size_fuel : ∀ (f : Nat) (lv : Lv), Sized (fuelP T f lv)
  | 0, _ => fun p => by simp [fuelP, noTr, size_leaf]
  | f + 1, lv => size_step (adv_fuel f) (size_fuel f) lv
set_option maxRecDepth 100000 in
theorem size_expr (lv : Lv) : Sized (exprP T lv) := size_fuel _ lv
end
/-- what tokens are parsed as: the tree, the place, the error -/
def parseM (T : List Tk) : Tr × Nat × Int :=
  if 600 < T.length then (noTr, 0, 13)
  else
    let x := exprP T .ors ⟨0, none⟩
    let q := if x.2.at' < T.length then stopP x.2 else x.2
    match q.err with
    | some e => (noTr, e.2, e.1)
    | none => if 12 < depthT x.1 then (noTr, 0, 11) else (x.1, 0, 0)
end Go.Proofs.YtllgodaphoncnaaGreatDoor
