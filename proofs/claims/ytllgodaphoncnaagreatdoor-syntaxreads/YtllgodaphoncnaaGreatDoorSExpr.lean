/- What each level of binding reads: the program's way is the plain one. -/
import Derived.Test.YtllgodaphoncnaaGreatDoorSPlain
namespace Go.Proofs.YtllgodaphoncnaaGreatDoor
open Go.RowKit

/-- the function of a level -/
def lvFn : Lv → FuncId
  | .ors => 40
  | .ands => 61
  | .nots => 89
  | .cmp => 117
  | .sum => 125
  | .prod => 134
  | .neg => 144
  | .plain => 149
set_option maxRecDepth 100000 in
theorem level_any (I : RI) : ∀ (n : Nat) (lv : Lv) (q : PS) (W : World), Rd I W q → lv.mu I.T q < n → Calls Tryz.prog (lvFn lv) #[I.ptr] W (PostT I W (exprP I.T lv q))
  | 0, _, _, _, _, h => by omega
  | n + 1, lv, q, W, hr, hmu => by
    have ih := level_any I n
    have hm : ∀ (lv' : Lv) (q' : PS), q.at' ≤ q'.at' → lv'.rank < lv.rank → lv'.mu I.T q' < n := fun lv' q' h1 h2 => by
      have := mono_mu (T := I.T) h1 lv lv' h2; omega
    have hpm : (aheadP I.T q).k ≠ 0 → ∀ lv' : Lv, lv'.mu I.T (passP q) < n := fun h lv' => by
      have := pass_mu (T := I.T) h lv lv'; omega
    rw [expr_eq]
    cases lv <;> unfold stepP <;> simp only
    · exact expr_row I W q hr (exprP I.T .ands) (adv_expr .ands) fun W' q' h1 h2 => ih .ands q' W' h1 (hm .ands q' h2 (by decide))
    · exact ands_row I W q hr (exprP I.T .nots) (adv_expr .nots) fun W' q' h1 h2 => ih .nots q' W' h1 (hm .nots q' h2 (by decide))
    · exact not_one I W q hr (exprP I.T .nots) (exprP I.T .cmp) (fun h W' h1 => ih .nots _ W' h1 (hpm (isP_ne h) .nots)) (fun W' h1 => ih .cmp q W' h1 (hm .cmp q (Nat.le_refl _) (by decide)))
    · exact cmp_any I W q hr (exprP I.T .sum) (adv_expr .sum) fun W' q' h1 h2 => ih .sum q' W' h1 (hm .sum q' h2 (by decide))
    · exact sum_row I W q hr (exprP I.T .prod) (adv_expr .prod) fun W' q' h1 h2 => ih .prod q' W' h1 (hm .prod q' h2 (by decide))
    · exact product_row I W q hr (exprP I.T .neg) (adv_expr .neg) fun W' q' h1 h2 => ih .neg q' W' h1 (hm .neg q' h2 (by decide))
    · exact neg_one I W q hr (exprP I.T .neg) (exprP I.T .plain) (fun h W' h1 => ih .neg _ W' h1 (hpm (isP_ne h) .neg)) (fun W' h1 => ih .plain q W' h1 (hm .plain q (Nat.le_refl _) (by decide)))
    · refine plain_any I W q hr (exprP I.T .ors) (adv_expr .ors) fun W' q' h1 h2 => ih .ors q' W' h2 ?_
      have h3 := h2.at'
      simp only [Lv.mu, Lv.rank] at hmu ⊢
      omega
set_option maxRecDepth 100000 in
/-- what an expression is read as -/
theorem expr_any (I : RI) (w : World) (p : PS) (h : Rd I w p) : Calls Tryz.prog 40 #[I.ptr] w (PostT I w (exprP I.T .ors p)) :=
  level_any I _ .ors p w h (Nat.lt_succ_self _)
/-! how many nodes a tree has -/
mutual
def sizeT : Tr → Nat
  | .mk _ _ _ _ ps => 1 + sizeL ps
def sizeL : List Tr → Nat
  | [] => 0
  | t :: l => sizeT t + sizeL l
end
mutual
def depthT : Tr → Nat
  | .mk _ _ _ _ ps => 1 + depthL ps
def depthL : List Tr → Nat
  | [] => 0
  | t :: l => max (depthT t) (depthL l)
end
set_option maxRecDepth 100000 in
theorem sizeL_mem {t : Tr} : ∀ {l : List Tr}, t ∈ l → sizeT t ≤ sizeL l
  | a :: l, h => by
    rcases List.mem_cons.1 h with rfl | h
    · unfold sizeL; omega
    · have := sizeL_mem h; unfold sizeL; omega
set_option maxRecDepth 100000 in
theorem sizeT_pos (t : Tr) : 1 ≤ sizeT t := by cases t; unfold sizeT; omega
set_option maxRecDepth 100000 in
theorem depthT_pos (t : Tr) : 1 ≤ depthT t := by cases t; unfold depthT; omega
end Go.Proofs.YtllgodaphoncnaaGreatDoor
