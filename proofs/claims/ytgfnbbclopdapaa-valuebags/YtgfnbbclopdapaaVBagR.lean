/- P2.1, the bags: the reference's Bag, its mathematics. -/
import Derived.Test.YtgfnbbclopdapaaVBag3
namespace Go.Proofs.Ytgfnbbclopdapaa
open Go.RowKit

/-- one more into the reference's bag: the value as it came -/
def refStep (h : List Val) (t : Val) : List Val := if foundAt h t (place h t) then h else h.take (place h t) ++ t :: h.drop (place h t)
def refTo (l : List Val) : List Val := l.foldl refStep []
theorem place_bare (h : List Val) (t : Val) : place (h.map bare) t = place h t := by
  unfold place
  rw [List.findIdx_map]; rfl
theorem found_bare (h : List Val) (t : Val) (p : Nat) : foundAt (h.map bare) t p = foundAt h t p := by
  unfold foundAt
  rw [List.length_map]
  by_cases hp : p < h.length
  · rw [getElem!_pos (h.map bare) p (by simpa using hp), getElem!_pos h p hp, List.getElem_map]; rfl
  · simp [hp]
theorem bare_step (h : List Val) (t : Val) : (refStep h t).map bare = bagStep (h.map bare) t := by
  unfold refStep bagStep
  rw [place_bare, found_bare]
  split
  · rfl
  · simp
theorem bare_fold (l : List Val) : ∀ h : List Val, (l.foldl refStep h).map bare = l.foldl bagStep (h.map bare) := by
  induction l with
  | nil => intro h; rfl
  | cons x l ih => intro h; simp only [List.foldl_cons]; rw [ih, bare_step]
theorem bare_refTo (l : List Val) : (refTo l).map bare = bagTo l := bare_fold l []
theorem length_refTo (l : List Val) : (refTo l).length = (bagTo l).length := by rw [← bare_refTo, List.length_map]
theorem refTo_snoc (l : List Val) (k : Nat) (hk : k < l.length) : refTo (l.take (k + 1)) = refStep (refTo (l.take k)) l[k]! := by
  rw [getElem!_pos l k hk, List.take_succ_eq_append_getElem hk, refTo, List.foldl_append]; rfl
theorem mem_refStep {h : List Val} {t x : Val} (hx : x ∈ refStep h t) : x ∈ h ∨ x = t := by
  unfold refStep at hx
  split at hx
  · exact .inl hx
  · rcases List.mem_append.1 hx with h1 | h1
    · exact .inl (List.mem_of_mem_take h1)
    · rcases List.mem_cons.1 h1 with rfl | h1
      · exact .inr rfl
      · exact .inl (List.mem_of_mem_drop h1)
theorem mem_refTo (l : List Val) : ∀ h : List Val, ∀ x ∈ l.foldl refStep h, x ∈ h ∨ x ∈ l := by
  induction l with
  | nil => intro h x hx; exact .inl hx
  | cons y l ih =>
    intro h x hx
    rcases ih _ x hx with h1 | h1
    · rcases mem_refStep h1 with h2 | rfl
      · exact .inl h2
      · exact .inr (List.mem_cons_self ..)
    · exact .inr (List.mem_cons_of_mem _ h1)
/-- the reference's error -/
def refE (l : List Val) : Int := if (List.range l.length).all (fun j => kindOk l[0]! l[j]!) then (if 16 < (refTo l).length then 13 else 0) else 6
theorem refE_bag {l : List Val} {F : Nat → Bool} (hF : ∀ j, j < l.length → F j = true) : bagE l F = refE l := by
  have h1 : (List.range l.length).all F = true := by rw [List.all_eq_true]; intro x hx; exact hF x (by simpa using hx)
  unfold bagE refE mayB
  rw [h1, length_refTo]
  cases (List.range l.length).all (fun j => kindOk l[0]! l[j]!) <;> simp
theorem refE_type {l : List Val} {j : Nat} (hj : j < l.length) (h : kindOk l[0]! l[j]! = false) : refE l = 6 := by
  have h2 : (List.range l.length).all (fun j => kindOk l[0]! l[j]!) = false := by
    rw [List.all_eq_false]; exact ⟨j, by simpa using hj, by simp only [h]; decide⟩
  rw [refE, h2]; rfl
theorem refE_kinds {l : List Val} (h : ∀ j, j < l.length → kindOk l[0]! l[j]! = true) : refE l = if 16 < (refTo l).length then 13 else 0 := by
  have h2 : (List.range l.length).all (fun j => kindOk l[0]! l[j]!) = true := by rw [List.all_eq_true]; intro x hx; exact h x (by simpa using hx)
  rw [refE, h2]; rfl
/-- the reference's bag and the program's are the same, value for value -/
theorem same_bags (l : List Val) (hn : ∀ x ∈ l, x.n = 0) (j : Nat) (hj : j < (bagTo l).length) : sameE (bagTo l)[j]! (refTo l)[j]! = true := by
  have hj' : j < (refTo l).length := by rw [length_refTo]; exact hj
  have e : (bagTo l)[j]! = bare (refTo l)[j] := by
    rw [getElem!_pos _ j hj]
    simp only [← bare_refTo, List.getElem_map]
  have hm : (refTo l)[j].n = 0 := by
    rcases mem_refTo l [] _ (List.getElem_mem hj') with h | h
    · cases h
    · exact hn _ h
  rw [e, getElem!_pos _ j hj']
  simp [sameE, bare, hm]
end Go.Proofs.Ytgfnbbclopdapaa
