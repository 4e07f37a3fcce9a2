/- P2.1, the bags: values put one by one where they belong. -/
import Derived.Test.YtgfnbbclopdapaaVBag
import Derived.Test.YtgfnbbclopdapaaVInsert4
import Derived.Test.YtgfnbbclopdapaaVSearch
namespace Go.Proofs.Ytgfnbbclopdapaa
open Go.RowKit

/-- the place of a value: behind all that are below it -/
def place (l : List Val) (t : Val) : Nat := l.findIdx fun y => !decide (y.ord t < 0)
theorem spot_place {l : List Val} {t : Val} (hr : Rising l) : Spot l t (place l t) := by
  obtain ⟨p, hp⟩ := spot_exists l t hr
  obtain rfl : place l t = p := by
    rcases Nat.lt_or_ge p l.length with h | h
    · unfold place
      rw [List.findIdx_eq h]
      exact ⟨by simpa using hp.behind p h (Nat.le_refl _), fun j hj => by simpa using hp.ahead j (by omega) hj⟩
    · have e : p = l.length := Nat.le_antisymm hp.le h
      rw [e]
      refine List.findIdx_eq_length_of_false fun y hy => ?_
      obtain ⟨j, hj, rfl⟩ := List.mem_iff_getElem.1 hy
      simpa using hp.ahead j hj (by omega)
  exact hp
/-- a value without its list -/
def bare (t : Val) : Val := ⟨t.k, t.i, t.s, none, 0, 0⟩
theorem bare_ord (t y : Val) : (bare t).ord y = t.ord y := rfl
theorem ord_bare (t y : Val) : y.ord (bare t) = y.ord t := rfl
/-- one more into the bag -/
def bagStep (h : List Val) (t : Val) : List Val := if foundAt h t (place h t) then h else h.take (place h t) ++ bare t :: h.drop (place h t)
/-- an owned row of values is a list of values -/
theorem own_list {w : World} {base : Nat} {v : Value} {l : List Val} (h : w.ownsRow base 24 4 v l.length (cellsL l)) (hs : ∀ x ∈ l, x.s.size ≤ maxLen) :
    ∃ ad g cp, v = .slice ad l.length cp ∧ ListAt w ad g 0 l ∧ (l ≠ [] → base ≤ g) := by
  rcases h.2 with ⟨rfl, hn⟩ | ⟨g, cap, cur, rfl, hb, hg, hc, hm, hcs, ht⟩
  · have : l = [] := List.eq_nil_of_length_eq_zero hn
    subst this
    exact ⟨none, 0, 0, rfl, ⟨fun h => absurd rfl h, fun j hj => absurd hj (by simp), fun j hj => absurd hj (by simp), fun j hj => absurd hj (by simp), fun j hj => absurd hj (by simp), fun x hx => by cases hx⟩, fun h => absurd rfl h⟩
  · have key : ∀ j, (hj : j < l.length) → ∀ k, k < 4 → w.cell? ⟨g, j * 4 + k, none⟩ = (l[j].cells)[k]? := by
      intro j hj k hk
      rw [cell_block hg (j * 4 + k)]
      have e : (cellsL l)[j * 4 + k]? = cur[j * 4 + k]? := by
        rw [← ht, List.getElem?_take, if_pos (by omega)]
        simp
      rw [← e, ← List.getElem?_drop, drop_cellsL l j (by omega), List.drop_eq_getElem_cons hj]
      show (l[j].cells ++ cellsL (l.drop (j + 1)))[k]? = _
      rw [List.getElem?_append_left hk]
    refine ⟨some ⟨g, 0, none⟩, g, cap, rfl, ⟨fun _ => rfl, fun j hj => ?_, fun j hj => ?_, fun j hj => ?_, fun j hj => ?_, hs⟩, fun _ => hb⟩
    · simpa [Val.cells] using key j hj 0 (by omega)
    · simpa [Val.cells] using key j hj 1 (by omega)
    · simpa [Val.cells] using key j hj 2 (by omega)
    · simpa [Val.cells] using key j hj 3 (by omega)
/-- a list lies where it lay, another block being written -/
theorem ListAt.set4 {w : World} {ad : Option Addr} {g o : Nat} {l : List Val} (h : ListAt w ad g o l) {b : Nat} (hne : l ≠ [] → g ≠ b) (x y z u : Value) :
    ListAt ((((w.setCell ⟨b, 0, none⟩ x).setCell ⟨b, 1, none⟩ y).setCell ⟨b, 2, none⟩ z).setCell ⟨b, 3, none⟩ u) ad g o l := by
  have key : ∀ j, j < l.length → ∀ q, ((((w.setCell ⟨b, 0, none⟩ x).setCell ⟨b, 1, none⟩ y).setCell ⟨b, 2, none⟩ z).setCell ⟨b, 3, none⟩ u).cell? ⟨g, q, none⟩ = w.cell? ⟨g, q, none⟩ := by
    intro j hj q
    have hgb : g ≠ b := hne (by intro e; subst e; simp at hj)
    have hn : ∀ r, (⟨b, r, none⟩ : Addr) ≠ ⟨g, q, none⟩ := fun r e => hgb (by injection e with e1; exact e1.symm)
    rw [World.cell?_setCell_other _ _ _ _ (hn _), World.cell?_setCell_other _ _ _ _ (hn _), World.cell?_setCell_other _ _ _ _ (hn _), World.cell?_setCell_other _ _ _ _ (hn _)]
  exact ⟨h.at', fun j hj => by rw [key j hj]; exact h.c0 j hj, fun j hj => by rw [key j hj]; exact h.c1 j hj, fun j hj => by rw [key j hj]; exact h.c2 j hj, fun j hj => by rw [key j hj]; exact h.c3 j hj, h.size⟩
/-- what is put where it belongs leaves the row rising -/
theorem rising_step {h : List Val} {t : Val} (hr : Rising h) : Rising (bagStep h t) := by
  have hs := spot_place (t := t) hr
  unfold bagStep
  split
  · exact hr
  rename_i hf
  have hp := hs.le
  have hpos : ∀ j, (hj : j < h.length) → place h t ≤ j → t.ord h[j] < 0 := by
    intro j hj hpj
    have h1 := hs.behind j hj hpj
    have h0 : h[j].ord t ≠ 0 := by
      intro e
      have := found_any hr hs
      rw [show foundAt h t (place h t) = false by simpa using hf] at this
      have h2 : h.any (fun x => x.ord t == 0) = true := List.any_eq_true.2 ⟨h[j], List.getElem_mem _, by simp [e]⟩
      rw [h2] at this; cases this
    rw [isCmp_ord.anti h[j] t]
    omega
  have hpw : h.Pairwise (fun a b => a.ord b < 0) := List.pairwise_iff_getElem.2 fun i j hi hj hij => hr i j hi hj hij
  have hall : (h.take (place h t) ++ bare t :: h.drop (place h t)).Pairwise (fun a b => a.ord b < 0) := by
    refine List.pairwise_append.2 ⟨hpw.sublist (List.take_sublist _ _), List.pairwise_cons.2 ⟨fun b hb => ?_, hpw.sublist (List.drop_sublist _ _)⟩, fun a ha b hb => ?_⟩
    · obtain ⟨j, hj, rfl⟩ := List.mem_drop_iff_getElem.1 hb
      exact hpos _ (by omega) (by omega)
    · obtain ⟨j, hj, rfl⟩ := List.mem_take_iff_getElem.1 ha
      rcases List.mem_cons.1 hb with rfl | hb
      · exact hs.ahead j (by omega) (by omega)
      · obtain ⟨q, hq, rfl⟩ := List.mem_drop_iff_getElem.1 hb
        exact hr _ _ (by omega) (by omega) (by omega)
  exact fun i j hi hj hij => List.pairwise_iff_getElem.1 hall i j hi hj hij
theorem length_step (h : List Val) (t : Val) (hp : place h t ≤ h.length) : (bagStep h t).length = if foundAt h t (place h t) then h.length else h.length + 1 := by
  unfold bagStep
  split
  · rfl
  · simp; omega
/-- the bag so far -/
def bagTo (l : List Val) : List Val := l.foldl bagStep []
theorem bagTo_snoc (l : List Val) (k : Nat) (hk : k < l.length) : bagTo (l.take (k + 1)) = bagStep (bagTo (l.take k)) l[k]! := by
  rw [getElem!_pos l k hk, List.take_succ_eq_append_getElem hk, bagTo, List.foldl_append]; rfl
theorem rising_bagTo (l : List Val) : ∀ h, Rising h → Rising (l.foldl bagStep h) := by
  induction l with
  | nil => intro h hr; exact hr
  | cons x l ih => intro h hr; exact ih _ (rising_step hr)
theorem rising_bagged (l : List Val) : Rising (bagTo l) := rising_bagTo l [] (fun i j hi => by simp at hi)
theorem small_step {h : List Val} {t : Val} (hh : ∀ x ∈ h, x.s.size ≤ maxLen) (ht : t.s.size ≤ maxLen) : ∀ x ∈ bagStep h t, x.s.size ≤ maxLen := by
  intro x hx
  unfold bagStep at hx
  split at hx
  · exact hh x hx
  · rcases List.mem_append.1 hx with h1 | h1
    · exact hh x (List.mem_of_mem_take h1)
    · rcases List.mem_cons.1 h1 with rfl | h1
      · exact ht
      · exact hh x (List.mem_of_mem_drop h1)
end Go.Proofs.Ytgfnbbclopdapaa
