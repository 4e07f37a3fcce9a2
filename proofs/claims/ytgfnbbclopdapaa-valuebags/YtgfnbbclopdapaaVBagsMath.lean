/- P2.1, the bags: what comes is formed, and the reference's. -/
import Derived.Test.YtgfnbbclopdapaaVBagR3
import Derived.Test.YtgfnbbclopdapaaVRefF
namespace Go.Proofs.Ytgfnbbclopdapaa
open Go.RowKit

theorem alone_n {x : Val} (h : x.alone = true) : x.n = 0 := by
  unfold Val.alone aloneB at h
  repeat' split at h
  all_goals simp at h
  all_goals omega
theorem alone_bare {x : Val} (h : x.alone = true) : (bare x).alone = true := by
  have hn := alone_n h
  have e : (bare x).alone = x.alone := by unfold Val.alone bare; rw [hn]
  rw [e, h]
theorem kindOk_parts {h x : Val} (hk : kindOk h x = true) : ¬ x.k = 0 ∧ ¬ x.k = 5 ∧ x.k = h.k := by
  unfold kindOk at hk
  rw [Bool.and_eq_true, Bool.and_eq_true] at hk
  exact ⟨by simpa using hk.1, by simpa using hk.2.1, by simpa using hk.2.2⟩
theorem mem_bagTo {l : List Val} {y : Val} (hy : y ∈ bagTo l) : ∃ x ∈ l, y = bare x := by
  rw [← bare_refTo] at hy
  obtain ⟨x, hx, rfl⟩ := List.mem_map.1 hy
  rcases mem_refTo l [] x hx with h | h
  · cases h
  · exact ⟨x, h, rfl⟩
theorem bag_formed {l : List Val} (hk : ∀ x ∈ l, kindOk l[0]! x = true) (ha : ∀ x ∈ l, x.alone = true) (h16 : (bagTo l).length ≤ 16) : listB (bagTo l) = true := by
  have hr := rising_bagged l
  refine (listB_yes h16 fun j hj => ?_).symm
  have hall : ∀ y ∈ bagTo l, ¬ y.k = 0 ∧ y.k = l[0]!.k ∧ y.alone = true := fun y hy => by
    obtain ⟨x, hx, rfl⟩ := mem_bagTo hy
    have h1 := kindOk_parts (hk x hx)
    exact ⟨h1.1, h1.2.2, alone_bare (ha x hx)⟩
  have h0 := hall _ (List.getElem_mem (show 0 < (bagTo l).length by omega))
  have hjj := hall _ (List.getElem_mem hj)
  unfold okA
  rw [getElem!_pos _ 0 (by omega), getElem!_pos _ j hj]
  rcases Nat.eq_zero_or_pos j with rfl | hp
  · exact okV_first hjj.1 rfl hjj.2.2
  · rw [getElem!_pos _ (j - 1) (by omega)]
    exact okV_yes hjj.1 (by rw [hjj.2.1, h0.2.1]) hjj.2.2 (hr (j - 1) j (by omega) hj (by omega))
/-- the two answers are the same -/
theorem bags_same {w w' : World} {l : List Val} {e : Int} {y y' : Val} {ly ly' : List Val} (hb : BagIs w l e y ly) (hr : RefBagIs w' l e y' ly') (hn : e = 0 → ∀ x ∈ l, x.n = 0) : sameB y ly y' ly' = true := by
  by_cases h : e = 0
  · obtain ⟨a1, a2, a3, a4⟩ := hb.good h
    obtain ⟨b1, b2, b3, b4⟩ := hr.good h
    have l1 := hb.full.len
    have l2 := hr.full.len
    subst a4 b4
    have e1 : y.n = y'.n := by rw [← l1, ← l2, length_refTo]
    unfold sameB headS
    rw [a1, a2, a3, b1, b2, b3, e1]
    simp only [beq_self_eq_true, Bool.true_and, List.all_eq_true, List.mem_range]
    intro j hj
    exact same_bags l (hn h) j (by omega)
  · obtain ⟨rfl, rfl⟩ := hb.bad h
    obtain ⟨rfl, rfl⟩ := hr.bad h
    simp [sameB, headS]
theorem bag_arg {l : List Val} {F : Nat → Bool} {j : Nat} (hj : j < l.length) (h : F j = false) : bagE l F = 1 := by
  have := mayB_arg hj h
  unfold bagE
  rw [← this]; rfl
theorem refE_good {l : List Val} (h : refE l = 0) : (∀ j, j < l.length → kindOk l[0]! l[j]! = true) ∧ (bagTo l).length ≤ 16 := by
  unfold refE at h
  split at h
  · rename_i h1
    rw [List.all_eq_true] at h1
    refine ⟨fun j hj => h1 j (by simpa using hj), ?_⟩
    split at h
    · cases h
    · rw [← length_refTo]; omega
  · cases h
/-- the reference's Bag, of formed values -/
theorem refbag_any (w : World) (l : List Val) (ad : Option Addr) (g o cp : Nat) (hl : ListAt w ad g o l) (hm : l.length ≤ 1000) (ha : ∀ x ∈ l, ¬ x.k = 5 → x.alone = true) :
    Calls Try.prog 18 #[.slice ad l.length cp] w fun e w' => ∃ y ly, e = .returned (.tuple #[y.v, .int .i64 (refE l)]) ∧ RefBagIs w' l (refE l) y ly ∧ Below w.heap.size w w' := by
  by_cases h : ∀ j, j < l.length → kindOk l[0]! l[j]! = true
  · refine refbag_good w l ad g o cp hl hm h fun x hx y hy => ?_
    have key : ∀ z ∈ l, kindOk l[0]! z = true := fun z hz => by
      obtain ⟨j, hj, rfl⟩ := List.mem_iff_getElem.1 hz
      have := h j hj
      rwa [getElem!_pos l j hj] at this
    have h1 := kindOk_parts (key x hx)
    have h2 := kindOk_parts (key y hy)
    exact ord_same (by rw [h1.2.2, h2.2.2]) (ha y hy h2.2.1) h2.1
  · have : ∃ j, j < l.length ∧ kindOk l[0]! l[j]! = false := by
      apply Classical.byContradiction
      intro hc
      refine h fun j hj => ?_
      cases hk : kindOk l[0]! l[j]!
      · exact absurd ⟨j, hj, hk⟩ hc
      · rfl
    obtain ⟨j, hj, hk⟩ := this
    exact refbag_bad w l ad g o cp hl hm j hj hk
end Go.Proofs.Ytgfnbbclopdapaa
