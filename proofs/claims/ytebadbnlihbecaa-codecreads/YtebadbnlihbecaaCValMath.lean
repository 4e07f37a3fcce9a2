/- P3.3, P3.4: a value's bytes are its own: decoded they are the value, and no other value has them. -/
import Derived.Test.YtebadbnlihbecaaCBack
namespace Go.Proofs.Ytebadbnlihbecaa
open Go.RowKit

theorem alone_n {y : Val} (h : y.alone = true) : y.n = 0 := by
  unfold Val.alone aloneB at h
  split at h
  · cases h
  · omega
theorem bare_alone {y : Val} (h : y.alone = true) : (bare y).alone = true := by
  have hn := alone_n h
  unfold Val.alone at h ⊢
  rw [hn] at h
  exact h
theorem members_alone {x : Val} {lx : List Val} (hf : x.formed lx = true) (hn : lx.length = x.n) : ∀ y ∈ lx, y.alone = true := by
  by_cases h5 : x.k = 5
  · exact bag_alone h5 hf
  · have ha : x.alone = true := by unfold Val.formed at hf; rwa [if_neg (by simpa using h5)] at hf
    have := alone_n ha
    have hnil : lx = [] := List.eq_nil_of_length_eq_zero (by omega)
    subst hnil
    intro y hy
    cases hy
theorem bare_at (l : List Val) (j : Nat) (h : j < l.length) : (l.map bare)[j]! = bare l[j]! := by
  rw [getElem!_pos _ j (by simpa using h), getElem!_pos l j h, List.getElem_map]
theorem okA_bare {l : List Val} (h : ∀ y ∈ l, y.alone = true) {j : Nat} (hj : j < l.length) (hok : okA l j = true) : okA (l.map bare) j = true := by
  unfold okA at hok ⊢
  rw [bare_at l j hj, bare_at l 0 (by omega), bare_at l (j - 1) (by omega)]
  have ha : l[j]!.alone = true := h _ (by rw [getElem!_pos l j hj]; exact List.getElem_mem _)
  unfold okV at hok ⊢
  rw [bare_alone ha]
  rw [ha] at hok
  exact hok
theorem listB_bare {l : List Val} (h : ∀ y ∈ l, y.alone = true) (hl : listB l = true) : listB (l.map bare) = true := by
  unfold listB at hl ⊢
  rw [Bool.and_eq_true] at hl ⊢
  refine ⟨by rw [List.length_map]; exact hl.1, ?_⟩
  rw [List.all_eq_true]
  have h2 := List.all_eq_true.1 hl.2
  intro j hj
  rw [List.length_map] at hj
  exact okA_bare h (by simpa using hj) (h2 j hj)
theorem dec_back {x : Val} {lx : List Val} (hf : x.formed lx = true) (hi : IOk x) (hil : ∀ y ∈ lx, IOk y) (hn : lx.length = x.n) :
    decOk (valB x lx) = true ∧ rawV (TT (valB x lx)) = ((bare x, lx.map bare), TT []) := by
  have hr := rawV_T hf hi hil hn []
  rw [List.append_nil] at hr
  refine ⟨?_, hr⟩
  have hrf : readF (TT (valB x lx)) = true := by
    unfold readF
    rw [hr]
    show Val.formed ⟨x.k, x.i, x.s, none, (lx.map bare).length, 0⟩ (lx.map bare) = true
    have hal := members_alone hf hn
    unfold Val.formed at hf ⊢
    dsimp only
    split
    · rename_i h5
      rw [if_pos h5, Bool.and_eq_true, Bool.and_eq_true] at hf
      rw [hf.1, hf.2.1, listB_bare hal hf.2.2]
      rfl
    · rename_i h5
      rw [if_neg h5] at hf
      have hn0 := alone_n hf
      unfold Val.alone at hf ⊢
      dsimp only
      rw [List.length_map, hn]
      exact hf
  unfold decOk overM readS
  show (Option.isSome (if readF (TT (valB x lx)) = true then (rawV (TT (valB x lx))).2 else none) && (tapeB (if readF (TT (valB x lx)) = true then (rawV (TT (valB x lx))).2 else none)).toList.isEmpty) = true
  rw [hrf, if_pos rfl, hr]
  show (true && (ByteArray.toList ⟨#[]⟩).isEmpty) = true
  rw [toList_tb]
  rfl
theorem s_eq {a b : ByteArray} : (a.toList == b.toList) = true ↔ a = b := by
  rw [toList_tb, toList_tb, beq_iff_eq]
  constructor
  · intro h
    rw [← tt_tb a, h, tt_tb]
  · rintro rfl; rfl
theorem sameE_iff {a b : Val} (ha : a.n = 0) (hb : b.n = 0) : sameE a b = true ↔ bare a = bare b := by
  unfold sameE bare
  rw [ha, hb]
  simp only [Bool.and_eq_true, beq_iff_eq, Val.mk.injEq]
  constructor
  · rintro ⟨h1, h2, h3, _⟩
    refine ⟨h1, h2, ?_, trivial, trivial, trivial⟩
    exact s_eq.1 (by rw [h3]; exact BEq.rfl)
  · rintro ⟨h1, h2, h3, _⟩
    exact ⟨h1, h2, by rw [h3], trivial, trivial⟩
theorem same_iff {x z : Val} {lx lz : List Val} (hx : lx.length = x.n) (hz : lz.length = z.n) (ax : ∀ y ∈ lx, y.n = 0) (az : ∀ y ∈ lz, y.n = 0) :
    sameB x lx z lz = true ↔ bare x = bare z ∧ lx.map bare = lz.map bare := by
  unfold sameB headS
  simp only [Bool.and_eq_true, List.all_eq_true, List.mem_range]
  constructor
  · rintro ⟨⟨h1, h2, h3, h4⟩, h5⟩
    have hnn : x.n = z.n := by simpa using h4
    refine ⟨?_, ?_⟩
    · unfold bare
      rw [beq_iff_eq] at h1 h2
      rw [h1, h2, s_eq.1 h3]
    · apply List.ext_getElem (by simp; omega)
      intro j hj hj'
      have hj1 : j < lx.length := by simpa using hj
      have hj2 : j < lz.length := by simpa using hj'
      have := h5 j (by omega)
      rw [getElem!_pos lx j hj1, getElem!_pos lz j hj2] at this
      rw [List.getElem_map, List.getElem_map]
      exact (sameE_iff (ax _ (List.getElem_mem _)) (az _ (List.getElem_mem _))).1 this
  · rintro ⟨h1, h2⟩
    have hlen : lx.length = lz.length := by have := congrArg List.length h2; simpa using this
    unfold bare at h1
    simp only [Val.mk.injEq] at h1
    refine ⟨⟨by rw [h1.1]; exact BEq.rfl, by rw [h1.2.1]; exact BEq.rfl, s_eq.2 h1.2.2.1, by rw [← hx, ← hz, hlen]; exact BEq.rfl⟩, ?_⟩
    intro j hj
    have hj1 : j < lx.length := by omega
    have hj2 : j < lz.length := by omega
    rw [getElem!_pos lx j hj1, getElem!_pos lz j hj2]
    refine (sameE_iff (ax _ (List.getElem_mem _)) (az _ (List.getElem_mem _))).2 ?_
    have : (lx.map bare)[j]? = (lz.map bare)[j]? := by rw [h2]
    rw [List.getElem?_map, List.getElem?_map, List.getElem?_eq_getElem hj1, List.getElem?_eq_getElem hj2] at this
    simpa using this
theorem plainB_bare {a b : Val} (h : bare a = bare b) : plainB a = plainB b := by
  unfold bare at h
  simp only [Val.mk.injEq] at h
  unfold plainB tailB
  rw [h.1, h.2.1, h.2.2.1]
theorem flat_bare : ∀ {lx lz : List Val}, lx.map bare = lz.map bare → lx.flatMap plainB = lz.flatMap plainB
  | [], [], _ => rfl
  | [], _ :: _, h => by cases h
  | _ :: _, [], h => by cases h
  | a :: lx, b :: lz, h => by
    simp only [List.map_cons, List.cons.injEq] at h
    rw [List.flatMap_cons, List.flatMap_cons, plainB_bare h.1, flat_bare h.2]
/-- two formed values have the same bytes just if they are the same -/
theorem bytes_same {x z : Val} {lx lz : List Val} (hf : x.formed lx = true) (hi : IOk x) (hil : ∀ y ∈ lx, IOk y) (hn : lx.length = x.n) (hf' : z.formed lz = true) (hi' : IOk z) (hil' : ∀ y ∈ lz, IOk y) (hn' : lz.length = z.n) :
    valB x lx = valB z lz ↔ sameB x lx z lz = true := by
  rw [same_iff hn hn' (fun y hy => alone_n (members_alone hf hn y hy)) (fun y hy => alone_n (members_alone hf' hn' y hy))]
  constructor
  · intro h
    have h1 := (dec_back hf hi hil hn).2
    have h2 := (dec_back hf' hi' hil' hn').2
    rw [h, h2] at h1
    simp only [Prod.mk.injEq] at h1
    exact ⟨h1.1.1.symm, h1.1.2.symm⟩
  · rintro ⟨h1, h2⟩
    have h3 := plainB_bare h1
    have h4 := flat_bare h2
    have h5 : lx.length = lz.length := by have := congrArg List.length h2; simpa using this
    unfold bare at h1
    simp only [Val.mk.injEq] at h1
    unfold valB
    rw [h3, h4, h5, h1.1]
theorem same_back {x y : Val} {lx ly : List Val} (hf : x.formed lx = true) (hn : lx.length = x.n) (hy : ly.length = y.n) (e1 : y.k = x.k) (e2 : y.i = x.i) (e3 : y.s = x.s) (e4 : ly = lx.map bare) : sameB y ly x lx = true := by
  subst e4
  refine (same_iff hy hn (fun z hz => ?_) (fun z hz => alone_n (members_alone hf hn z hz))).2 ⟨?_, ?_⟩
  · obtain ⟨a, _, rfl⟩ := List.mem_map.1 hz
    rfl
  · unfold bare
    rw [e1, e2, e3]
  · rw [List.map_map]
    rfl
end Go.Proofs.Ytebadbnlihbecaa
