/- What each level of binding reads: the program's way is the plain one; How deep a tree is, level by level: the plain side. -/
import Derived.Test.YtllgodaphoncnaaGreatDoorJ29
import Derived.Test.YtllgodaphoncnaaGreatDoorJ25
namespace Go.Proofs.YtllgodaphoncnaaGreatDoor
open Go.RowKit

/-- the function of a level -/
def lvFn : Lv → FuncId
  | .ors => 40
  | .ands => 61
  | .nots => 89
  | .cmp => 117
  | .sum => 125
  | .prod => 134
  | .neg => 144
  | .plain => 149
set_option maxRecDepth 100000 in
theorem level_any (I : RI) : ∀ (n : Nat) (lv : Lv) (q : PS) (W : World), Rd I W q → lv.mu I.T q < n → Calls Tryz.prog (lvFn lv) #[I.ptr] W (PostT I W (exprP I.T lv q))
  | 0, _, _, _, _, h => by omega
  | n + 1, lv, q, W, hr, hmu => by
    have ih := level_any I n
    have hm : ∀ (lv' : Lv) (q' : PS), q.at' ≤ q'.at' → lv'.rank < lv.rank → lv'.mu I.T q' < n := fun lv' q' h1 h2 => by
      have := mono_mu (T := I.T) h1 lv lv' h2; omega
    have hpm : (aheadP I.T q).k ≠ 0 → ∀ lv' : Lv, lv'.mu I.T (passP q) < n := fun h lv' => by
      have := pass_mu (T := I.T) h lv lv'; omega
    rw [expr_eq]
    cases lv <;> unfold stepP <;> simp only
    · exact expr_row I W q hr (exprP I.T .ands) (adv_expr .ands) fun W' q' h1 h2 => ih .ands q' W' h1 (hm .ands q' h2 (by decide))
    · exact ands_row I W q hr (exprP I.T .nots) (adv_expr .nots) fun W' q' h1 h2 => ih .nots q' W' h1 (hm .nots q' h2 (by decide))
    · exact not_one I W q hr (exprP I.T .nots) (exprP I.T .cmp) (fun h W' h1 => ih .nots _ W' h1 (hpm (isP_ne h) .nots)) (fun W' h1 => ih .cmp q W' h1 (hm .cmp q (Nat.le_refl _) (by decide)))
    · exact cmp_any I W q hr (exprP I.T .sum) (adv_expr .sum) fun W' q' h1 h2 => ih .sum q' W' h1 (hm .sum q' h2 (by decide))
    · exact sum_row I W q hr (exprP I.T .prod) (adv_expr .prod) fun W' q' h1 h2 => ih .prod q' W' h1 (hm .prod q' h2 (by decide))
    · exact product_row I W q hr (exprP I.T .neg) (adv_expr .neg) fun W' q' h1 h2 => ih .neg q' W' h1 (hm .neg q' h2 (by decide))
    · exact neg_one I W q hr (exprP I.T .neg) (exprP I.T .plain) (fun h W' h1 => ih .neg _ W' h1 (hpm (isP_ne h) .neg)) (fun W' h1 => ih .plain q W' h1 (hm .plain q (Nat.le_refl _) (by decide)))
    · refine plain_any I W q hr (exprP I.T .ors) (adv_expr .ors) fun W' q' h1 h2 => ih .ors q' W' h2 ?_
      have h3 := h2.at'
      simp only [Lv.mu, Lv.rank] at hmu ⊢
      omega
set_option maxRecDepth 100000 in
/-- what an expression is read as -/
theorem expr_any (I : RI) (w : World) (p : PS) (h : Rd I w p) : Calls Tryz.prog 40 #[I.ptr] w (PostT I w (exprP I.T .ors p)) :=
  level_any I _ .ors p w h (Nat.lt_succ_self _)
/-! how many nodes a tree has -/
mutual
def sizeT : Tr → Nat
  | .mk _ _ _ _ ps => 1 + sizeL ps
def sizeL : List Tr → Nat
  | [] => 0
  | t :: l => sizeT t + sizeL l
end
mutual
def depthT : Tr → Nat
  | .mk _ _ _ _ ps => 1 + depthL ps
def depthL : List Tr → Nat
  | [] => 0
  | t :: l => max (depthT t) (depthL l)
end
set_option maxRecDepth 100000 in
theorem sizeL_mem {t : Tr} : ∀ {l : List Tr}, t ∈ l → sizeT t ≤ sizeL l
  | a :: l, h => by
    rcases List.mem_cons.1 h with rfl | h
    · unfold sizeL; omega
    · have := sizeL_mem h; unfold sizeL; omega
set_option maxRecDepth 100000 in
theorem sizeT_pos (t : Tr) : 1 ≤ sizeT t := by cases t; unfold sizeT; omega
set_option maxRecDepth 100000 in
theorem depthT_pos (t : Tr) : 1 ≤ depthT t := by cases t; unfold depthT; omega
end Go.Proofs.YtllgodaphoncnaaGreatDoor
namespace Go.Proofs.YtllgodaphoncnaaGreatDoor
open Go.RowKit

set_option maxRecDepth 100000 in
theorem XV.of_cells {X Y : XV} (h : ∀ j, j < 8 → X.cells[j]? = Y.cells[j]?) : X = Y := by
  obtain ⟨o, ⟨k, i, s, a, n, c⟩, w, nm, pa, pl, pc⟩ := X
  obtain ⟨o', ⟨k', i', s', a', n', c'⟩, w', nm', pa', pl', pc'⟩ := Y
  have h0 := h 0 (by omega)
  have h1 := h 1 (by omega)
  have h2 := h 2 (by omega)
  have h3 := h 3 (by omega)
  have h4 := h 4 (by omega)
  have h5 := h 5 (by omega)
  have h6 := h 6 (by omega)
  have h7 := h 7 (by omega)
  simp only [XV.cells, xcells, List.getElem?_cons_zero, List.getElem?_cons_succ, Option.some.injEq, Value.string.injEq, Value.int.injEq, Value.slice.injEq, true_and] at h0 h1 h2 h3 h4 h5 h6 h7
  obtain ⟨rfl, rfl, rfl⟩ := h4
  obtain ⟨rfl, rfl, rfl⟩ := h7
  subst h0 h1 h2 h3 h5 h6
  rfl
set_option maxRecDepth 100000 in
theorem listAt_det {w : World} {ad : Option Addr} {g o g' o' : Nat} {l l' : List Val} (h : ListAt w ad g o l) (h' : ListAt w ad g' o' l') (hl : l.length = l'.length) : l = l' := by
  by_cases hn : l = []
  · subst hn
    exact (List.eq_nil_of_length_eq_zero hl.symm).symm
  · have hn' : l' ≠ [] := by intro e; subst e; exact hn (List.eq_nil_of_length_eq_zero hl)
    have e1 := (h.at' hn).symm.trans (h'.at' hn')
    simp only [Option.some.injEq, Addr.mk.injEq, and_true] at e1
    obtain ⟨rfl, rfl⟩ := e1
    apply List.ext_getElem hl
    intro j hj hj'
    have a0 := (h.c0 j hj).symm.trans (h'.c0 j hj')
    have a1 := (h.c1 j hj).symm.trans (h'.c1 j hj')
    have a2 := (h.c2 j hj).symm.trans (h'.c2 j hj')
    have a3 := (h.c3 j hj).symm.trans (h'.c3 j hj')
    simp only [Option.some.injEq, Value.string.injEq, Value.int.injEq, Value.slice.injEq, true_and] at a0 a1 a2 a3
    generalize l[j] = x at *
    generalize l'[j] = y at *
    obtain ⟨k, i, s, a, n, c⟩ := x
    obtain ⟨k', i', s', a', n', c'⟩ := y
    simp only at a0 a1 a2 a3
    obtain ⟨rfl, rfl, rfl⟩ := a3
    subst a0 a1 a2
    rfl
set_option maxRecDepth 100000 in
/-- one place holds one tree -/
theorem trAt_det {B B' : Nat → Prop} {w : World} {t : Tr} {X : XV} (h : TrAt B w t X) : ∀ {t' : Tr}, TrAt B' w t' X → t = t' := by
  induction h with
  | @mk op v who name ps X ho hw hn hv hl g o Xs had hfr hp hc ih =>
    intro t' h'
    cases h' with
    | @mk op' v' who' name' ps' _ ho' hw' hn' hv' hl' g' o' Xs' had' hfr' hp' hc' =>
      have e1 : op = op' := st_inj (ho.symm.trans ho')
      have e2 : who = who' := st_inj (hw.symm.trans hw')
      have e3 : name = name' := st_inj (hn.symm.trans hn')
      have e4 : v = v' := by
        obtain ⟨_, _, h1, -⟩ := hv.list
        obtain ⟨_, _, h2, -⟩ := hv'.list
        have e := listAt_det h1 h2 (hv.len.trans hv'.len.symm)
        have k1 := hv.k.symm.trans hv'.k
        have k2 := hv.i.symm.trans hv'.i
        have k3 := hv.s.symm.trans hv'.s
        obtain ⟨_, _, _, _⟩ := v
        obtain ⟨_, _, _, _⟩ := v'
        simp only at e k1 k2 k3
        subst e k1 k2 k3
        rfl
      have hlen : ps.length = ps'.length := hl.symm.trans hl'
      have e5 : ps = ps' := by
        apply List.ext_getElem hlen
        intro i hi hi'
        have hne : ps ≠ [] := by intro e; subst e; cases hi
        have hne' : ps' ≠ [] := by intro e; subst e; cases hi'
        have ea := (had hne).1.symm.trans (had' hne').1
        simp only [Option.some.injEq, Addr.mk.injEq, and_true] at ea
        obtain ⟨rfl, rfl⟩ := ea
        have eX : Xs i = Xs' i := XV.of_cells fun j hj => (hc i hi j hj).symm.trans (hc' i hi' j hj)
        have h2 := hp' i hi'
        rw [← eX] at h2
        exact ih i hi h2
      subst e1 e2 e3 e4 e5
      rfl
/-- a tree at a place, whose blocks are no strings' -/
structure NodeAt (w : World) (a : Addr) (t : Tr) (X : XV) : Prop where
  spot : a.spot = none
  cell : ∀ j, j < 8 → w.cell? ⟨a.block, a.off + j, none⟩ = X.cells[j]?
  plain : PlainB w a
  tree : ∃ B : Nat → Prop, ¬ B 0 ∧ TrAt B w t X
set_option maxRecDepth 100000 in
theorem NodeAt.det {w : World} {a : Addr} {t t' : Tr} {X X' : XV} (h : NodeAt w a t X) (h' : NodeAt w a t' X') : t = t' := by
  have e : X = X' := XV.of_cells fun j hj => (h.cell j hj).symm.trans (h'.cell j hj)
  subst e
  obtain ⟨B, -, h1⟩ := h.tree
  obtain ⟨B', -, h2⟩ := h'.tree
  exact trAt_det h1 h2
set_option maxRecDepth 100000 in
/-- a node's parts -/
theorem NodeAt.part {w : World} {a : Addr} {t : Tr} {X : XV} (h : NodeAt w a t X) : X.l = t.ps.length ∧ ∀ i, (hi : i < t.ps.length) → ∃ g o Y, X.a = some ⟨g, o, none⟩ ∧ NodeAt w ⟨g, o + i * 8, none⟩ t.ps[i] Y := by
  obtain ⟨B, hB, ht⟩ := h.tree
  cases ht with
  | @mk op v who name ps _ ho hw hn hv hl g o Xs had hfr hp hc =>
    refine ⟨hl, fun i hi => ?_⟩
    have hne : ps ≠ [] := by intro e; subst e; cases hi
    refine ⟨g, o, Xs i, (had hne).1, rfl, fun j hj => hc i hi j hj, ?_, B, hB, hp i hi⟩
    obtain ⟨C, T, hg⟩ := hfr hB hne
    exact ⟨C, T, hg⟩
abbrev IsNode (w : World) (n : Addr × Tr) : Prop := ∃ X, NodeAt w n.1 n.2 X
/-! the map -/
def keysF (F : List (Addr × Int)) : List Addr := F.map (·.1)
set_option maxRecDepth 100000 in
theorem findF_none {a : Addr} : ∀ {F : List (Addr × Int)} {i : Nat}, findF a F i = none ↔ a ∉ keysF F
  | [], i => by simp [findF, keysF]
  | x :: l, i => by
    unfold findF
    by_cases hx : a = x.1
    · simp [hx, keysF]
    · rw [if_neg hx, findF_none]
      simp only [keysF, List.map_cons, List.mem_cons, not_or]
      exact ⟨fun h => ⟨hx, h⟩, fun h => h.2⟩
set_option maxRecDepth 100000 in
theorem findF_shift {a : Addr} : ∀ {F : List (Addr × Int)} {i j : Nat}, (findF a F i).map (·.2) = (findF a F j).map (·.2)
  | [], _, _ => rfl
  | x :: l, i, j => by
    unfold findF
    by_cases hx : a = x.1
    · simp [hx]
    · rw [if_neg hx, if_neg hx]; exact findF_shift
set_option maxRecDepth 100000 in
theorem lookF_eq {a : Addr} {F : List (Addr × Int)} (i : Nat) : lookF a F = ((findF a F i).map (·.2)).getD 0 := by
  unfold lookF
  rw [findF_shift (j := 0)]
  cases findF a F 0 <;> rfl
set_option maxRecDepth 100000 in
theorem look_append {a b : Addr} {v : Int} : ∀ {F : List (Addr × Int)}, a ∉ keysF F → lookF b (F ++ [(a, v)]) = if b = a then v else lookF b F
  | [], _ => by
    by_cases h : b = a
    · simp [lookF, findF, h]
    · simp [lookF, findF, h]
  | x :: l, h => by
    have h2 : a ∉ keysF l := fun hm => h (by simp only [keysF, List.map_cons]; exact List.mem_cons_of_mem _ hm)
    have h3 : a ≠ x.1 := fun e => h (by simp [keysF, e])
    have ih := look_append (b := b) (v := v) h2
    rw [lookF_eq 1] at ih
    rw [lookF_eq 1] at ih
    rw [lookF_eq 0, lookF_eq 0]
    simp only [List.cons_append, findF]
    by_cases hb : b = x.1
    · rw [if_pos hb, if_pos hb, if_neg (by rw [hb]; exact Ne.symm h3)]
    · rw [if_neg hb, if_neg hb]
      by_cases hba : b = a
      · rw [if_pos hba] at ih ⊢; exact ih
      · rw [if_neg hba] at ih ⊢
        exact ih
set_option maxRecDepth 100000 in
theorem look_set {a b : Addr} {v : Int} : ∀ {F : List (Addr × Int)} {i : Nat} {p : Nat × Int}, findF a F i = some p → lookF b (F.set (p.1 - i) (a, v)) = if b = a then v else lookF b F
  | x :: l, i, p, h => by
    unfold findF at h
    by_cases hx : a = x.1
    · rw [if_pos hx] at h
      obtain rfl := Option.some.inj h
      subst hx
      simp only [Nat.sub_self, List.set_cons_zero]
      rw [lookF_eq 0, lookF_eq 0]
      simp only [findF]
      by_cases hb : b = x.1
      · rw [if_pos hb, if_pos hb]; rfl
      · rw [if_neg hb, if_neg hb, if_neg hb]
    · rw [if_neg hx] at h
      have h1 := (findF_at h).1
      have ih := look_set (b := b) (v := v) h
      rw [lookF_eq 1] at ih
      rw [lookF_eq 1] at ih
      rw [show p.1 - i = (p.1 - (i + 1)) + 1 by omega, List.set_cons_succ, lookF_eq 0, lookF_eq 0]
      simp only [findF]
      by_cases hb : b = x.1
      · rw [if_pos hb, if_pos hb, if_neg (by rw [hb]; exact Ne.symm hx)]
      · rw [if_neg hb, if_neg hb]
        by_cases hba : b = a
        · rw [if_pos hba] at ih ⊢; exact ih
        · rw [if_neg hba] at ih ⊢
          exact ih
set_option maxRecDepth 100000 in
theorem look_put (a b : Addr) (v : Int) (F : List (Addr × Int)) : lookF b (putF' a v F) = if b = a then v else lookF b F := by
  unfold putF'
  cases h : findF a F 0 with
  | none => exact look_append (findF_none.1 h)
  | some p => have := look_set (b := b) (v := v) h; simpa using this
set_option maxRecDepth 100000 in
theorem keys_put (a : Addr) (v : Int) (F : List (Addr × Int)) : a ∈ keysF (putF' a v F) ∧ (∀ x ∈ keysF F, x ∈ keysF (putF' a v F)) ∧ (putF' a v F).length ≤ F.length + 1 := by
  unfold putF'
  cases h : findF a F 0 with
  | none => exact ⟨by simp [keysF], fun x hx => by simp only [keysF, List.map_append, List.mem_append]; exact .inl hx, by simp⟩
  | some p =>
    obtain ⟨-, hp⟩ := findF_at h
    rw [Nat.sub_zero] at hp
    have hk : keysF (F.set p.1 (a, v)) = keysF F := by
      unfold keysF
      rw [List.map_set]
      apply List.ext_getElem?
      intro i
      rw [List.getElem?_set]
      by_cases hi : p.1 = i
      · subst hi
        have hl : p.1 < F.length := by
          rcases Nat.lt_or_ge p.1 F.length with k | k
          · exact k
          · rw [List.getElem?_eq_none k] at hp; cases hp
        rw [if_pos rfl, if_pos (by simpa using hl), List.getElem?_map, hp]; rfl
      · rw [if_neg hi]
    refine ⟨?_, fun x hx => by rw [hk]; exact hx, by simp⟩
    rw [hk]
    exact List.mem_map.2 ⟨(a, p.2), List.mem_of_getElem? hp, rfl⟩
set_option maxRecDepth 100000 in
theorem nodup_le {α : Type} [DecidableEq α] : ∀ (l l' : List α), l.Nodup → (∀ x ∈ l, x ∈ l') → l.length ≤ l'.length
  | [], _, _, _ => Nat.zero_le _
  | x :: l, l', hn, hs => by
    obtain ⟨h1, h2⟩ := List.nodup_cons.1 hn
    have hx := hs x List.mem_cons_self
    have := nodup_le l (l'.erase x) h2 (fun y hy => (List.mem_erase_of_ne (by intro e; subst e; exact h1 hy)).2 (hs y (List.mem_cons_of_mem _ hy)))
    rw [List.length_erase_of_mem hx] at this
    have := List.length_pos_of_mem hx
    simp only [List.length_cons]
    omega
end Go.Proofs.YtllgodaphoncnaaGreatDoor
