/- How deep a tree is, level by level: the plain side; How deep a tree is, level by level: what holds between two levels, and within one. -/
import Derived.Test.YtllgodaphoncnaaGreatDoorSMap
import Derived.Test.YtllgodaphoncnaaGreatDoorSExpr
namespace Go.Proofs.YtllgodaphoncnaaGreatDoor
open Go.RowKit

set_option maxRecDepth 100000 in
theorem XV.of_cells {X Y : XV} (h : ∀ j, j < 8 → X.cells[j]? = Y.cells[j]?) : X = Y := by
  obtain ⟨o, ⟨k, i, s, a, n, c⟩, w, nm, pa, pl, pc⟩ := X
  obtain ⟨o', ⟨k', i', s', a', n', c'⟩, w', nm', pa', pl', pc'⟩ := Y
  have h0 := h 0 (by omega)
  have h1 := h 1 (by omega)
  have h2 := h 2 (by omega)
  have h3 := h 3 (by omega)
  have h4 := h 4 (by omega)
  have h5 := h 5 (by omega)
  have h6 := h 6 (by omega)
  have h7 := h 7 (by omega)
  simp only [XV.cells, xcells, List.getElem?_cons_zero, List.getElem?_cons_succ, Option.some.injEq, Value.string.injEq, Value.int.injEq, Value.slice.injEq, true_and] at h0 h1 h2 h3 h4 h5 h6 h7
  obtain ⟨rfl, rfl, rfl⟩ := h4
  obtain ⟨rfl, rfl, rfl⟩ := h7
  subst h0 h1 h2 h3 h5 h6
  rfl
set_option maxRecDepth 100000 in
theorem listAt_det {w : World} {ad : Option Addr} {g o g' o' : Nat} {l l' : List Val} (h : ListAt w ad g o l) (h' : ListAt w ad g' o' l') (hl : l.length = l'.length) : l = l' := by
  by_cases hn : l = []
  · subst hn
    exact (List.eq_nil_of_length_eq_zero hl.symm).symm
  · have hn' : l' ≠ [] := by intro e; subst e; exact hn (List.eq_nil_of_length_eq_zero hl)
    have e1 := (h.at' hn).symm.trans (h'.at' hn')
    simp only [Option.some.injEq, Addr.mk.injEq, and_true] at e1
    obtain ⟨rfl, rfl⟩ := e1
    apply List.ext_getElem hl
    intro j hj hj'
    have a0 := (h.c0 j hj).symm.trans (h'.c0 j hj')
    have a1 := (h.c1 j hj).symm.trans (h'.c1 j hj')
    have a2 := (h.c2 j hj).symm.trans (h'.c2 j hj')
    have a3 := (h.c3 j hj).symm.trans (h'.c3 j hj')
    simp only [Option.some.injEq, Value.string.injEq, Value.int.injEq, Value.slice.injEq, true_and] at a0 a1 a2 a3
    generalize l[j] = x at *
    generalize l'[j] = y at *
    obtain ⟨k, i, s, a, n, c⟩ := x
    obtain ⟨k', i', s', a', n', c'⟩ := y
    simp only at a0 a1 a2 a3
    obtain ⟨rfl, rfl, rfl⟩ := a3
    subst a0 a1 a2
    rfl
set_option maxRecDepth 100000 in
/-- one place holds one tree -/
theorem trAt_det {B B' : Nat → Prop} {w : World} {t : Tr} {X : XV} (h : TrAt B w t X) : ∀ {t' : Tr}, TrAt B' w t' X → t = t' := by
  induction h with
  | @mk op v who name ps X ho hw hn hv hl g o Xs had hfr hp hc ih =>
    intro t' h'
    cases h' with
    | @mk op' v' who' name' ps' _ ho' hw' hn' hv' hl' g' o' Xs' had' hfr' hp' hc' =>
      have e1 : op = op' := st_inj (ho.symm.trans ho')
      have e2 : who = who' := st_inj (hw.symm.trans hw')
      have e3 : name = name' := st_inj (hn.symm.trans hn')
      have e4 : v = v' := by
        obtain ⟨_, _, h1, -⟩ := hv.list
        obtain ⟨_, _, h2, -⟩ := hv'.list
        have e := listAt_det h1 h2 (hv.len.trans hv'.len.symm)
        have k1 := hv.k.symm.trans hv'.k
        have k2 := hv.i.symm.trans hv'.i
        have k3 := hv.s.symm.trans hv'.s
        obtain ⟨_, _, _, _⟩ := v
        obtain ⟨_, _, _, _⟩ := v'
        simp only at e k1 k2 k3
        subst e k1 k2 k3
        rfl
      have hlen : ps.length = ps'.length := hl.symm.trans hl'
      have e5 : ps = ps' := by
        apply List.ext_getElem hlen
        intro i hi hi'
        have hne : ps ≠ [] := by intro e; subst e; cases hi
        have hne' : ps' ≠ [] := by intro e; subst e; cases hi'
        have ea := (had hne).1.symm.trans (had' hne').1
        simp only [Option.some.injEq, Addr.mk.injEq, and_true] at ea
        obtain ⟨rfl, rfl⟩ := ea
        have eX : Xs i = Xs' i := XV.of_cells fun j hj => (hc i hi j hj).symm.trans (hc' i hi' j hj)
        have h2 := hp' i hi'
        rw [← eX] at h2
        exact ih i hi h2
      subst e1 e2 e3 e4 e5
      rfl
/-- a tree at a place, whose blocks are no strings' -/
structure NodeAt (w : World) (a : Addr) (t : Tr) (X : XV) : Prop where
  spot : a.spot = none
  cell : ∀ j, j < 8 → w.cell? ⟨a.block, a.off + j, none⟩ = X.cells[j]?
  plain : PlainB w a
  tree : ∃ B : Nat → Prop, ¬ B 0 ∧ TrAt B w t X
set_option maxRecDepth 100000 in
theorem NodeAt.det {w : World} {a : Addr} {t t' : Tr} {X X' : XV} (h : NodeAt w a t X) (h' : NodeAt w a t' X') : t = t' := by
  have e : X = X' := XV.of_cells fun j hj => (h.cell j hj).symm.trans (h'.cell j hj)
  subst e
  obtain ⟨B, -, h1⟩ := h.tree
  obtain ⟨B', -, h2⟩ := h'.tree
  exact trAt_det h1 h2
set_option maxRecDepth 100000 in
/-- a node's parts -/
theorem NodeAt.part {w : World} {a : Addr} {t : Tr} {X : XV} (h : NodeAt w a t X) : X.l = t.ps.length ∧ ∀ i, (hi : i < t.ps.length) → ∃ g o Y, X.a = some ⟨g, o, none⟩ ∧ NodeAt w ⟨g, o + i * 8, none⟩ t.ps[i] Y := by
  obtain ⟨B, hB, ht⟩ := h.tree
  cases ht with
  | @mk op v who name ps _ ho hw hn hv hl g o Xs had hfr hp hc =>
    refine ⟨hl, fun i hi => ?_⟩
    have hne : ps ≠ [] := by intro e; subst e; cases hi
    refine ⟨g, o, Xs i, (had hne).1, rfl, fun j hj => hc i hi j hj, ?_, B, hB, hp i hi⟩
    obtain ⟨C, T, hg⟩ := hfr hB hne
    exact ⟨C, T, hg⟩
abbrev IsNode (w : World) (n : Addr × Tr) : Prop := ∃ X, NodeAt w n.1 n.2 X
/-! the map -/
def keysF (F : List (Addr × Int)) : List Addr := F.map (·.1)
set_option maxRecDepth 100000 in
theorem findF_none {a : Addr} : ∀ {F : List (Addr × Int)} {i : Nat}, findF a F i = none ↔ a ∉ keysF F
  | [], i => by simp [findF, keysF]
  | x :: l, i => by
    unfold findF
    by_cases hx : a = x.1
    · simp [hx, keysF]
    · rw [if_neg hx, findF_none]
      simp only [keysF, List.map_cons, List.mem_cons, not_or]
      exact ⟨fun h => ⟨hx, h⟩, fun h => h.2⟩
set_option maxRecDepth 100000 in
theorem findF_shift {a : Addr} : ∀ {F : List (Addr × Int)} {i j : Nat}, (findF a F i).map (·.2) = (findF a F j).map (·.2)
  | [], _, _ => rfl
  | x :: l, i, j => by
    unfold findF
    by_cases hx : a = x.1
    · simp [hx]
    · rw [if_neg hx, if_neg hx]; exact findF_shift
set_option maxRecDepth 100000 in
theorem lookF_eq {a : Addr} {F : List (Addr × Int)} (i : Nat) : lookF a F = ((findF a F i).map (·.2)).getD 0 := by
  unfold lookF
  rw [findF_shift (j := 0)]
  cases findF a F 0 <;> rfl
set_option maxRecDepth 100000 in
theorem look_append {a b : Addr} {v : Int} : ∀ {F : List (Addr × Int)}, a ∉ keysF F → lookF b (F ++ [(a, v)]) = if b = a then v else lookF b F
  | [], _ => by
    by_cases h : b = a
    · simp [lookF, findF, h]
    · simp [lookF, findF, h]
  | x :: l, h => by
    have h2 : a ∉ keysF l := fun hm => h (by simp only [keysF, List.map_cons]; exact List.mem_cons_of_mem _ hm)
    have h3 : a ≠ x.1 := fun e => h (by simp [keysF, e])
    have ih := look_append (b := b) (v := v) h2
    rw [lookF_eq 1] at ih
    rw [lookF_eq 1] at ih
    rw [lookF_eq 0, lookF_eq 0]
    simp only [List.cons_append, findF]
    by_cases hb : b = x.1
    · rw [if_pos hb, if_pos hb, if_neg (by rw [hb]; exact Ne.symm h3)]
    · rw [if_neg hb, if_neg hb]
      by_cases hba : b = a
      · rw [if_pos hba] at ih ⊢; exact ih
      · rw [if_neg hba] at ih ⊢
        exact ih
set_option maxRecDepth 100000 in
theorem look_set {a b : Addr} {v : Int} : ∀ {F : List (Addr × Int)} {i : Nat} {p : Nat × Int}, findF a F i = some p → lookF b (F.set (p.1 - i) (a, v)) = if b = a then v else lookF b F
  | x :: l, i, p, h => by
    unfold findF at h
    by_cases hx : a = x.1
    · rw [if_pos hx] at h
      obtain rfl := Option.some.inj h
      subst hx
      simp only [Nat.sub_self, List.set_cons_zero]
      rw [lookF_eq 0, lookF_eq 0]
      simp only [findF]
      by_cases hb : b = x.1
      · rw [if_pos hb, if_pos hb]; rfl
      · rw [if_neg hb, if_neg hb, if_neg hb]
    · rw [if_neg hx] at h
      have h1 := (findF_at h).1
      have ih := look_set (b := b) (v := v) h
      rw [lookF_eq 1] at ih
      rw [lookF_eq 1] at ih
      rw [show p.1 - i = (p.1 - (i + 1)) + 1 by omega, List.set_cons_succ, lookF_eq 0, lookF_eq 0]
      simp only [findF]
      by_cases hb : b = x.1
      · rw [if_pos hb, if_pos hb, if_neg (by rw [hb]; exact Ne.symm hx)]
      · rw [if_neg hb, if_neg hb]
        by_cases hba : b = a
        · rw [if_pos hba] at ih ⊢; exact ih
        · rw [if_neg hba] at ih ⊢
          exact ih
set_option maxRecDepth 100000 in
theorem look_put (a b : Addr) (v : Int) (F : List (Addr × Int)) : lookF b (putF' a v F) = if b = a then v else lookF b F := by
  unfold putF'
  cases h : findF a F 0 with
  | none => exact look_append (findF_none.1 h)
  | some p => have := look_set (b := b) (v := v) h; simpa using this
set_option maxRecDepth 100000 in
theorem keys_put (a : Addr) (v : Int) (F : List (Addr × Int)) : a ∈ keysF (putF' a v F) ∧ (∀ x ∈ keysF F, x ∈ keysF (putF' a v F)) ∧ (putF' a v F).length ≤ F.length + 1 := by
  unfold putF'
  cases h : findF a F 0 with
  | none => exact ⟨by simp [keysF], fun x hx => by simp only [keysF, List.map_append, List.mem_append]; exact .inl hx, by simp⟩
  | some p =>
    obtain ⟨-, hp⟩ := findF_at h
    rw [Nat.sub_zero] at hp
    have hk : keysF (F.set p.1 (a, v)) = keysF F := by
      unfold keysF
      rw [List.map_set]
      apply List.ext_getElem?
      intro i
      rw [List.getElem?_set]
      by_cases hi : p.1 = i
      · subst hi
        have hl : p.1 < F.length := by
          rcases Nat.lt_or_ge p.1 F.length with k | k
          · exact k
          · rw [List.getElem?_eq_none k] at hp; cases hp
        rw [if_pos rfl, if_pos (by simpa using hl), List.getElem?_map, hp]; rfl
      · rw [if_neg hi]
    refine ⟨?_, fun x hx => by rw [hk]; exact hx, by simp⟩
    rw [hk]
    exact List.mem_map.2 ⟨(a, p.2), List.mem_of_getElem? hp, rfl⟩
set_option maxRecDepth 100000 in
theorem nodup_le {α : Type} [DecidableEq α] : ∀ (l l' : List α), l.Nodup → (∀ x ∈ l, x ∈ l') → l.length ≤ l'.length
  | [], _, _, _ => Nat.zero_le _
  | x :: l, l', hn, hs => by
    obtain ⟨h1, h2⟩ := List.nodup_cons.1 hn
    have hx := hs x List.mem_cons_self
    have := nodup_le l (l'.erase x) h2 (fun y hy => (List.mem_erase_of_ne (by intro e; subst e; exact h1 hy)).2 (hs y (List.mem_cons_of_mem _ hy)))
    rw [List.length_erase_of_mem hx] at this
    have := List.length_pos_of_mem hx
    simp only [List.length_cons]
    omega
end Go.Proofs.YtllgodaphoncnaaGreatDoor
namespace Go.Proofs.YtllgodaphoncnaaGreatDoor
open Go.RowKit

abbrev LT := List (Addr × Tr)
def trs (L : LT) : List Tr := L.map (·.2)
set_option maxRecDepth 100000 in
theorem depthL_append (a b : List Tr) : depthL (a ++ b) = max (depthL a) (depthL b) := by
  induction a with
  | nil => simp [depthL]
  | cons t l ih => simp only [List.cons_append, depthL, ih]; omega
set_option maxRecDepth 100000 in
theorem sizeL_append (a b : List Tr) : sizeL (a ++ b) = sizeL a + sizeL b := by
  induction a with
  | nil => simp [sizeL]
  | cons t l ih => simp only [List.cons_append, sizeL, ih]; omega
set_option maxRecDepth 100000 in
theorem depthL_le {l : List Tr} {m : Nat} : depthL l ≤ m ↔ ∀ t ∈ l, depthT t ≤ m := by
  induction l with
  | nil => simp [depthL]
  | cons t l ih => simp only [depthL, List.mem_cons, forall_eq_or_imp, ← ih]; omega
set_option maxRecDepth 100000 in
theorem depthT_ps (t : Tr) : depthT t = 1 + depthL t.ps := by cases t; rw [depthT]; rfl
set_option maxRecDepth 100000 in
theorem sizeT_ps (t : Tr) : sizeT t = 1 + sizeL t.ps := by cases t; rw [sizeT]; rfl
set_option maxRecDepth 100000 in
theorem depthL_flat : ∀ {l : List Tr}, l ≠ [] → depthL l = 1 + depthL (l.flatMap Tr.ps)
  | [t], _ => by simp [depthL, depthT_ps]
  | t :: u :: l, _ => by
    have h1 := depthL_flat (l := u :: l) (by simp)
    have e : (t :: u :: l).flatMap Tr.ps = t.ps ++ (u :: l).flatMap Tr.ps := rfl
    have e2 : depthL (t :: u :: l) = max (depthT t) (depthL (u :: l)) := by rw [depthL]
    rw [e2, e, depthL_append, depthT_ps, h1]
    omega
set_option maxRecDepth 100000 in
theorem sizeL_flat : ∀ (l : List Tr), sizeL (l.flatMap Tr.ps) + l.length = sizeL l
  | [] => rfl
  | t :: l => by
    have := sizeL_flat l
    rw [List.flatMap_cons, sizeL_append, sizeL, sizeT_ps, List.length_cons]
    omega
set_option maxRecDepth 100000 in
theorem length_sizeL : ∀ (l : List Tr), l.length ≤ sizeL l
  | [] => Nat.le_refl _
  | t :: l => by
    have := length_sizeL l
    have := sizeT_pos t
    rw [sizeL, List.length_cons]; omega
set_option maxRecDepth 100000 in
theorem sizeL_sub {l l' : List Tr} (h : l.Sublist l') : sizeL l ≤ sizeL l' := by
  induction h with
  | slnil => exact Nat.le_refl _
  | cons a h ih => rw [sizeL]; omega
  | cons_cons a h ih => rw [sizeL, sizeL]; omega
set_option maxRecDepth 100000 in
theorem depth_size : ∀ t : Tr, depthT t ≤ sizeT t
  | .mk op v who name ps => by
    have h : ∀ l : List Tr, (∀ t ∈ l, depthT t ≤ sizeT t) → depthL l ≤ sizeL l := by
      intro l
      induction l with
      | nil => intro _; exact Nat.le_refl _
      | cons t l ih =>
        intro ha
        have h1 := ha t List.mem_cons_self
        have h2 := ih fun u hu => ha u (List.mem_cons_of_mem _ hu)
        rw [depthL, sizeL]; omega
    have := h ps (fun t ht => depth_size t)
    rw [depthT, sizeT]; omega
termination_by t => SizeOf.sizeOf t
decreasing_by
  have := List.sizeOf_lt_of_mem ht
  simp
  omega
/-- between two levels -/
structure OutD (w : World) (S D d : Nat) (L : LT) (F : List (Addr × Int)) : Prop where
  node : ∀ n ∈ L, IsNode w n
  deep : D = d + depthL (trs L)
  path : ∀ n ∈ L, ∃ P : LT, P.length = d ∧ (∀ m ∈ P, IsNode w m ∧ m.1 ∈ keysF F ∧ sizeT n.2 ≤ sizeT m.2) ∧ P.Pairwise (fun x y => sizeT y.2 < sizeT x.2)
  vals : ∀ a, lookF a F ≤ d
  sum : sizeL (trs L) ≤ S
  few : F.length ≤ d * S
set_option maxRecDepth 100000 in
theorem OutD.enough {w : World} {S D d : Nat} {L : LT} {F : List (Addr × Int)} (h : OutD w S D d L F) (hL : L ≠ []) : d ≤ F.length := by
  obtain ⟨n, hn⟩ := List.exists_mem_of_ne_nil L hL
  obtain ⟨P, hlen, hall, hpw⟩ := h.path n hn
  have hnd : (P.map (·.1)).Nodup := by
    rw [List.nodup_iff_pairwise_ne, List.pairwise_map]
    refine hpw.imp_of_mem ?_
    intro x y hx hy hlt e
    obtain ⟨X, hX⟩ := (hall x hx).1
    obtain ⟨Y, hY⟩ := (hall y hy).1
    rw [e] at hX
    have := hX.det hY
    rw [this] at hlt
    omega
  have := nodup_le (P.map (·.1)) (keysF F) hnd (fun a ha => by
    obtain ⟨m, hm, rfl⟩ := List.mem_map.1 ha
    exact (hall m hm).2.1)
  rw [List.length_map, hlen] at this
  simpa [keysF] using this
/-- within a level -/
structure InD (w : World) (d : Nat) (L : LT) (F0 F : List (Addr × Int)) (done : List Tr) (PL Bl : LT) : Prop where
  trees : trs PL = done
  node : ∀ n ∈ PL, IsNode w n
  par : ∀ n ∈ PL, ∃ u ∈ L, n.2 ∈ u.2.ps
  sub : Bl.Sublist PL
  all : ∀ n ∈ PL, ∃ m ∈ Bl, m.1 = n.1
  look2 : ∀ a, lookF a F = d → ∃ m ∈ Bl, m.1 = a
  le : ∀ a, lookF a F ≤ d
  keys : (∀ x ∈ keysF F0, x ∈ keysF F) ∧ ∀ m ∈ Bl, m.1 ∈ keysF F
  few : F.length ≤ F0.length + PL.length
set_option maxRecDepth 100000 in
theorem OutD.start {w : World} {S D d : Nat} {L : LT} {F : List (Addr × Int)} (h : OutD w S D d L F) : InD w (d + 1) L F F [] [] [] :=
  ⟨rfl, (fun n hn => by cases hn), (fun n hn => by cases hn), List.Sublist.refl _, (fun n hn => by cases hn), (fun a ha => by have := h.vals a; rw [ha] at this; omega), (fun a => by have := h.vals a; omega), ⟨fun x hx => hx, fun m hm => by cases hm⟩, by simp⟩
set_option maxRecDepth 100000 in
theorem trs_snoc (L : LT) (n : Addr × Tr) : trs (L ++ [n]) = trs L ++ [n.2] := by simp [trs]
set_option maxRecDepth 100000 in
theorem InD.skip {w : World} {d : Nat} {L : LT} {F0 F : List (Addr × Int)} {done : List Tr} {PL Bl : LT} (h : InD w d L F0 F done PL Bl) {n u : Addr × Tr} (hn : IsNode w n) (hu : u ∈ L) (hnu : n.2 ∈ u.2.ps) (hl : lookF n.1 F = d) :
    InD w d L F0 F (done ++ [n.2]) (PL ++ [n]) Bl := by
  refine ⟨by rw [trs_snoc, h.trees], fun m hm => ?_, fun m hm => ?_, h.sub.trans (List.sublist_append_left _ _), fun m hm => ?_, h.look2, h.le, h.keys, by have := h.few; simp; omega⟩
  · rcases List.mem_append.1 hm with hm | hm
    · exact h.node m hm
    · obtain rfl := List.mem_singleton.1 hm; exact hn
  · rcases List.mem_append.1 hm with hm | hm
    · exact h.par m hm
    · obtain rfl := List.mem_singleton.1 hm; exact ⟨u, hu, hnu⟩
  · rcases List.mem_append.1 hm with hm | hm
    · exact h.all m hm
    · obtain rfl := List.mem_singleton.1 hm; exact h.look2 _ hl
set_option maxRecDepth 100000 in
theorem InD.take {w : World} {d : Nat} {L : LT} {F0 F : List (Addr × Int)} {done : List Tr} {PL Bl : LT} (h : InD w d L F0 F done PL Bl) {n u : Addr × Tr} (hn : IsNode w n) (hu : u ∈ L) (hnu : n.2 ∈ u.2.ps) :
    InD w d L F0 (putF' n.1 d F) (done ++ [n.2]) (PL ++ [n]) (Bl ++ [n]) := by
  obtain ⟨k1, k2, k3⟩ := keys_put n.1 d F
  refine ⟨by rw [trs_snoc, h.trees], fun m hm => ?_, fun m hm => ?_, h.sub.append (List.Sublist.refl _), fun m hm => ?_, fun a ha => ?_, fun a => ?_, ⟨fun x hx => k2 x (h.keys.1 x hx), fun m hm => ?_⟩, by have := h.few; simp; omega⟩
  · rcases List.mem_append.1 hm with hm | hm
    · exact h.node m hm
    · obtain rfl := List.mem_singleton.1 hm; exact hn
  · rcases List.mem_append.1 hm with hm | hm
    · exact h.par m hm
    · obtain rfl := List.mem_singleton.1 hm; exact ⟨u, hu, hnu⟩
  · rcases List.mem_append.1 hm with hm | hm
    · obtain ⟨x, hx, e⟩ := h.all m hm
      exact ⟨x, List.mem_append_left _ hx, e⟩
    · obtain rfl := List.mem_singleton.1 hm; exact ⟨m, by simp, rfl⟩
  · rw [look_put] at ha
    by_cases e : a = n.1
    · exact ⟨n, by simp, e.symm⟩
    · rw [if_neg e] at ha
      obtain ⟨x, hx, e⟩ := h.look2 a ha
      exact ⟨x, List.mem_append_left _ hx, e⟩
  · rw [look_put]
    split
    · exact Int.le_refl _
    · exact h.le a
  · rcases List.mem_append.1 hm with hm | hm
    · exact k2 _ (h.keys.2 m hm)
    · obtain rfl := List.mem_singleton.1 hm; exact k1
set_option maxRecDepth 100000 in
theorem InD.out {w : World} {S D d : Nat} {L : LT} {F0 F : List (Addr × Int)} {PL Bl : LT} (h : InD w (d + 1) L F0 F ((trs L).flatMap Tr.ps) PL Bl) (ho : OutD w S D d L F0) (hL : L ≠ []) : OutD w S D (d + 1) Bl F := by
  have hmem : ∀ n ∈ Bl, n ∈ PL := fun n hn => h.sub.subset hn
  have hsz : sizeL (trs PL) ≤ S := by
    rw [h.trees]
    have := sizeL_flat (trs L)
    have := ho.sum
    omega
  refine ⟨fun n hn => h.node n (hmem n hn), ?_, fun n hn => ?_, fun a => by have := h.le a; exact this, ?_, ?_⟩
  · have hLt : trs L ≠ [] := by simp [trs, hL]
    have e1 := depthL_flat hLt
    rw [← h.trees] at e1
    have e2 : depthL (trs PL) = depthL (trs Bl) := by
      apply Nat.le_antisymm
      · rw [depthL_le]
        intro t ht
        obtain ⟨n, hn, rfl⟩ := List.mem_map.1 ht
        obtain ⟨m, hm, e⟩ := h.all n hn
        obtain ⟨X, hX⟩ := h.node n hn
        obtain ⟨Y, hY⟩ := h.node m (hmem m hm)
        rw [e] at hY
        rw [hX.det hY]
        exact depthL_le.1 (Nat.le_refl (depthL (trs Bl))) _ (List.mem_map.2 ⟨m, hm, rfl⟩)
      · rw [depthL_le]
        intro t ht
        obtain ⟨n, hn, rfl⟩ := List.mem_map.1 ht
        exact depthL_le.1 (Nat.le_refl (depthL (trs PL))) _ (List.mem_map.2 ⟨n, hmem n hn, rfl⟩)
    have := ho.deep
    omega
  · obtain ⟨u, hu, hnu⟩ := h.par n (hmem n hn)
    obtain ⟨P, hlen, hall, hpw⟩ := ho.path u hu
    have hlt : sizeT n.2 < sizeT u.2 := by
      have := sizeL_mem hnu
      rw [sizeT_ps u.2]; omega
    refine ⟨P ++ [n], by simp [hlen], fun m hm => ?_, ?_⟩
    · rcases List.mem_append.1 hm with hm | hm
      · obtain ⟨a1, a2, a3⟩ := hall m hm
        exact ⟨a1, h.keys.1 _ a2, by omega⟩
      · obtain rfl := List.mem_singleton.1 hm
        exact ⟨h.node m (hmem m hn), h.keys.2 m hn, Nat.le_refl _⟩
    · refine List.pairwise_append.2 ⟨hpw, List.pairwise_singleton _ _, fun x hx y hy => ?_⟩
      obtain rfl := List.mem_singleton.1 hy
      have := (hall x hx).2.2
      omega
  · have := sizeL_sub (h.sub.map (·.2))
    have : sizeL (trs Bl) ≤ sizeL (trs PL) := this
    omega
  · have h1 := h.few
    have h2 := ho.few
    have h3 := length_sizeL (trs PL)
    have h4 : (trs PL).length = PL.length := by simp [trs]
    rw [Nat.add_mul]
    omega
set_option maxRecDepth 100000 in
theorem hpsnext (l : List Tr) (i : Nat) (h : i < l.length) : l.take (i + 1) = l.take i ++ [l[i]] := List.take_succ_eq_append_getElem h
set_option maxRecDepth 100000 in
theorem sizeL_take (l : List Tr) (k : Nat) : sizeL (l.take k) ≤ sizeL l := sizeL_sub (List.take_sublist k l)
set_option maxRecDepth 100000 in
theorem sizeL_done {L : LT} {PL : LT} {n : Addr × Tr} {k i S : Nat} (h : trs PL = (trs (L.take k)).flatMap Tr.ps ++ n.2.ps.take i) (hs : sizeL (trs L) ≤ S) (hn : ∀ hk : k < L.length, L[k] = n) (hk : k < L.length) : sizeL (trs PL) ≤ S := by
  rw [h, sizeL_append]
  have h1 := sizeL_take n.2.ps i
  have h2 := sizeL_flat (trs (L.take k))
  have h3 : trs (L.take (k + 1)) = trs (L.take k) ++ [n.2] := by
    rw [List.take_succ_eq_append_getElem hk, hn hk, trs_snoc]
  have h4 : sizeL (trs (L.take (k + 1))) ≤ sizeL (trs L) := sizeL_sub (List.Sublist.map (fun x : Addr × Tr => x.2) (List.take_sublist (k + 1) L))
  rw [h3, sizeL_append] at h4
  have h5 : sizeL [n.2] = 1 + sizeL n.2.ps := by rw [sizeL, sizeL, sizeT_ps]; rfl
  omega
end Go.Proofs.YtllgodaphoncnaaGreatDoor
