/- What reading leaves: it goes on, and what went wrong stays; What a call leaves to the next one: the variables listed; Structs that are built of parts which are lists. No program is named here. -/
import Derived.Test.YtllgodaphoncnaaGreatDoorJ13
import Derived.Test.YtllgodaphoncnaaGreatDoorJ02
import Derived.Test.YtllgodaphoncnaaGreatDoorJ06
namespace Go.Proofs.YtllgodaphoncnaaGreatDoor

section
variable {T : List Tk}
set_option maxRecDepth 100000 in
theorem ahead_ne {p : PS} (h : (aheadP T p).k ≠ 0) : p.err = none ∧ ∃ h : p.at' < T.length, aheadP T p = T[p.at'] ∧ formB T[p.at'] = true := by
  unfold aheadP at h ⊢
  cases he : p.err with
  | some e => rw [he] at h; exact absurd rfl h
  | none =>
    rw [he] at h
    simp only [Option.isSome_none, Bool.false_eq_true, if_false] at h ⊢
    rcases Nat.lt_or_ge p.at' T.length with hl | hl
    · rw [List.getElem?_eq_getElem hl] at h ⊢
      simp only at h ⊢
      by_cases hf : formB T[p.at'] = true
      · rw [if_pos hf]; exact ⟨trivial, hl, rfl, hf⟩
      · rw [if_neg hf] at h; exact absurd rfl h
    · rw [List.getElem?_eq_none hl] at h; exact absurd rfl h
set_option maxRecDepth 100000 in
theorem isP_ne {t : Tk} {s : List UInt8} (h : isP t s = true) : t.k ≠ 0 := by
  intro e; simp [isP, e] at h
set_option maxRecDepth 100000 in
theorem litP_ne {t : Tk} {v : Val} (h : litP t = some v) : t.k ≠ 0 := by
  intro e; simp [litP, e] at h
set_option maxRecDepth 100000 in
theorem ahead_err {p : PS} (h : p.err ≠ none) : aheadP T p = noTk := by
  unfold aheadP; cases he : p.err with
  | none => exact absurd he h
  | some e => rfl
/-- what reading leaves -/
structure Adv (T : List Tk) (p q : PS) : Prop where
  stay : p.err ≠ none → q = p
  mono : p.at' ≤ q.at'
  len : p.at' ≤ T.length → q.at' ≤ T.length
  place : p.err = none → ∀ e pl, q.err = some (e, pl) → p.at' ≤ pl ∧ (p.at' ≤ T.length → pl ≤ T.length) ∧ e = 2
set_option maxRecDepth 100000 in
theorem Adv.refl (p : PS) : Adv T p p := ⟨fun _ => rfl, Nat.le_refl _, id, fun h e pl h' => by rw [h] at h'; cases h'⟩
set_option maxRecDepth 100000 in
theorem Adv.trans {p q r : PS} (h : Adv T p q) (k : Adv T q r) : Adv T p r := by
  refine ⟨fun he => ?_, Nat.le_trans h.mono k.mono, fun hl => k.len (h.len hl), fun he e pl hr => ?_⟩
  · have := h.stay he
    subst this
    exact k.stay he
  · cases hq : q.err with
    | none =>
      obtain ⟨h1, h2, h3⟩ := k.place hq e pl hr
      exact ⟨Nat.le_trans h.mono h1, fun hl => h2 (h.len hl), h3⟩
    | some x =>
      have := k.stay (by rw [hq]; simp)
      subst this
      exact h.place he e pl hr
set_option maxRecDepth 100000 in
theorem adv_stop (p : PS) : Adv T p (stopP p) := by
  unfold stopP failP
  cases he : p.err with
  | none =>
    refine ⟨fun h => absurd he h, Nat.le_refl _, fun hl => hl, fun _ e pl h => ?_⟩
    simp at h
    obtain ⟨rfl, rfl⟩ := h
    exact ⟨Nat.le_refl _, fun hl => hl, rfl⟩
  | some x => simp only [Option.isNone_some, Bool.false_eq_true, if_false]; exact .refl p
set_option maxRecDepth 100000 in
theorem adv_pass {p : PS} (h : (aheadP T p).k ≠ 0) : Adv T p (passP p) := by
  obtain ⟨he, hl, -⟩ := ahead_ne h
  refine ⟨fun h => absurd he h, by simp [passP], fun _ => by simp only [passP]; omega, fun _ e pl h => ?_⟩
  simp [passP, he] at h
set_option maxRecDepth 100000 in
theorem adv_takes (s : List UInt8) (p : PS) : Adv T p (takesP T s p).2 := by
  unfold takesP; split
  · rename_i h; exact adv_pass (isP_ne h)
  · exact .refl p
set_option maxRecDepth 100000 in
theorem adv_takesOne : ∀ (of : List (List UInt8)) (p : PS), Adv T p (takesOneP T of p).2
  | [], p => .refl p
  | s :: of, p => by
    unfold takesOneP; split
    · rename_i h; exact adv_pass (isP_ne h)
    · exact adv_takesOne of p
set_option maxRecDepth 100000 in
theorem adv_needs (s : List UInt8) (p : PS) : Adv T p (needsP T s p) := by
  unfold needsP; split
  · rename_i h; exact adv_pass (isP_ne h)
  · exact adv_stop p
set_option maxRecDepth 100000 in
theorem adv_own (k : Int) (hk : k ≠ 0) (p : PS) : Adv T p (ownP T k p).2 := by
  unfold ownP; split
  · rename_i h; exact adv_pass (by intro e; rw [e] at h; exact hk (by simpa using (beq_iff_eq.1 h).symm))
  · exact adv_stop p
set_option maxRecDepth 100000 in
theorem adv_name (p : PS) : Adv T p (nameP T p).2 := by
  unfold nameP; split
  · exact (adv_stop p).trans (adv_own 1 (by decide) _)
  · exact adv_own 1 (by decide) _
set_option maxRecDepth 100000 in
theorem adv_attrTail (o : List UInt8 × PS) : Adv T o.2 (attrTail T o).2 := by
  unfold attrTail
  refine Adv.trans ?_ ((adv_needs kDot _).trans (adv_name _))
  split
  · exact adv_stop _
  · exact .refl _
set_option maxRecDepth 100000 in
theorem adv_attribute (p : PS) : Adv T p (attributeP T p).2 := (adv_takesOne whoL p).trans (adv_attrTail _)
set_option maxRecDepth 100000 in
theorem adv_member (p : PS) : Adv T p (memberP T p).2 := by
  unfold memberP
  split
  · rename_i h
    refine (adv_pass (isP_ne h)).trans ?_
    split
    · rename_i h2; exact adv_pass (by intro e; rw [e] at h2; cases h2)
    · exact adv_stop _
  · split
    · rename_i h; exact adv_pass (litP_ne h)
    · exact adv_stop _
set_option maxRecDepth 100000 in
theorem adv_members : ∀ (n : Nat) (l : List Val) (p : PS), Adv T p (membersP T n (l, p)).2
  | 0, _, p => .refl _
  | n + 1, l, p => by
    unfold membersP; simp only; split
    · rename_i h; exact ((adv_pass (isP_ne h)).trans (adv_member _)).trans (adv_members n _ _)
    · exact .refl _
set_option maxRecDepth 100000 in
theorem adv_bag {p : PS} (h : (aheadP T p).k ≠ 0) : Adv T p (bagP T (passP p)).2 := by
  have h0 := ahead_ne h
  have h1 : Adv T p (needsP T kClose (membersP T (T.length + 1) ([(memberP T (passP p)).1], (memberP T (passP p)).2)).2) :=
    ((adv_pass h).trans (adv_member _)).trans ((adv_members _ _ _).trans (adv_needs _ _))
  unfold bagP bagTail
  simp only
  generalize needsP T kClose _ = q at *
  split
  · exact h1
  · obtain ⟨he, hl, -⟩ := h0
    unfold failP
    split
    · rename_i hq
      refine ⟨fun h => absurd he h, h1.mono, h1.len, fun _ e pl h => ?_⟩
      simp [passP] at h
      obtain ⟨rfl, rfl⟩ := h
      exact ⟨Nat.le_refl _, fun h => h, rfl⟩
    · exact h1
/-- a function that reads -/
def Reads1 (T : List Tk) (f : PS → Tr × PS) : Prop := ∀ p, Adv T p (f p).2
set_option maxRecDepth 100000 in
theorem adv_loop {part : PS → Tr × PS} (hp : Reads1 T part) (ops : List (List UInt8)) : ∀ (n : Nat) (e : Tr) (p : PS), Adv T p (loopP T part ops n (e, p)).2
  | 0, _, p => .refl _
  | n + 1, e, p => by
    unfold loopP; simp only; split
    · exact adv_takesOne ops _
    · exact ((adv_takesOne ops _).trans (hp _)).trans (adv_loop hp ops n _ _)
set_option maxRecDepth 100000 in
theorem adv_call {ex : PS → Tr × PS} (hp : Reads1 T ex) (op : List UInt8) (p : PS) : Adv T p (callP T ex op p).2 := by
  unfold callP; split
  · exact adv_attribute p
  · split
    · exact adv_own 3 (by decide) p
    · exact hp p
set_option maxRecDepth 100000 in
theorem takesOne_cases (of : List (List UInt8)) (p : PS) : (takesOneP T of p = ([], p) ∧ ∀ s ∈ of, isP (aheadP T p) s = false) ∨ ∃ s ∈ of, isP (aheadP T p) s = true ∧ takesOneP T of p = (s, passP p) := by
  induction of with
  | nil => exact .inl ⟨rfl, fun s hs => by cases hs⟩
  | cons s of ih =>
    unfold takesOneP
    split
    · rename_i h; exact .inr ⟨s, List.mem_cons_self, h, rfl⟩
    · rename_i h
      rcases ih with ⟨h1, h2⟩ | ⟨s', h1, h2, h3⟩
      · refine .inl ⟨h1, fun x hx => ?_⟩
        rcases List.mem_cons.1 hx with rfl | hx
        · simpa using h
        · exact h2 x hx
      · exact .inr ⟨s', List.mem_cons_of_mem _ h1, h2, h3⟩
set_option maxRecDepth 100000 in
theorem adv_plain {ex : PS → Tr × PS} (hp : Reads1 T ex) (p : PS) : Adv T p (plainP T ex p).2 := by
  unfold plainP
  split
  · rename_i h; exact adv_pass (litP_ne h)
  · split
    · exact adv_attribute p
    · simp only
      rcases takesOne_cases (T := T) plainOps p with ⟨h, -⟩ | ⟨s, hs, ht, h⟩
      · rw [h]
        simpa using adv_stop p
      · rw [h]
        have hA := adv_pass (isP_ne ht)
        have hs' : s ≠ [] := by intro e; subst e; revert hs; decide
        simp only [hs', if_false]
        split
        · exact hA
        · split
          · exact adv_bag (isP_ne ht)
          · split
            · exact hA.trans ((hp _).trans (adv_needs _ _))
            · exact hA.trans (((adv_needs _ _).trans (adv_call hp _ _)).trans (adv_needs _ _))
set_option maxRecDepth 100000 in
theorem adv_step {rec : Lv → PS → Tr × PS} (hr : ∀ lv, Reads1 T (rec lv)) (lv : Lv) : Reads1 T (stepP T rec lv) := by
  intro p
  cases lv <;> unfold stepP <;> simp only
  · exact (hr .ands p).trans (adv_loop (hr .ands) _ _ (rec .ands p).1 (rec .ands p).2)
  · exact (hr .nots p).trans (adv_loop (hr .nots) _ _ (rec .nots p).1 (rec .nots p).2)
  · split
    · rename_i h; exact (adv_pass (isP_ne h)).trans (hr .nots _)
    · exact hr .cmp p
  · split
    · exact hr .sum p
    · exact (hr .sum p).trans ((adv_takesOne _ _).trans (hr .sum _))
  · exact (hr .prod p).trans (adv_loop (hr .prod) _ _ (rec .prod p).1 (rec .prod p).2)
  · exact (hr .neg p).trans (adv_loop (hr .neg) _ _ (rec .neg p).1 (rec .neg p).2)
  · split
    · rename_i h; exact (adv_pass (isP_ne h)).trans (hr .neg _)
    · exact hr .plain p
  · exact adv_plain (hr .ors) p
set_option maxRecDepth 100000 in
theorem adv_fuel : ∀ (f : Nat) (lv : Lv), Reads1 T (fuelP T f lv)
  | 0, _ => fun p => .refl p
  | f + 1, lv => adv_step (adv_fuel f) lv
set_option maxRecDepth 100000 in
theorem adv_expr (lv : Lv) : Reads1 T (exprP T lv) := adv_fuel _ lv
/-! the depth of calls doesn't matter -/
set_option maxRecDepth 100000 in
theorem pass_mu {p : PS} (h : (aheadP T p).k ≠ 0) (lv lv' : Lv) : lv'.mu T (passP p) < lv.mu T p := by
  obtain ⟨-, hl, -⟩ := ahead_ne h
  have : lv'.rank ≤ 7 := by cases lv' <;> decide
  simp only [Lv.mu, passP]; omega
set_option maxRecDepth 100000 in
theorem mono_mu {p q : PS} (h : p.at' ≤ q.at') (lv lv' : Lv) (hr : lv'.rank < lv.rank) : lv'.mu T q < lv.mu T p := by
  simp only [Lv.mu]; omega
set_option maxRecDepth 100000 in
theorem loop_congr {a b : PS → Tr × PS} {ops : List (List UInt8)} (ha : Reads1 T a) (m : Nat) (h : ∀ q, m ≤ q.at' → a q = b q) : ∀ (n : Nat) (x : Tr × PS), m ≤ x.2.at' → loopP T a ops n x = loopP T b ops n x
  | 0, x, _ => rfl
  | n + 1, x, hx => by
    have h1 : m ≤ (takesOneP T ops x.2).2.at' := Nat.le_trans hx (adv_takesOne ops x.2).mono
    unfold loopP
    rw [← h _ h1]
    split
    · rfl
    · exact loop_congr ha m h n _ (Nat.le_trans h1 (ha _).mono)
set_option maxRecDepth 100000 in
theorem step_congr {a b : Lv → PS → Tr × PS} (ha : ∀ lv, Reads1 T (a lv)) (lv : Lv) (p : PS) (h : ∀ lv' q, lv'.mu T q < lv.mu T p → a lv' q = b lv' q) : stepP T a lv p = stepP T b lv p := by
  cases lv <;> unfold stepP <;> simp only
  · rw [← h .ands p (mono_mu (Nat.le_refl _) _ _ (by decide))]
    exact loop_congr (ha .ands) p.at' (fun q hq => h .ands q (mono_mu hq _ _ (by decide))) _ _ (ha .ands p).mono
  · rw [← h .nots p (mono_mu (Nat.le_refl _) _ _ (by decide))]
    exact loop_congr (ha .nots) p.at' (fun q hq => h .nots q (mono_mu hq _ _ (by decide))) _ _ (ha .nots p).mono
  · split
    · rename_i hi; rw [h .nots _ (pass_mu (isP_ne hi) _ _)]
    · exact h .cmp p (mono_mu (Nat.le_refl _) _ _ (by decide))
  · rw [← h .sum p (mono_mu (Nat.le_refl _) _ _ (by decide))]
    rw [← h .sum _ (mono_mu (Nat.le_trans (ha .sum p).mono (adv_takesOne cmpOps _).mono) _ _ (by decide))]
  · rw [← h .prod p (mono_mu (Nat.le_refl _) _ _ (by decide))]
    exact loop_congr (ha .prod) p.at' (fun q hq => h .prod q (mono_mu hq _ _ (by decide))) _ _ (ha .prod p).mono
  · rw [← h .neg p (mono_mu (Nat.le_refl _) _ _ (by decide))]
    exact loop_congr (ha .neg) p.at' (fun q hq => h .neg q (mono_mu hq _ _ (by decide))) _ _ (ha .neg p).mono
  · split
    · rename_i hi; rw [h .neg _ (pass_mu (isP_ne hi) _ _)]
    · exact h .plain p (mono_mu (Nat.le_refl _) _ _ (by decide))
  · unfold plainP
    split
    · rfl
    · split
      · rfl
      · simp only
        rcases takesOne_cases (T := T) plainOps p with ⟨he, -⟩ | ⟨s, hs, ht, he⟩
        · rw [he]; simp
        · rw [he]
          have hm := pass_mu (T := T) (isP_ne ht) .plain .ors
          have e1 := h .ors (passP p) hm
          have e2 := h .ors (needsP T kPar (passP p)) (Nat.lt_of_le_of_lt (by have := (adv_needs (T := T) kPar (passP p)).mono; simp only [Lv.mu]; omega) hm)
          simp only [e1, callP, e2]
set_option maxRecDepth 100000 in
theorem fuel_eq : ∀ (f g : Nat) (lv : Lv) (p : PS), lv.mu T p < f → lv.mu T p < g → fuelP T f lv p = fuelP T g lv p
  | 0, _, _, _, h, _ => by omega
  | _, 0, _, _, _, h => by omega
  | f + 1, g + 1, lv, p, hf, hg => by
    show stepP T (fuelP T f) lv p = stepP T (fuelP T g) lv p
    exact step_congr (adv_fuel f) lv p fun lv' q hq => fuel_eq f g lv' q (by omega) (by omega)
set_option maxRecDepth 100000 in
theorem mu_lt (lv : Lv) (p : PS) : lv.mu T p < 8 * (T.length + 1) := by
  have : lv.rank ≤ 7 := by cases lv <;> decide
  simp only [Lv.mu]; omega
set_option maxRecDepth 100000 in
theorem expr_eq (lv : Lv) (p : PS) : exprP T lv p = stepP T (exprP T) lv p := by
  have h : exprP T lv p = stepP T (fuelP T (8 * T.length + 7)) lv p := rfl
  rw [h]
  refine step_congr (adv_fuel _) lv p fun lv' q hq => ?_
  have := mu_lt (T := T) lv p
  exact fuel_eq _ _ lv' q (by omega) (mu_lt lv' q)
end
end Go.Proofs.YtllgodaphoncnaaGreatDoor
namespace Go.Proofs.YtllgodaphoncnaaGreatDoor
open Go.RowKit

set_option maxRecDepth 100000 in
theorem LexW.low {w w' : World} {N : Nat} (h : LexW w) (hb : Below N w w') (hN : 9 ≤ N) : LexW w' := by
  have hv : ∀ (nm : String) (g : Nat) (x : Array Value), Tryz.prog.globalNamed nm = some g → g < 9 → w.var? Tryz.prog nm = some x → w'.var? Tryz.prog nm = some x := fun nm g x h1 h2 h3 => by
    unfold World.var? at h3 ⊢
    rw [h1] at h3 ⊢
    have hblk := hb.block g (by omega)
    simp only [Option.bind_some] at h3 ⊢
    rw [hblk]; exact h3
  obtain ⟨t1, p1, h1⟩ := h.syn
  obtain ⟨t2, p2, h2⟩ := h.ran
  refine ⟨fun j v hv => ?_, ⟨t1, p1, hv _ 4 _ (by kernel_rfl) (by decide) h1⟩, ⟨t2, p2, hv _ 5 _ (by kernel_rfl) (by decide) h2⟩, ?_⟩
  · have h0 := h.sig j v hv
    rw [hb.cell (by show 0 < N; omega)]
    exact h0
  · exact hv _ 6 _ (by kernel_rfl) (by decide) h.pow

end Go.Proofs.YtllgodaphoncnaaGreatDoor
namespace Go.Proofs.YtllgodaphoncnaaGreatDoor
open Go.RowKit

section
variable {P : Program} {ops : Array Oper} {o : Oper} {a : Act} {w : World} {K : Act → World → Prop} {Q : Exit → Act → World → Prop} {E : Prop}
set_option maxRecDepth 100000 in
theorem step_run (hgd : o.guard = none) (v : Value) (w' : World) (hr : (execOp a.eval o).run P w = .ok (.value v) w') (k : K (a.put o.dst v) w') : if Region.wanted o (yielded ops a.tmps) = true then Oper.wp P o a w K Q else E := by
  rw [if_pos (by simp [Region.wanted, hgd])]
  unfold Oper.wp
  rw [hr]
  exact k
set_option maxRecDepth 100000 in
theorem step_skip (hgd : o.guard = none) (w' : World) (hr : (execOp a.eval o).run P w = .ok .skip w') (k : K (a.put o.dst undef) w') : if Region.wanted o (yielded ops a.tmps) = true then Oper.wp P o a w K Q else E := by
  rw [if_pos (by simp [Region.wanted, hgd])]
  unfold Oper.wp
  rw [hr]
  exact k
set_option maxRecDepth 100000 in
theorem run_load_op (ty : TypeId) (x : Operand) (ho : o.op = .load ty x) (b off : Nat) (hx : a.eval x = .pointer (some ⟨b, off, none⟩)) (cs : List Value) (d : TypeDesc) (hc : w.rangeAt b off cs)
    (hu : P.underlying ty = some d) (hd : d.isRow = true) (hi : (P.info? ty).map (·.size) = some cs.length) : (execOp a.eval o).run P w = .ok (.value (.agg cs.toArray)) w := by
  unfold execOp
  simp only [ho, hx, Instr.loadAt, Instr.sureAddr, Sem.run_bind, Sem.run_pure, Result.andThen_ok, run_loadVar_mid w b off ty cs d hc hu hd hi]
set_option maxRecDepth 100000 in
theorem run_buildd_op (t : TypeId) (parts : Array (Nat × Operand)) (ho : o.op = .build t parts) (vals : List (Nat × Value)) (hv : (parts.map fun (i, x) => (i, a.eval x)).toList = vals) (cells : Array Value) (h : P.built t vals = some cells) : (execOp a.eval o).run P w = .ok (.value (.agg cells)) w := by
  subst hv
  unfold execOp
  simp only [ho, Sem.run_bind, run_build w t _ cells h, Result.andThen_ok]
  rfl
set_option maxRecDepth 100000 in
/-- a struct is built, in a row of operations -/
theorem wpList_buildd {rest : List Oper} (hgd : o.guard = none) (t : TypeId) (parts : Array (Nat × Operand)) (ho : o.op = .build t parts) (vals : List (Nat × Value)) (hv : (parts.map fun (i, x) => (i, a.eval x)).toList = vals) (cells : Array Value) (h : P.built t vals = some cells)
    (k : wpList P ops Q rest (a.put o.dst (.agg cells)) w) : wpList P ops Q (o :: rest) a w :=
  wpList_plain hgd fun K hK => by
    unfold Oper.wp
    rw [run_buildd_op t parts ho vals hv cells h]
    exact hK _ _ k
end

/-! what fills a struct -/
set_option maxRecDepth 100000 in
theorem fold_over (off : Nat) : ∀ (vs : List Value) (k : Nat) (Z : List Value), off + k + vs.length ≤ Z.length →
    List.foldl (fun (cs : Array Value) (x : Value × Nat) => cs.setIfInBounds (off + x.2) x.1) Z.toArray (vs.zipIdx k) = (over Z (off + k) vs).toArray
  | [], k, Z, _ => by simp [over]
  | v :: vs, k, Z, h => by
    simp only [List.zipIdx_cons, List.foldl_cons, List.setIfInBounds_toArray]
    rw [fold_over off vs (k + 1) (Z.set (off + k) v) (by simp at h ⊢; omega), ← set_over Z (off + k) v vs (by simpa using h), show off + (k + 1) = off + k + 1 by omega]
set_option maxRecDepth 100000 in
theorem fill_cons (place : Nat → Option (Nat × Nat)) (Z : List Value) (i : Nat) (v : Value) (vs : List Value) (hvs : v.cells = vs.toArray) (off : Nat) (hp : place i = some (off, vs.length)) (hl : off + vs.length ≤ Z.length) (rest : List (Nat × Value)) :
    Instr.fill place Z.toArray ((i, v) :: rest) = Instr.fill place (over Z off vs).toArray rest := by
  have e := fold_over off vs 0 Z (by omega)
  simp only [Nat.add_zero] at e
  rw [Instr.fill, hp]
  simp only [hvs, List.size_toArray]
  rw [if_neg (by simp; omega)]
  congr 1
  rw [← e, ← Array.foldl_toList]
  simp
set_option maxRecDepth 100000 in
theorem built_struct {P : Program} (t : TypeId) (parts : List (Nat × Value)) (fields : Array Field) (places : List (Nat × Nat)) (z : Value) (hu : P.underlying t = some (.struct fields)) (hz : (P.info? t).bind (·.zero) = some z)
    (hp : fields.toList.mapM (fun f => (P.info? f.type).map fun i => (f.offset, i.size)) = some places) : P.built t parts = Instr.fill (places.toArray[·]?) z.cells parts := by
  cases hi : P.info? t with
  | none => rw [hi] at hz; cases hz
  | some it =>
    rw [hi] at hz
    have hz' : it.zero = some z := hz
    simp only [Program.built, hi, hu, hz', hp]
end Go.Proofs.YtllgodaphoncnaaGreatDoor
