/- What is ahead of the place that is told is not to blame: the two ways go side by side; P8.1: what is ahead of the place that is told is not to blame; P8.2, SyntaxFirst: the law's walk. -/
import Derived.Test.YtllgodaphoncnaaGreatDoorJ26
import Derived.Test.YtllgodaphoncnaaGreatDoorSSize
import Derived.Test.YtllgodaphoncnaaGreatDoorSAwake
namespace Go.Proofs.YtllgodaphoncnaaGreatDoor

/-- with all tokens it went beyond, or wrong elsewhere -/
def Esc (T : List Tk) (K : Nat) (q : PS) : Prop := (q.err = none ∧ K < q.at') ∨ ∃ e pl, q.err = some (e, pl) ∧ (pl ≠ K ∨ ∃ t, T[K]? = some t ∧ t.k = 5 ∧ t.s = kOpen)
/-- the two readers go side by side, or both stopped at the place, or the first one is elsewhere -/
def Sim {α : Type} (T : List Tk) (K : Nat) (x y : α × PS) : Prop := (x.2.err = none ∧ x.2.at' ≤ K ∧ y = x) ∨ (x.2.err = some (2, K) ∧ y.2.err = some (2, K)) ∨ Esc T K x.2
section
variable {T : List Tk} {K : Nat}
set_option maxRecDepth 100000 in
theorem Esc.adv {p q : PS} (h : Esc T K p) (a : Adv T p q) : Esc T K q := by
  rcases h with ⟨h1, h2⟩ | ⟨e, pl, h1, h2⟩
  · cases hq : q.err with
    | none => exact .inl ⟨hq, Nat.lt_of_lt_of_le h2 a.mono⟩
    | some x =>
      have := (a.place h1 x.1 x.2 hq).1
      exact .inr ⟨x.1, x.2, hq, .inl (by omega)⟩
  · have := a.stay (by rw [h1]; simp)
    subst this
    exact .inr ⟨e, pl, h1, h2⟩
set_option maxRecDepth 100000 in
theorem Sim.bindE {α β : Type} {x y : α × PS} {f g : α × PS → β × PS} (h : Sim T K x y) (hf : ∀ z : α × PS, z.2.err = none → z.2.at' ≤ K → Sim T K (f z) (g z)) (af : ∀ z : α × PS, z.2.err ≠ none → (f z).2.err = z.2.err) (ag : ∀ z : α × PS, z.2.err ≠ none → (g z).2.err = z.2.err) (ae : ∀ z : α × PS, Esc T K z.2 → Esc T K (f z).2) : Sim T K (f x) (g y) := by
  rcases h with ⟨h1, h2, rfl⟩ | ⟨h1, h2⟩ | h
  · exact hf y h1 h2
  · refine .inr (.inl ⟨?_, ?_⟩)
    · rw [af x (by rw [h1]; simp)]; exact h1
    · rw [ag y (by rw [h2]; simp)]; exact h2
  · exact .inr (.inr (ae x h))
set_option maxRecDepth 100000 in
theorem Sim.bind {α β : Type} {x y : α × PS} {f g : α × PS → β × PS} (h : Sim T K x y) (hf : ∀ z : α × PS, z.2.err = none → z.2.at' ≤ K → Sim T K (f z) (g z)) (af : ∀ z : α × PS, Adv T z.2 (f z).2) (ag : ∀ z : α × PS, Adv (T.take K) z.2 (g z).2) : Sim T K (f x) (g y) :=
  h.bindE hf (fun z hz => by rw [(af z).stay hz]) (fun z hz => by rw [(ag z).stay hz]) (fun z hz => hz.adv (af z))
set_option maxRecDepth 100000 in
theorem Sim.same {α : Type} (a : α) {p : PS} (h : p.err = none) (hk : p.at' ≤ K) : Sim T K (a, p) (a, p) := .inl ⟨h, hk, rfl⟩
set_option maxRecDepth 100000 in
theorem Sim.esc {α : Type} {x y : α × PS} (h : Esc T K x.2) : Sim T K x y := .inr (.inr h)
set_option maxRecDepth 100000 in
theorem ahead_lt {p : PS} (h : p.at' < K) : aheadP (T.take K) p = aheadP T p := by
  unfold aheadP
  rw [List.getElem?_take_of_lt h]
set_option maxRecDepth 100000 in
theorem ahead_at {p : PS} (h : p.at' = K) : aheadP (T.take K) p = noTk := by
  unfold aheadP
  split
  · rfl
  · rw [List.getElem?_eq_none (by simp; omega)]
set_option maxRecDepth 100000 in
theorem stop_sim {α : Type} (a b : α) {p : PS} (h : p.err = none) (_hk : p.at' ≤ K) : Sim T K (a, stopP p) (a, stopP p) ∧ (p.at' = K → Sim T K (a, stopP p) (b, stopP p)) := by
  have e : (stopP p).err = some (2, p.at') := by simp [stopP, failP, h]
  constructor
  · by_cases hp : p.at' = K
    · exact .inr (.inl ⟨by rw [e, hp], by rw [e, hp]⟩)
    · exact .esc (.inr ⟨2, p.at', e, .inl hp⟩)
  · intro hp
    exact .inr (.inl ⟨by rw [e, hp], by rw [e, hp]⟩)
set_option maxRecDepth 100000 in
theorem pass_esc {p : PS} (h : p.err = none) (hk : p.at' = K) : Esc T K (passP p) := .inl ⟨h, by simp [passP]; omega⟩
set_option maxRecDepth 100000 in
theorem pass_sim {α : Type} (a : α) {p : PS} (h : p.err = none) (hk : p.at' < K) : Sim T K (a, passP p) (a, passP p) := .inl ⟨h, by simp only [passP]; omega, rfl⟩
set_option maxRecDepth 100000 in
/-- a choice by the token ahead: alike if it is there for both; at the place the first one goes on beyond it, or both choose what no token chooses -/
theorem noTk_k : noTk.k = 0 := rfl
set_option maxRecDepth 100000 in
theorem isP_no (s : List UInt8) : isP noTk s = false := rfl
set_option maxRecDepth 100000 in
theorem takes_sim (s : List UInt8) {p : PS} (h : p.err = none) (hk : p.at' ≤ K) : Sim T K (takesP T s p) (takesP (T.take K) s p) := by
  unfold takesP
  rcases Nat.lt_or_eq_of_le hk with hl | he
  · rw [ahead_lt hl]
    split
    · exact pass_sim _ h hl
    · exact .same _ h hk
  · rw [ahead_at he, isP_no]
    split
    · exact .esc (pass_esc h he)
    · exact .same _ h hk
set_option maxRecDepth 100000 in
theorem takesOne_sim : ∀ (of : List (List UInt8)) {p : PS} (_ : p.err = none) (_ : p.at' ≤ K), Sim T K (takesOneP T of p) (takesOneP (T.take K) of p)
  | [], p, h, hk => .same _ h hk
  | s :: of, p, h, hk => by
    unfold takesOneP
    rcases Nat.lt_or_eq_of_le hk with hl | he
    · rw [ahead_lt hl]
      split
      · exact pass_sim _ h hl
      · have := takesOne_sim of h hk
        exact this
    · rw [ahead_at he, isP_no]
      split
      · exact .esc (pass_esc h he)
      · exact takesOne_sim of h hk
set_option maxRecDepth 100000 in
theorem needs_sim {α : Type} (a : α) (s : List UInt8) {p : PS} (h : p.err = none) (hk : p.at' ≤ K) : Sim T K (a, needsP T s p) (a, needsP (T.take K) s p) := by
  unfold needsP
  rcases Nat.lt_or_eq_of_le hk with hl | he
  · rw [ahead_lt hl]
    split
    · exact pass_sim _ h hl
    · exact (stop_sim a a h hk).1
  · rw [ahead_at he, isP_no]
    split
    · exact .esc (pass_esc h he)
    · exact (stop_sim a a h hk).1
set_option maxRecDepth 100000 in
theorem own_sim (k : Int) (hk0 : k ≠ 0) {p : PS} (h : p.err = none) (hk : p.at' ≤ K) : Sim T K (ownP T k p) (ownP (T.take K) k p) := by
  have hn : (noTk.k == k) = false := by simp [noTk_k]; exact fun e => hk0 e.symm
  unfold ownP
  rcases Nat.lt_or_eq_of_le hk with hl | he
  · rw [ahead_lt hl]
    split
    · exact pass_sim _ h hl
    · exact (stop_sim _ [] h hk).1
  · rw [ahead_at he, hn]
    split
    · exact .esc (pass_esc h he)
    · exact (stop_sim _ [] h hk).1
set_option maxRecDepth 100000 in
theorem own_err {T : List Tk} (k : Int) (hk0 : k ≠ 0) {p : PS} (h : p.err ≠ none) : (ownP T k p).2 = p := (adv_own k hk0 p).stay h
set_option maxRecDepth 100000 in
theorem name_sim {p : PS} (h : p.err = none) (hk : p.at' ≤ K) : Sim T K (nameP T p) (nameP (T.take K) p) := by
  unfold nameP
  rcases Nat.lt_or_eq_of_le hk with hl | he
  · rw [ahead_lt hl]
    split
    · exact Sim.bind (x := ((), stopP p)) (y := ((), stopP p)) (f := fun z => ownP T 1 z.2) (g := fun z => ownP (T.take K) 1 z.2) (stop_sim () () h hk).1 (fun z h1 h2 => own_sim 1 (by decide) h1 h2) (fun z => adv_own 1 (by decide) _) (fun z => adv_own 1 (by decide) _)
    · exact own_sim 1 (by decide) h hk
  · have e2 : (ownP (T.take K) 1 p).2 = stopP p := by
      unfold ownP; rw [ahead_at he]; rfl
    have es : (stopP p).err = some (2, K) := by simp [stopP, failP, h, he]
    have hkn : keptB noTk.s = false := by decide
    rw [ahead_at he, hkn]
    simp only [Bool.false_eq_true, if_false]
    split
    · refine .inr (.inl ⟨?_, by rw [e2]; exact es⟩)
      rw [own_err 1 (by decide) (by rw [es]; simp)]; exact es
    · exact own_sim 1 (by decide) h hk
set_option maxRecDepth 100000 in
theorem who_sim (z : List UInt8 × PS) (h1 : z.2.err = none) (h2 : z.2.at' ≤ K) : Sim T K (z.1, if z.1 = [] then stopP z.2 else z.2) (z.1, if z.1 = [] then stopP z.2 else z.2) := by
  by_cases h : z.1 = []
  · rw [if_pos h]; exact (stop_sim z.1 z.1 h1 h2).1
  · rw [if_neg h]; exact .same _ h1 h2
set_option maxRecDepth 100000 in
theorem dot_sim {x y : List UInt8 × PS} (h : Sim T K x y) : Sim T K (x.1, needsP T kDot x.2) (y.1, needsP (T.take K) kDot y.2) :=
  Sim.bind (f := fun y : List UInt8 × PS => (y.1, needsP T kDot y.2)) (g := fun y => (y.1, needsP (T.take K) kDot y.2)) h (fun y h1 h2 => needs_sim y.1 kDot h1 h2) (fun _ => adv_needs _ _) (fun _ => adv_needs _ _)
set_option maxRecDepth 100000 in
theorem pair_sim {α : Type} {x y : List UInt8 × PS} (a : α) (h : Sim T K x y) : Sim T K ((a, x.1), x.2) ((a, y.1), y.2) :=
  Sim.bind (f := fun u : List UInt8 × PS => ((a, u.1), u.2)) (g := fun u => ((a, u.1), u.2)) h (fun _ h1 h2 => .same _ h1 h2) (fun _ => .refl _) (fun _ => .refl _)
set_option maxRecDepth 100000 in
theorem behind_sim {x y : List UInt8 × PS} (h : Sim T K x y) : Sim T K ((x.1, (nameP T x.2).1), (nameP T x.2).2) ((y.1, (nameP (T.take K) y.2).1), (nameP (T.take K) y.2).2) :=
  Sim.bind (f := fun y : List UInt8 × PS => ((y.1, (nameP T y.2).1), (nameP T y.2).2)) (g := fun y => ((y.1, (nameP (T.take K) y.2).1), (nameP (T.take K) y.2).2)) h (fun y h1 h2 => pair_sim y.1 (name_sim h1 h2)) (fun _ => adv_name _) (fun _ => adv_name _)
set_option maxRecDepth 100000 in
theorem attribute_sim {p : PS} (h : p.err = none) (hk : p.at' ≤ K) : Sim T K (attributeP T p) (attributeP (T.take K) p) := by
  unfold attributeP
  exact Sim.bind (f := attrTail T) (g := attrTail (T.take K)) (takesOne_sim whoL h hk) (fun z h1 h2 => by
    have s0 := who_sim (T := T) z h1 h2
    have s1 := dot_sim s0
    have s2 := behind_sim s1
    exact s2) adv_attrTail adv_attrTail
set_option maxRecDepth 100000 in
theorem attr_sim (op : List UInt8) {p : PS} (h : p.err = none) (hk : p.at' ≤ K) : Sim T K (attrP T op p) (attrP (T.take K) op p) := by
  unfold attrP
  exact Sim.bind (f := fun u : (List UInt8 × List UInt8) × PS => (attrT op u.1.1 u.1.2, u.2)) (g := fun u => (attrT op u.1.1 u.1.2, u.2)) (attribute_sim h hk) (fun u h1 h2 => .same _ h1 h2) (fun u => .refl _) (fun u => .refl _)
set_option maxRecDepth 100000 in
theorem lit_no : litP noTk = none := rfl
set_option maxRecDepth 100000 in
theorem member_sim {p : PS} (h : p.err = none) (hk : p.at' ≤ K) : Sim T K (memberP T p) (memberP (T.take K) p) := by
  unfold memberP
  rcases Nat.lt_or_eq_of_le hk with hl | he
  · rw [ahead_lt hl]
    split
    · have h1 : (passP p).err = none := h
      have h2 : (passP p).at' ≤ K := by simp only [passP]; omega
      generalize passP p = q at *
      rcases Nat.lt_or_eq_of_le h2 with hl2 | he2
      · rw [ahead_lt hl2]
        split
        · exact pass_sim _ h1 hl2
        · exact (stop_sim _ noVal h1 h2).1
      · rw [ahead_at he2]
        rw [if_neg (show ¬ (noTk.k == 2) = true by decide)]
        split
        · exact .esc (pass_esc h1 he2)
        · exact (stop_sim _ noVal h1 h2).1
    · split
      · exact pass_sim _ h hl
      · exact (stop_sim _ noVal h hk).1
  · rw [ahead_at he, isP_no, lit_no]
    simp only [Bool.false_eq_true, if_false]
    split
    · have := pass_esc (T := T) h he
      split
      · rename_i h2
        exact .esc (this.adv (adv_pass (by intro e; rw [e] at h2; cases h2)))
      · exact .esc (this.adv (adv_stop _))
    · split
      · exact .esc (pass_esc h he)
      · exact (stop_sim _ noVal h hk).1
set_option maxRecDepth 100000 in
theorem members_sim : ∀ (n : Nat) (x : List Val × PS), x.2.err = none → x.2.at' ≤ K → Sim T K (membersP T n x) (membersP (T.take K) n x)
  | 0, x, h, hk => .same x.1 h hk
  | n + 1, x, h, hk => by
    unfold membersP
    rcases Nat.lt_or_eq_of_le hk with hl | he
    · rw [ahead_lt hl]
      split
      · have h1 : (passP x.2).err = none := h
        have h2 : (passP x.2).at' ≤ K := by simp only [passP]; omega
        exact Sim.bind (f := fun z : Val × PS => membersP T n (x.1 ++ [z.1], z.2)) (g := fun z => membersP (T.take K) n (x.1 ++ [z.1], z.2)) (member_sim h1 h2) (fun z h3 h4 => members_sim n _ h3 h4) (fun z => adv_members n _ _) (fun z => adv_members n _ _)
      · exact .same x.1 h hk
    · rw [ahead_at he, isP_no]
      split
      · exact .esc (((pass_esc (T := T) h he).adv (adv_member _)).adv (adv_members n _ _))
      · exact .same x.1 h hk
set_option maxRecDepth 100000 in
theorem members_n : ∀ (n m : Nat) (x : List Val × PS), T.length < x.2.at' + n → T.length < x.2.at' + m → membersP T n x = membersP T m x
  | 0, m, x, h, h' => by
    cases m with
    | zero => rfl
    | succ m =>
      have hk : isP (aheadP T x.2) kComma = false := by
        rw [Bool.eq_false_iff]; intro hc
        obtain ⟨-, hl, -⟩ := ahead_ne (isP_ne hc)
        omega
      unfold membersP; rw [hk]; rfl
  | n + 1, 0, x, h, h' => by
      have hk : isP (aheadP T x.2) kComma = false := by
        rw [Bool.eq_false_iff]; intro hc
        obtain ⟨-, hl, -⟩ := ahead_ne (isP_ne hc)
        omega
      unfold membersP; rw [hk]; rfl
  | n + 1, m + 1, x, h, h' => by
    unfold membersP
    split
    · have hm := (adv_member (T := T) (passP x.2)).mono
      have hp : (passP x.2).at' = x.2.at' + 1 := rfl
      exact members_n n m _ (by simp only; omega) (by simp only; omega)
    · rfl
set_option maxRecDepth 100000 in
theorem bag_sim {p : PS} (h : p.err = none) (hl : p.at' < K) (hb : ∃ t, T[p.at']? = some t ∧ t.k = 5 ∧ t.s = kOpen) : Sim T K (bagP T (passP p)) (bagP (T.take K) (passP p)) := by
  have h1 : (passP p).err = none := h
  have h2 : (passP p).at' ≤ K := by simp only [passP]; omega
  have hpos : (passP p).at' - 1 = p.at' := by simp [passP]
  unfold bagP
  rw [hpos]
  have hn : membersP (T.take K) ((T.take K).length + 1) ([(memberP (T.take K) (passP p)).1], (memberP (T.take K) (passP p)).2) = membersP (T.take K) (T.length + 1) ([(memberP (T.take K) (passP p)).1], (memberP (T.take K) (passP p)).2) :=
    members_n _ _ _ (by omega) (by simp only [List.length_take]; omega)
  rw [hn]
  have s1 : Sim T K (membersP T (T.length + 1) ([(memberP T (passP p)).1], (memberP T (passP p)).2)) (membersP (T.take K) (T.length + 1) ([(memberP (T.take K) (passP p)).1], (memberP (T.take K) (passP p)).2)) :=
    Sim.bind (f := fun z : Val × PS => membersP T (T.length + 1) ([z.1], z.2)) (g := fun z => membersP (T.take K) (T.length + 1) ([z.1], z.2)) (member_sim h1 h2) (fun z h3 h4 => members_sim _ _ h3 h4) (fun z => adv_members _ _ _) (fun z => adv_members _ _ _)
  refine Sim.bindE (f := bagTail T p.at') (g := bagTail (T.take K) p.at') s1 ?_ ?_ ?_ ?_
  · intro x h3 h4
    have hne := needs_sim (valT (bagV x.1)) (T := T) kClose h3 h4
    unfold bagTail
    split
    · exact hne
    · rcases hne with ⟨e1, e2, e3⟩ | ⟨e1, e2⟩ | e1
      · simp only [Prod.mk.injEq, true_and] at e3
        rw [e3]
        exact .esc (.inr ⟨2, p.at', by simp only at e1; simp [failP, e1], .inl (by omega)⟩)
      · exact .inr (.inl ⟨by simp only at e1; simp [failP, e1], by simp only at e2; simp [failP, e2]⟩)
      · refine .esc ?_
        rcases e1 with ⟨e1, e2⟩ | ⟨e, pl, e1, e2⟩
        · exact .inr ⟨2, p.at', by simp only at e1; simp [failP, e1], .inl (by omega)⟩
        · exact .inr ⟨e, pl, by simp only at e1; simp [failP, e1], e2⟩
  · intro z hz
    have := (adv_needs (T := T) kClose z.2).stay hz
    unfold bagTail
    simp only
    rw [this]
    split
    · rfl
    · cases hz' : z.2.err with
      | none => exact absurd hz' hz
      | some e => simp [failP, hz']
  · intro z hz
    have := (adv_needs (T := T.take K) kClose z.2).stay hz
    unfold bagTail
    simp only
    rw [this]
    split
    · rfl
    · cases hz' : z.2.err with
      | none => exact absurd hz' hz
      | some e => simp [failP, hz']
  · intro z hz
    have e1 := hz.adv (adv_needs kClose z.2)
    unfold bagTail
    simp only
    split
    · exact e1
    · rcases e1 with ⟨e1, e2⟩ | ⟨e, pl, e1, e2⟩
      · exact .inr ⟨2, p.at', by simp [failP, e1], .inl (by omega)⟩
      · exact .inr ⟨e, pl, by simp [failP, e1], e2⟩
/-- both functions that read go side by side -/
def SimF (T : List Tk) (K : Nat) (f g : PS → Tr × PS) : Prop := Reads1 T f ∧ Reads1 (T.take K) g ∧ ∀ p, p.err = none → p.at' ≤ K → Sim T K (f p) (g p)
set_option maxRecDepth 100000 in
theorem loop_sim {f g : PS → Tr × PS} (h : SimF T K f g) (ops : List (List UInt8)) : ∀ (n : Nat) (x : Tr × PS), x.2.err = none → x.2.at' ≤ K → Sim T K (loopP T f ops n x) (loopP (T.take K) g ops n x)
  | 0, x, h1, h2 => .same x.1 h1 h2
  | n + 1, x, h1, h2 => by
    unfold loopP
    refine Sim.bind (f := fun o : List UInt8 × PS => if o.1 = [] then (x.1, o.2) else loopP T f ops n (mk2 o.1 x.1 (f o.2).1, (f o.2).2))
      (g := fun o : List UInt8 × PS => if o.1 = [] then (x.1, o.2) else loopP (T.take K) g ops n (mk2 o.1 x.1 (g o.2).1, (g o.2).2)) (takesOne_sim ops h1 h2) ?_ ?_ ?_
    · intro o h3 h4
      by_cases h0 : o.1 = []
      · simp only [h0, if_true]; exact .same x.1 h3 h4
      · simp only [h0, if_false]
        exact Sim.bind (f := fun z : Tr × PS => loopP T f ops n (mk2 o.1 x.1 z.1, z.2)) (g := fun z => loopP (T.take K) g ops n (mk2 o.1 x.1 z.1, z.2)) (h.2.2 o.2 h3 h4) (fun z h5 h6 => loop_sim h ops n _ h5 h6) (fun z => adv_loop h.1 ops n _ _) (fun z => adv_loop h.2.1 ops n _ _)
    · intro o
      by_cases h0 : o.1 = []
      · simp only [h0, if_true]; exact .refl _
      · simp only [h0, if_false]; exact (h.1 _).trans (adv_loop h.1 ops n _ _)
    · intro o
      by_cases h0 : o.1 = []
      · simp only [h0, if_true]; exact .refl _
      · simp only [h0, if_false]; exact (h.2.1 _).trans (adv_loop h.2.1 ops n _ _)
set_option maxRecDepth 100000 in
theorem loop_n {f : PS → Tr × PS} (hf : Reads1 T f) (ops : List (List UInt8)) : ∀ (n m : Nat) (x : Tr × PS), T.length < x.2.at' + n → T.length < x.2.at' + m → loopP T f ops n x = loopP T f ops m x := by
  have stop : ∀ x : Tr × PS, T.length ≤ x.2.at' → (takesOneP T ops x.2).1 = [] := by
    intro x hx
    rcases takesOne_cases (T := T) ops x.2 with ⟨h, -⟩ | ⟨s, hs, ht, h⟩
    · rw [h]
    · obtain ⟨-, hl, -⟩ := ahead_ne (isP_ne ht)
      omega
  have stop2 : ∀ x : Tr × PS, T.length ≤ x.2.at' → (takesOneP T ops x.2).2 = x.2 := by
    intro x hx
    rcases takesOne_cases (T := T) ops x.2 with ⟨h, -⟩ | ⟨s, hs, ht, h⟩
    · rw [h]
    · obtain ⟨-, hl, -⟩ := ahead_ne (isP_ne ht)
      omega
  intro n
  induction n with
  | zero =>
    intro m x h h'
    cases m with
    | zero => rfl
    | succ m => unfold loopP; rw [if_pos (stop x (by omega)), stop2 x (by omega)]
  | succ n ih =>
    intro m x h h'
    cases m with
    | zero => unfold loopP; rw [if_pos (stop x (by omega)), stop2 x (by omega)]
    | succ m =>
      unfold loopP
      split
      · rfl
      · rename_i h0
        have hm := (hf (takesOneP T ops x.2).2).mono
        have h1 : x.2.at' + 1 ≤ (takesOneP T ops x.2).2.at' := by
          rcases takesOne_cases (T := T) ops x.2 with ⟨h, -⟩ | ⟨s, hs, ht, h⟩
          · rw [h] at h0; exact absurd rfl h0
          · rw [h]; exact Nat.le_refl _
        exact ih m _ (by show T.length < (f (takesOneP T ops x.2).2).2.at' + n; omega) (by show T.length < (f (takesOneP T ops x.2).2).2.at' + m; omega)
set_option maxRecDepth 100000 in
theorem closed_sim {f g : PS → Tr × PS} (hs : SimF T K f g) {p : PS} (h1 : p.err = none) (h2 : p.at' ≤ K) : Sim T K (closedP T (f p)) (closedP (T.take K) (g p)) :=
  Sim.bind (f := fun z : Tr × PS => closedP T z) (g := fun z => closedP (T.take K) z) (hs.2.2 p h1 h2) (fun z h3 h4 => needs_sim z.1 kEnd h3 h4) (fun _ => adv_needs _ _) (fun _ => adv_needs _ _)
set_option maxRecDepth 100000 in
theorem call_sim {f g : PS → Tr × PS} (hs : SimF T K f g) (op : List UInt8) : SimF T K (fun p => callP T f op p) (fun p => callP (T.take K) g op p) := by
  refine ⟨adv_call hs.1 op, adv_call hs.2.1 op, fun p h1 h2 => ?_⟩
  unfold callP
  split
  · exact attr_sim kHas h1 h2
  · split
    · exact Sim.bind (f := fun z : List UInt8 × PS => (roleT z.1, z.2)) (g := fun z => (roleT z.1, z.2)) (own_sim 3 (by decide) h1 h2) (fun z h3 h4 => .same _ h3 h4) (fun z => .refl _) (fun z => .refl _)
    · exact Sim.bind (f := fun z : Tr × PS => (mk1 op z.1, z.2)) (g := fun z => (mk1 op z.1, z.2)) (hs.2.2 p h1 h2) (fun z h3 h4 => .same _ h3 h4) (fun z => .refl _) (fun z => .refl _)
set_option maxRecDepth 100000 in
theorem plain_sim {f g : PS → Tr × PS} (hs : SimF T K f g) {p : PS} (h1 : p.err = none) (h2 : p.at' ≤ K) : Sim T K (plainP T f p) (plainP (T.take K) g p) := by
  have hA := adv_plain hs.1 p
  unfold plainP at hA ⊢
  rcases Nat.lt_or_eq_of_le h2 with hl | he
  · rw [ahead_lt hl]
    split
    · exact pass_sim _ h1 hl
    · split
      · exact attr_sim kAttr h1 h2
      · simp only
        have to := takesOne_cases (T := T.take K) plainOps p
        rw [ahead_lt hl] at to
        rcases takesOne_cases (T := T) plainOps p with ⟨h, hn⟩ | ⟨s, hsm, ht, h⟩
        · have e2 : takesOneP (T.take K) plainOps p = ([], p) := by
            rcases to with ⟨e, -⟩ | ⟨s, hsm, ht, -⟩
            · exact e
            · rw [hn s hsm] at ht; cases ht
          rw [h, e2]
          simpa using (stop_sim noTr noTr h1 h2).1
        · have e2 : takesOneP (T.take K) plainOps p = (s, passP p) := by
            rcases to with ⟨-, e⟩ | ⟨s', hsm', ht', e⟩
            · rw [e s hsm] at ht; cases ht
            · rw [e]
              have : s' = s := by
                simp only [isP, Bool.and_eq_true, beq_iff_eq] at ht ht'
                rw [← ht.2, ht'.2]
              rw [this]
          rw [h, e2]
          simp only
          have h1' : (passP p).err = none := h1
          have h2' : (passP p).at' ≤ K := by simp only [passP]; omega
          split
          · exact .same _ h1' h2'
          · split
            · rename_i hso
              obtain ⟨-, hlt, ha, hf⟩ := ahead_ne (isP_ne ht)
              refine bag_sim h1 hl ⟨T[p.at'], List.getElem?_eq_getElem hlt, ?_⟩
              rw [ha] at ht
              simp only [isP, Bool.and_eq_true, Bool.or_eq_true, beq_iff_eq] at ht
              have hs : T[p.at'].s = kOpen := ht.2.trans hso
              refine ⟨?_, hs⟩
              rcases ht.1 with h1 | h5
              · exfalso
                unfold formB at hf
                rw [if_pos h1, hs] at hf
                have : wordB kOpen = false := by decide
                rw [this] at hf
                simp at hf
              · exact h5
            · split
              · exact closed_sim hs h1' h2'
              · split
                · exact (stop_sim noTr noTr h1' h2').1
                · have hc := call_sim hs s
                  have hnc : SimF T K (fun p => callP T f s (needsP T kPar p)) (fun p => callP (T.take K) g s (needsP (T.take K) kPar p)) := by
                    refine ⟨fun p => (adv_needs _ _).trans (hc.1 _), fun p => (adv_needs _ _).trans (hc.2.1 _), fun p h3 h4 => ?_⟩
                    have s0 := needs_sim (T := T) () kPar h3 h4
                    have r := Sim.bind (f := fun z : Unit × PS => callP T f s z.2) (g := fun z : Unit × PS => callP (T.take K) g s z.2) s0 (fun z h5 h6 => hc.2.2 _ h5 h6) (fun z => hc.1 _) (fun z => hc.2.1 _)
                    exact r
                  have s1 := closed_sim hnc h1' h2'
                  exact s1
  · have e2 : plainP (T.take K) g p = (noTr, stopP p) := by
      unfold plainP
      have hto : takesOneP (T.take K) plainOps p = ([], p) := by
        rcases takesOne_cases (T := T.take K) plainOps p with ⟨e, -⟩ | ⟨s, hsm, ht, -⟩
        · exact e
        · rw [ahead_at he, isP_no] at ht; cases ht
      rw [ahead_at he, lit_no]
      simp only [hto]
      rfl
    unfold plainP at e2
    rw [e2]
    split
    · exact .esc (pass_esc h1 he)
    · split
      · -- an attribute: it goes beyond, or stops here
        have es : (stopP p).err = some (2, K) := by simp [stopP, failP, h1, he]
        rcases takesOne_cases (T := T) whoL p with ⟨h, -⟩ | ⟨s, hsm, ht, h⟩
        · refine .inr (.inl ⟨?_, es⟩)
          have e1 : (attrP T kAttr p).2 = (nameP T (needsP T kDot (stopP p))).2 := by
            unfold attrP attributeP attrTail
            rw [h]
            simp
          rw [e1, (adv_name _).stay (by rw [(adv_needs (T := T) kDot (stopP p)).stay (by rw [es]; simp), es]; simp), (adv_needs (T := T) kDot (stopP p)).stay (by rw [es]; simp)]
          exact es
        · refine .esc ?_
          have e1 : (attrP T kAttr p).2 = (attrTail T (s, passP p)).2 := by
            unfold attrP attributeP
            rw [h]
          rw [e1]
          exact (pass_esc (T := T) h1 he).adv (adv_attrTail (s, passP p))
      · simp only
        rcases takesOne_cases (T := T) plainOps p with ⟨h, hn⟩ | ⟨s, hsm, ht, h⟩
        · rw [h]
          simpa using (stop_sim noTr noTr h1 h2).1
        · rw [h]
          have E := pass_esc (T := T) h1 he
          have hne : s ≠ [] := by intro e; subst e; revert hsm; decide
          simp only [hne, if_false]
          refine .esc ?_
          split
          · exact E
          · split
            · rename_i hso
              have hmono : (passP p).at' ≤ (bagP T (passP p)).2.at' := by
                have h3 : (passP p).at' ≤ (needsP T kClose (membersP T (T.length + 1) ([(memberP T (passP p)).1], (memberP T (passP p)).2)).2).at' :=
                  (((adv_member (T := T) (passP p)).trans (adv_members _ _ _)).trans (adv_needs kClose _)).mono
                unfold bagP bagTail
                dsimp only
                split
                · exact h3
                · unfold failP
                  split
                  · exact h3
                  · exact h3
              have hpk : (passP p).at' = p.at' + 1 := rfl
              cases hq : (bagP T (passP p)).2.err with
              | none => exact .inl ⟨hq, by omega⟩
              | some x =>
                refine .inr ⟨x.1, x.2, hq, .inr ?_⟩
                obtain ⟨-, hlt, ha, hf⟩ := ahead_ne (isP_ne ht)
                refine ⟨T[p.at'], by rw [← he]; exact List.getElem?_eq_getElem hlt, ?_⟩
                rw [ha] at ht
                simp only [isP, Bool.and_eq_true, Bool.or_eq_true, beq_iff_eq] at ht
                have hs : T[p.at'].s = kOpen := ht.2.trans hso
                refine ⟨?_, hs⟩
                rcases ht.1 with h1 | h5
                · exfalso
                  unfold formB at hf
                  rw [if_pos h1, hs] at hf
                  have : wordB kOpen = false := by decide
                  rw [this] at hf
                  simp at hf
                · exact h5
            · split
              · exact E.adv ((hs.1 _).trans (adv_needs _ _))
              · exact E.adv (((adv_needs _ _).trans (adv_call hs.1 _ _)).trans (adv_needs _ _))
set_option maxRecDepth 100000 in
theorem one_sim {f g : PS → Tr × PS} (hs : SimF T K f g) (op : List UInt8) {p : PS} (h1 : p.err = none) (h2 : p.at' ≤ K) : Sim T K (mk1 op (f p).1, (f p).2) (mk1 op (g p).1, (g p).2) :=
  Sim.bind (f := fun z : Tr × PS => (mk1 op z.1, z.2)) (g := fun z : Tr × PS => (mk1 op z.1, z.2)) (hs.2.2 p h1 h2) (fun _ h3 h4 => .same _ h3 h4) (fun _ => .refl _) (fun _ => .refl _)
set_option maxRecDepth 100000 in
theorem row_sim {f g : PS → Tr × PS} (hs : SimF T K f g) (ops : List (List UInt8)) {p : PS} (h1 : p.err = none) (h2 : p.at' ≤ K) : Sim T K (loopP T f ops (T.length + 1) (f p)) (loopP (T.take K) g ops ((T.take K).length + 1) (g p)) := by
  have hn := loop_n (T := T.take K) hs.2.1 ops ((T.take K).length + 1) (T.length + 1) (g p) (by omega) (by simp only [List.length_take]; omega)
  rw [hn]
  have s0 := hs.2.2 p h1 h2
  have r := Sim.bind (f := fun z : Tr × PS => loopP T f ops (T.length + 1) z) (g := fun z : Tr × PS => loopP (T.take K) g ops (T.length + 1) z) s0 (fun z h3 h4 => loop_sim hs ops _ z h3 h4) (fun z => adv_loop hs.1 ops _ z.1 z.2) (fun z => adv_loop hs.2.1 ops _ z.1 z.2)
  exact r
set_option maxRecDepth 100000 in
theorem pre_sim {f g f' g' : PS → Tr × PS} (hs : SimF T K f g) (hs' : SimF T K f' g') (w op : List UInt8) {p : PS} (h1 : p.err = none) (h2 : p.at' ≤ K) :
    Sim T K (if isP (aheadP T p) w then (mk1 op (f (passP p)).1, (f (passP p)).2) else f' p) (if isP (aheadP (T.take K) p) w then (mk1 op (g (passP p)).1, (g (passP p)).2) else g' p) := by
  rcases Nat.lt_or_eq_of_le h2 with hl | he
  · rw [ahead_lt hl]
    by_cases hi : isP (aheadP T p) w = true
    · rw [if_pos hi, if_pos hi]
      exact one_sim hs op (p := passP p) h1 (by simp only [passP]; omega)
    · rw [if_neg hi, if_neg hi]
      exact hs'.2.2 p h1 h2
  · rw [ahead_at he, isP_no]
    simp only [Bool.false_eq_true, if_false]
    by_cases hi : isP (aheadP T p) w = true
    · rw [if_pos hi]
      exact .esc ((pass_esc (T := T) h1 he).adv (hs.1 _))
    · rw [if_neg hi]
      exact hs'.2.2 p h1 h2
def cmpTail (_T : List Tk) (f : PS → Tr × PS) (a : Tr) (o : List UInt8 × PS) : Tr × PS := if o.1 = [] then (a, o.2) else (mk2 o.1 a (f o.2).1, (f o.2).2)
set_option maxRecDepth 100000 in
theorem cmp_tail (T : List Tk) (f : PS → Tr × PS) (a : Tr × PS) : (if (takesOneP T cmpOps a.2).1 = [] then a else (mk2 (takesOneP T cmpOps a.2).1 a.1 (f (takesOneP T cmpOps a.2).2).1, (f (takesOneP T cmpOps a.2).2).2)) = cmpTail T f a.1 (takesOneP T cmpOps a.2) := by
  unfold cmpTail
  rcases takesOne_cases (T := T) cmpOps a.2 with ⟨h, -⟩ | ⟨s, hs, -, h⟩
  · rw [h]
  · rw [h]
    have hne : s ≠ [] := by intro e; subst e; revert hs; decide
    simp [hne]
set_option maxRecDepth 100000 in
theorem adv_cmpTail {T : List Tk} {f : PS → Tr × PS} (hf : Reads1 T f) (a : Tr) (o : List UInt8 × PS) : Adv T o.2 (cmpTail T f a o).2 := by
  unfold cmpTail
  split
  · exact .refl _
  · exact hf _
set_option maxRecDepth 100000 in
theorem cmpTail_sim {f g : PS → Tr × PS} (hs : SimF T K f g) (a : Tr) (o : List UInt8 × PS) (h1 : o.2.err = none) (h2 : o.2.at' ≤ K) : Sim T K (cmpTail T f a o) (cmpTail (T.take K) g a o) := by
  unfold cmpTail
  by_cases h : o.1 = []
  · rw [if_pos h, if_pos h]; exact .same a h1 h2
  · rw [if_neg h, if_neg h]
    exact Sim.bind (f := fun z : Tr × PS => (mk2 o.1 a z.1, z.2)) (g := fun z : Tr × PS => (mk2 o.1 a z.1, z.2)) (hs.2.2 o.2 h1 h2) (fun z h3 h4 => .same _ h3 h4) (fun z => .refl _) (fun z => .refl _)
set_option maxRecDepth 100000 in
theorem cmp_sim {f g : PS → Tr × PS} (hs : SimF T K f g) {p : PS} (h1 : p.err = none) (h2 : p.at' ≤ K) : Sim T K (cmpTail T f (f p).1 (takesOneP T cmpOps (f p).2)) (cmpTail (T.take K) g (g p).1 (takesOneP (T.take K) cmpOps (g p).2)) := by
  have s0 := hs.2.2 p h1 h2
  have r := Sim.bind (f := fun z : Tr × PS => cmpTail T f z.1 (takesOneP T cmpOps z.2)) (g := fun z : Tr × PS => cmpTail (T.take K) g z.1 (takesOneP (T.take K) cmpOps z.2)) s0 (fun z h3 h4 => by
    have s1 := takesOne_sim (T := T) cmpOps h3 h4
    have r1 := Sim.bind (f := fun o : List UInt8 × PS => cmpTail T f z.1 o) (g := fun o : List UInt8 × PS => cmpTail (T.take K) g z.1 o) s1 (fun o h5 h6 => cmpTail_sim hs z.1 o h5 h6) (fun o => adv_cmpTail hs.1 z.1 o) (fun o => adv_cmpTail hs.2.1 z.1 o)
    exact r1) (fun z => (adv_takesOne _ _).trans (adv_cmpTail hs.1 _ _)) (fun z => (adv_takesOne _ _).trans (adv_cmpTail hs.2.1 _ _))
  exact r
set_option maxRecDepth 100000 in
theorem step_sim {a b : Lv → PS → Tr × PS} (h : ∀ lv, SimF T K (a lv) (b lv)) (lv : Lv) : SimF T K (stepP T a lv) (stepP (T.take K) b lv) := by
  refine ⟨adv_step (fun l => (h l).1) lv, adv_step (fun l => (h l).2.1) lv, fun p h1 h2 => ?_⟩
  cases lv <;> unfold stepP <;> simp only
  · exact row_sim (h .ands) _ h1 h2
  · exact row_sim (h .nots) _ h1 h2
  · exact pre_sim (h .nots) (h .cmp) kNot kNot h1 h2
  · rw [cmp_tail, cmp_tail]; exact cmp_sim (h .sum) h1 h2
  · exact row_sim (h .prod) _ h1 h2
  · exact row_sim (h .neg) _ h1 h2
  · exact pre_sim (h .neg) (h .plain) kMinus kNeg h1 h2
  · exact plain_sim (h .ors) h1 h2
set_option maxRecDepth 100000 in
theorem fuel_sim : ∀ (f : Nat) (lv : Lv), SimF T K (fuelP T f lv) (fuelP (T.take K) f lv)
  | 0, _ => ⟨adv_fuel 0 _, adv_fuel 0 _, fun _ h1 h2 => .same noTr h1 h2⟩
  | f + 1, lv => step_sim (fuel_sim f) lv
set_option maxRecDepth 100000 in
theorem expr_sim (lv : Lv) {p : PS} (h1 : p.err = none) (h2 : p.at' ≤ K) : Sim T K (exprP T lv p) (exprP (T.take K) lv p) := by
  have e : exprP (T.take K) lv p = fuelP (T.take K) (8 * (T.length + 1)) lv p := by
    refine fuel_eq _ _ lv p (mu_lt lv p) ?_
    have := mu_lt (T := T.take K) lv p
    have hl : (T.take K).length ≤ T.length := by simp only [List.length_take]; omega
    omega
  rw [e]
  exact (fuel_sim _ lv).2.2 p h1 h2
end
end Go.Proofs.YtllgodaphoncnaaGreatDoor
namespace Go.Proofs.YtllgodaphoncnaaGreatDoor

set_option maxRecDepth 100000 in
theorem stop_at (p : PS) : (stopP p).at' = p.at' := by unfold stopP failP; split <;> rfl
set_option maxRecDepth 100000 in
theorem stop_none {p : PS} (h : p.err = none) : (stopP p).err = some (2, p.at') := by simp [stopP, failP, h]
set_option maxRecDepth 100000 in
theorem stop_some {p : PS} {x : Int × Nat} (h : p.err = some x) : (stopP p).err = some x := by simp [stopP, failP, h]
set_option maxRecDepth 100000 in
/-- the place that is told is among the tokens, and what is ahead of it is not to blame -/
theorem first_ok {T : List Tk} (hT : T.length ≤ 600) (h2 : (parseM T).2.2 = 2) : (parseM T).2.1 ≤ T.length ∧ (∀ t, T[(parseM T).2.1]? = some t → t.k = 5 → t.s = kOpen → False) →
    ((parseM (T.take (parseM T).2.1)).2.2 = 2 ∧ (parseM (T.take (parseM T).2.1)).2.1 = (parseM T).2.1) ∨ (parseM (T.take (parseM T).2.1)).2.2 = 11 ∨ (parseM (T.take (parseM T).2.1)).2.2 = 0 := by
  rintro ⟨hle, hno⟩
  obtain ⟨K, hK⟩ : ∃ K, (parseM T).2.1 = K := ⟨_, rfl⟩
  rw [hK] at hle hno ⊢
  have hl : (T.take K).length = K := by simp only [List.length_take]; omega
  have hs := expr_sim (T := T) (K := K) .ors (p := ⟨0, none⟩) rfl (Nat.zero_le _)
  have e2 : parseM (T.take K) = (match (if (exprP (T.take K) .ors ⟨0, none⟩).2.at' < K then stopP (exprP (T.take K) .ors ⟨0, none⟩).2 else (exprP (T.take K) .ors ⟨0, none⟩).2).err with
      | some e => (noTr, e.2, e.1)
      | none => if 12 < depthT (exprP (T.take K) .ors ⟨0, none⟩).1 then (noTr, 0, 11) else ((exprP (T.take K) .ors ⟨0, none⟩).1, 0, 0)) := by
    unfold parseM; rw [hl, if_neg (by omega)]; rfl
  have e1 : parseM T = (match (if (exprP T .ors ⟨0, none⟩).2.at' < T.length then stopP (exprP T .ors ⟨0, none⟩).2 else (exprP T .ors ⟨0, none⟩).2).err with
      | some e => (noTr, e.2, e.1)
      | none => if 12 < depthT (exprP T .ors ⟨0, none⟩).1 then (noTr, 0, 11) else ((exprP T .ors ⟨0, none⟩).1, 0, 0)) := by
    unfold parseM; rw [if_neg (by omega)]; rfl
  generalize exprP (T.take K) .ors ⟨0, none⟩ = y at *
  generalize exprP T .ors ⟨0, none⟩ = x at *
  have key : (y.2.err = some (2, K)) ∨ (y.2.err = none ∧ y.2.at' = K) := by
    cases hx : x.2.err with
    | some e =>
      have e3 : parseM T = (noTr, e.2, e.1) := by
        rw [e1]
        split
        · rename_i z hz
          split at hz
          · rw [stop_some hx] at hz; obtain rfl := Option.some.inj hz; rfl
          · rw [hx] at hz; obtain rfl := Option.some.inj hz; rfl
        · rename_i hz
          split at hz
          · rw [stop_some hx] at hz; cases hz
          · rw [hx] at hz; cases hz
      rw [e3] at hK h2
      simp only at hK h2
      rcases hs with ⟨h1, -, -⟩ | ⟨-, h1⟩ | h1
      · rw [hx] at h1; cases h1
      · exact .inl h1
      · exfalso
        rcases h1 with ⟨h1, -⟩ | ⟨e', pl, h1, h3⟩
        · rw [hx] at h1; cases h1
        · rw [hx] at h1
          obtain rfl := Option.some.inj h1
          rcases h3 with h3 | ⟨t, h3, h4, h5⟩
          · exact h3 hK
          · exact hno t h3 h4 h5
    | none =>
      have hlt : x.2.at' < T.length := by
        rcases Nat.lt_or_ge x.2.at' T.length with h | h
        · exact h
        · exfalso
          rw [e1, if_neg (by omega), hx] at h2
          simp only at h2
          split at h2 <;> simp at h2
      have e3 : parseM T = (noTr, x.2.at', 2) := by
        rw [e1, if_pos hlt, stop_none hx]
      rw [e3] at hK
      simp only at hK
      rcases hs with ⟨-, -, h1⟩ | ⟨h1, -⟩ | h1
      · rw [h1]; exact .inr ⟨hx, hK⟩
      · rw [hx] at h1; cases h1
      · exfalso
        rcases h1 with ⟨-, h1⟩ | ⟨e', pl, h1, -⟩
        · omega
        · rw [hx] at h1; cases h1
  rw [e2]
  rcases key with h1 | ⟨h1, h3⟩
  · have e4 : (if y.2.at' < K then stopP y.2 else y.2).err = some (2, K) := by
      split
      · exact stop_some h1
      · exact h1
    rw [e4]
    exact .inl ⟨rfl, rfl⟩
  · rw [if_neg (by omega), h1]
    simp only
    split
    · exact .inr (.inl rfl)
    · exact .inr (.inr rfl)
set_option maxRecDepth 100000 in
/-- what comes of parsing: an error and a place among the tokens -/
theorem parse_like {T : List Tk} (hT : T.length ≤ 600) : (parseM T).2.1 ≤ T.length ∧ ((parseM T).2.2 = 2 ∨ ((parseM T).2.2 = 11 ∨ (parseM T).2.2 = 0) ∧ (parseM T).2.1 = 0) := by
  have ha := (adv_expr (T := T) .ors ⟨0, none⟩)
  have hl := ha.len (Nat.zero_le _)
  have hp := ha.place rfl
  have e1 : parseM T = (match (if (exprP T .ors ⟨0, none⟩).2.at' < T.length then stopP (exprP T .ors ⟨0, none⟩).2 else (exprP T .ors ⟨0, none⟩).2).err with
      | some e => (noTr, e.2, e.1)
      | none => if 12 < depthT (exprP T .ors ⟨0, none⟩).1 then (noTr, 0, 11) else ((exprP T .ors ⟨0, none⟩).1, 0, 0)) := by
    unfold parseM; rw [if_neg (by omega)]; rfl
  rw [e1]
  generalize exprP T .ors ⟨0, none⟩ = x at *
  split
  · rename_i z hz
    have hz2 : z.2 ≤ T.length ∧ z.1 = 2 := by
      split at hz
      · cases hx : x.2.err with
        | some e =>
          rw [stop_some hx] at hz
          obtain rfl := Option.some.inj hz
          obtain ⟨-, h1, h2⟩ := hp e.1 e.2 hx
          exact ⟨h1 (Nat.zero_le _), h2⟩
        | none =>
          rw [stop_none hx] at hz
          obtain rfl := Option.some.inj hz
          exact ⟨hl, rfl⟩
      · obtain ⟨-, h1, h2⟩ := hp z.1 z.2 hz
        exact ⟨h1 (Nat.zero_le _), h2⟩
    exact ⟨hz2.1, .inl hz2.2⟩
  · split
    · exact ⟨Nat.zero_le _, .inr ⟨.inl rfl, rfl⟩⟩
    · exact ⟨Nat.zero_le _, .inr ⟨.inr rfl, rfl⟩⟩
end Go.Proofs.YtllgodaphoncnaaGreatDoor
namespace Go.Proofs.YtllgodaphoncnaaGreatDoor
open Go.RowKit

open Go.ChangeShapes Go.WideShapes Go.ChangeAt Go.Joins Go.Deep in
set_option maxRecDepth 100000 in
theorem toks_cap {H : Type} {enc : TypeId × Value → H} {w : World} {base : Nat} {held : Bool} {fuel : Nat} {ad : Option Addr} {len cap : Nat} {d : DataW H × List MemPlace} (h : DataW.trod enc Tryz.prog w base (fun _ => true) held fuel 30 [.slice ad len cap] = some d) :
    len ≤ cap ∧ cap ≤ maxLen := by
  rcases open_slice Tryz.underlying30 h with ⟨e, _⟩ | ⟨a, len', cap', m, n, D, Pl, e, hb, hl, hm, _⟩
  · simp only [List.cons.injEq, and_true, Value.slice.injEq] at e
    obtain ⟨rfl, rfl, rfl⟩ := e
    exact ⟨Nat.le_refl _, Nat.zero_le _⟩
  · simp only [List.cons.injEq, and_true, Value.slice.injEq] at e
    obtain ⟨rfl, rfl, rfl⟩ := e
    exact ⟨by omega, by omega⟩
set_option maxRecDepth 100000 in
/-- 'l[:k]' -/
theorem slice_toks (ad : Option Addr) (g o len cap k : Nat) (hk : k ≤ len) (hc : len ≤ cap) (had : 0 < len → ad = some ⟨g, o, none⟩) : ∃ ad', (0 < k → ad' = some ⟨g, o, none⟩) ∧
    ∀ w, (Instr.sliceAt 30 (.slice ad len cap) none (some (.int .i64 (k : Int))) none).run Tryz.prog w = .ok (.slice ad' k cap) w := by
  refine ⟨if cap = 0 then ad else ad.map (·.add 0), fun h => ?_, fun w => ?_⟩
  · rw [had (by omega)]; simp [Addr.add_mid]
  · have e3 : ∀ w, (sizeOf 41).run Tryz.prog w = .ok 3 w := fun _ => by kernel_rfl
    have e1 : Tryz.prog.elem 30 = 41 := by kernel_rfl
    rw [run_sliceAt_slice (P := Tryz.prog) w 30 _ _ _ _ (by kernel_rfl), run_slice_h (P := Tryz.prog) w 30 ad len cap (by kernel_rfl) .i64 k (by omega) (by omega), e1, e3]
    simp [sliced, Result.andThen]
set_option maxRecDepth 100000 in
theorem toks_take {w : World} {ad ad' : Option Addr} {g o : Nat} {l : List Tk} (h : TokAt w ad g o l) (k : Nat) (hk : k ≤ l.length) (had : 0 < k → ad' = some ⟨g, o, none⟩) : TokAt w ad' g o (l.take k) :=
  ⟨fun hne => had (by rcases Nat.eq_zero_or_pos k with rfl | h0
                      · exact absurd rfl hne
                      · exact h0), fun i hi j hj => by
    have hi' : i < l.length := by simp only [List.length_take] at hi; omega
    rw [List.getElem_take]; exact h.cell i hi' j hj⟩
set_option maxRecDepth 100000 in
set_option maxHeartbeats 2000000 in
theorem syntaxFirst_walk (w : World) (hw : LexW w) (h9 : 9 ≤ w.heap.size) (ad : Option Addr) (g o cp : Nat) (l : List Tk) (hr : TokAt w ad g o l) (hop : ∀ x ∈ l, x.Wide) (hm : l.length ≤ maxLen) (hcp : l.length ≤ cp ∧ cp ≤ maxLen) :
    Calls Tryz.prog 5 #[.slice ad l.length cp] w fun e w' => e = .returned (.bool true) ∧ Below w.heap.size w w' := by
  have HAW := Lib.hid (fun W (hb : Below w.heap.size w W) => sawake_any W (hw.below hb) (by have := hb.size; omega))
  have hgl : l ≠ [] → g < w.heap.size := fun hne => by
    have h0 := hr.cell 0 (List.length_pos_iff.2 hne) 0 (by omega)
    exact block_lt_of_cell h0
  have HP := Lib.hid (fun W (hb : Below w.heap.size w W) => parse_any W (hw.below hb) (by have := hb.size; omega) ad g o cp l (hr.below hb (fun _ _ => rfl)) hop hm)
  have HP2 : Hid (∀ W, Below w.heap.size w W → ∀ ad' k, k ≤ l.length → (0 < k → ad' = some ⟨g, o, none⟩) → Calls Tryz.prog 13 #[.slice ad' k cp] W (PostE W (parseM (l.take k)))) := Lib.hid (fun W hb ad' k hk had => by
    have h := parse_any W (hw.below hb) (by have := hb.size; omega) ad' g o cp (l.take k) (toks_take (hr.below hb (fun _ _ => rfl)) k hk had) (fun t ht => hop t (List.mem_of_mem_take ht)) (by simp only [List.length_take]; omega)
    rwa [show (l.take k).length = k by simp only [List.length_take]; omega] at h)
  have HAD := Lib.hid hr.addr
  have HCE := Lib.hid (fun W (hb : Below w.heap.size w W) => (hr.below hb (fun _ _ => rfl)).cell)
  have HLIKE := Lib.hid (fun h : l.length ≤ 600 => parse_like h)
  have HFIRST := Lib.hid (fun (h : l.length ≤ 600) h2 => first_ok h h2)
  unfold maxLen at hm hcp
  obtain ⟨hcp1, hcp2⟩ := hcp
  clear hr hop hw h9
  by_cases h80 : 80 < l.length
  · have d80 : decide ((80 : Int) < (l.length : Int)) = true := by simp; omega
    have d80P : (80 < l.length) = True := by simp; omega
    clear h80
    go_enter Tryz.func5, Tryz.ntmps5
    go_wp2_with fail
    refine (HAW.out w (Below.refl _ _)).mono ?_
    rintro e w1 ⟨rfl, hb1⟩
    have HB1 := Lib.hid hb1
    clear hb1
    go_wp2_with fail
    refine (HAW.out w1 HB1.out).mono ?_
    rintro e w3 ⟨rfl, hb3⟩
    have HB3 := Lib.hid (HB1.out.trans (hb3.mono HB1.out.size))
    clear hb3
    go_wp2_with fail
    go_ret
    exact ⟨rfl, HB3.out⟩
  have d80 : decide ((80 : Int) < (l.length : Int)) = false := by simp; omega
  have d80P : (80 < l.length) = False := by simp; omega
  have hl80 : l.length ≤ 80 := by omega
  clear h80
  have hlike := HLIKE.out (by omega)
  have hfirst := HFIRST.out (by omega)
  clear HLIKE HFIRST
  obtain ⟨R, hR⟩ : ∃ R, parseM l = R := ⟨_, rfl⟩
  rw [hR] at HP hlike hfirst
  clear hR
  obtain ⟨t, K, f⟩ := R
  simp only at hlike hfirst
  obtain ⟨hK, hf⟩ := hlike
  have HF := Lib.hid hf
  have HFI := Lib.hid hfirst
  clear hfirst hf
  go_enter Tryz.func5, Tryz.ntmps5
  go_wp2_with fail
  refine (HAW.out w (Below.refl _ _)).mono ?_
  rintro e w1 ⟨rfl, hb1⟩
  have HB1 := Lib.hid hb1
  clear hb1
  go_wp2_with fail
  refine (HP.out w1 HB1.out).mono ?_
  rintro e w2 ⟨X, rfl, -, hb2⟩
  have HB2 := Lib.hid (HB1.out.trans (hb2.mono HB1.out.size))
  clear hb2
  simp only
  unfold XV.v
  rcases HF.out with rfl | ⟨rfl | rfl, rfl⟩
  · have HF2 := Lib.hid (HFI.out rfl)
    have HA1 := Lib.hid (HB2.out.alloc HB2.out.size (.cells #[.string X.o, .int .i64 X.x.k, .int .i64 X.x.i, .string X.x.s, .slice X.x.a X.x.n X.x.c, .string X.w, .string X.n, .slice X.a X.l X.c] 27 (0, 0)))
    have HC2 := Lib.hid (HP2.out _ HA1.out ad K hK (fun h => HAD.out (by intro e; rw [e] at hK; simp at hK; omega)))
    obtain ⟨R2, hR2⟩ : ∃ R2, parseM (l.take K) = R2 := ⟨_, rfl⟩
    rw [hR2] at HC2 HF2
    obtain ⟨t2, K2, f2⟩ := R2
    clear HP2 hR2 HFI HF
    go_wp2_with fail
    refine HC2.out.mono ?_
    rintro e w3 ⟨X2, rfl, -, hb3⟩
    have HB3 := Lib.hid (HA1.out.trans (hb3.mono HA1.out.size))
    have HFIN := Lib.hid (HB3.out.alloc HB3.out.size (.cells #[.string X2.o, .int .i64 X2.x.k, .int .i64 X2.x.i, .string X2.x.s, .slice X2.x.a X2.x.n X2.x.c, .string X2.w, .string X2.n, .slice X2.a X2.l X2.c] 27 (0, 0)))
    clear hb3 HC2
    simp only
    unfold XV.v
    by_cases hlt : K < l.length
    · have dK : decide ((K : Int) < (l.length : Int)) = true := by simp; omega
      have dKP : (K < l.length) = True := by simp; omega
      obtain rfl := HAD.out (by intro e; rw [e] at hlt; cases hlt)
      have hc := HCE.out _ HFIN.out K hlt
      obtain ⟨u, hu⟩ : ∃ u, l[K] = u := ⟨_, rfl⟩
      rw [hu] at hc
      have HLU : Hid (l[K]? = some u) := Lib.hid (by rw [List.getElem?_eq_getElem hlt, hu])
      have c0 := hc 0 (by omega)
      have c1 := hc 1 (by omega)
      obtain ⟨uk, us, un⟩ := u
      simp only [Tk.cells, List.getElem?_cons_zero, List.getElem?_cons_succ, Nat.add_zero] at c0 c1
      clear hc hu
      by_cases hk5 : uk = 5
      · subst hk5
        by_cases hs : us = kOpen
        · subst hs
          rw [show st kOpen = ⟨#[91]⟩ from rfl] at c1
          go_wp2_with fail
          go_ret
          exact ⟨rfl, HFIN.out⟩
        · have HG := Lib.hid (HF2.out ⟨hK, fun t ht h1 h2 => by
            rw [HLU.out] at ht
            obtain rfl := Option.some.inj ht
            exact hs h2⟩)
          have hsL : (us == [91]) = false := by simpa using hs
          rw [← toList_st us] at hsL
          obtain ⟨s, hse⟩ : ∃ s, st us = s := ⟨_, rfl⟩
          rw [hse] at c1 hsL
          clear hse HF2
          rcases HG.out with ⟨h1, h2⟩ | h1 | h1
          · subst h1 h2
            go_wp2_with fail
            go_ret
            exact ⟨rfl, HFIN.out⟩
          · subst h1
            go_wp2_with fail
            go_ret
            exact ⟨rfl, HFIN.out⟩
          · subst h1
            go_wp2_with fail
            go_ret
            exact ⟨rfl, HFIN.out⟩
      · have HG := Lib.hid (HF2.out ⟨hK, fun t ht h1 h2 => by
          rw [HLU.out] at ht
          obtain rfl := Option.some.inj ht
          exact hk5 h1⟩)
        have hkD : decide (uk = 5) = false := by simp [hk5]
        have hkP : (uk = 5) = False := eq_false hk5
        clear HF2 hk5
        rcases HG.out with ⟨h1, h2⟩ | h1 | h1
        · subst h1 h2
          go_wp2_with fail
          go_ret
          exact ⟨rfl, HFIN.out⟩
        · subst h1
          go_wp2_with fail
          go_ret
          exact ⟨rfl, HFIN.out⟩
        · subst h1
          go_wp2_with fail
          go_ret
          exact ⟨rfl, HFIN.out⟩
    · have HG := Lib.hid (HF2.out ⟨hK, fun t ht h1 h2 => by
        rw [List.getElem?_eq_none (by omega)] at ht
        cases ht⟩)
      have dK : decide ((K : Int) < (l.length : Int)) = false := by simp; omega
      have dKP : (K < l.length) = False := by simp; omega
      clear HF2 hlt
      rcases HG.out with ⟨h1, h2⟩ | h1 | h1
      · subst h1 h2
        go_wp2_with fail
        go_ret
        exact ⟨rfl, HFIN.out⟩
      · subst h1
        go_wp2_with fail
        go_ret
        exact ⟨rfl, HFIN.out⟩
      · subst h1
        go_wp2_with fail
        go_ret
        exact ⟨rfl, HFIN.out⟩
  · have HA1 := Lib.hid (HB2.out.alloc HB2.out.size (.cells #[.string X.o, .int .i64 X.x.k, .int .i64 X.x.i, .string X.x.s, .slice X.x.a X.x.n X.x.c, .string X.w, .string X.n, .slice X.a X.l X.c] 27 (0, 0)))
    go_wp2_with fail
    go_ret
    exact ⟨rfl, HA1.out⟩
  · have HA1 := Lib.hid (HB2.out.alloc HB2.out.size (.cells #[.string X.o, .int .i64 X.x.k, .int .i64 X.x.i, .string X.x.s, .slice X.x.a X.x.n X.x.c, .string X.w, .string X.n, .slice X.a X.l X.c] 27 (0, 0)))
    go_wp2_with fail
    go_ret
    exact ⟨rfl, HA1.out⟩
end Go.Proofs.YtllgodaphoncnaaGreatDoor
