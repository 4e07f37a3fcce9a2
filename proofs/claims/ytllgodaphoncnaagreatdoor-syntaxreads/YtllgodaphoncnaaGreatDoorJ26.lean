/- Expressions of policies, as plain functions: the reader, and what each level of binding reads; What reading leaves: it goes on, and what went wrong stays. -/
import Derived.Test.YtllgodaphoncnaaGreatDoorJ20
import Derived.Test.YtllgodaphoncnaaGreatDoorJ16
namespace Go.Proofs.YtllgodaphoncnaaGreatDoor

abbrev kOr : List UInt8 := [111, 114]
abbrev kAnd : List UInt8 := [97, 110, 100]
abbrev kNot : List UInt8 := [110, 111, 116]
abbrev kIn : List UInt8 := [105, 110]
abbrev kEq : List UInt8 := [61, 61]
abbrev kNe : List UInt8 := [33, 61]
abbrev kLt : List UInt8 := [60]
abbrev kLe : List UInt8 := [60, 61]
abbrev kGt : List UInt8 := [62]
abbrev kGe : List UInt8 := [62, 61]
abbrev kPlus : List UInt8 := [43]
abbrev kMinus : List UInt8 := [45]
abbrev kStar : List UInt8 := [42]
abbrev kNeg : List UInt8 := [110, 101, 103]
abbrev kNow : List UInt8 := [110, 111, 119]
abbrev kHas : List UInt8 := [104, 97, 115]
abbrev kRole : List UInt8 := [114, 111, 108, 101]
abbrev kSize : List UInt8 := [115, 105, 122, 101]
abbrev kOpen : List UInt8 := [91]
abbrev kClose : List UInt8 := [93]
abbrev kPar : List UInt8 := [40]
abbrev kEnd : List UInt8 := [41]
abbrev kComma : List UInt8 := [44]
abbrev kDot : List UInt8 := [46]
abbrev kTrue : List UInt8 := [116, 114, 117, 101]
abbrev kFalse : List UInt8 := [102, 97, 108, 115, 101]
abbrev kValue : List UInt8 := [118, 97, 108, 117, 101]
abbrev kAttr : List UInt8 := [97, 116, 116, 114]
abbrev kSubject : List UInt8 := [115, 117, 98, 106, 101, 99, 116]
abbrev kResource : List UInt8 := [114, 101, 115, 111, 117, 114, 99, 101]
abbrev kAction : List UInt8 := [97, 99, 116, 105, 111, 110]
abbrev kEnv : List UInt8 := [101, 110, 118]
def keptL : List (List UInt8) := [[102, 97, 99, 116], [116, 114, 117, 116, 104], [110, 117, 109, 98, 101, 114], [116, 101, 120, 116], [116, 105, 109, 101], [98, 97, 103], [117, 115, 101], [112, 111, 108, 105, 99, 121], [98, 121], [102, 111, 114], [112, 101, 114, 109, 105, 116], [100, 101, 110, 121], [105, 102], [100, 117, 116, 121], [97, 100, 118, 105, 99, 101], [116, 114, 117, 101], [102, 97, 108, 115, 101], [110, 111, 119], [111, 114], [97, 110, 100], [110, 111, 116], [105, 110], [104, 97, 115], [114, 111, 108, 101], [115, 105, 122, 101], [115, 117, 98, 106, 101, 99, 116], [114, 101, 115, 111, 117, 114, 99, 101], [97, 99, 116, 105, 111, 110], [101, 110, 118]]
/-- a value as plain data: its kind, number, text, and what is in it -/
structure PV where
  k : Int
  i : Int
  s : ByteArray
  l : List Val
def noPV : PV := ⟨0, 0, ⟨#[]⟩, []⟩
/-- a tree -/
inductive Tr where
  | mk (op : List UInt8) (v : PV) (who name : List UInt8) (ps : List Tr)
instance : Inhabited Tr := ⟨.mk [] noPV [] [] []⟩
def Tr.op : Tr → List UInt8 | .mk o _ _ _ _ => o
def Tr.v : Tr → PV | .mk _ v _ _ _ => v
def Tr.who : Tr → List UInt8 | .mk _ _ w _ _ => w
def Tr.name : Tr → List UInt8 | .mk _ _ _ n _ => n
def Tr.ps : Tr → List Tr | .mk _ _ _ _ p => p
def noTr : Tr := .mk [] noPV [] [] []
def leafT (op : List UInt8) : Tr := .mk op noPV [] [] []
def valT (v : PV) : Tr := .mk kValue v [] [] []
def attrT (op who name : List UInt8) : Tr := .mk op noPV who name []
def roleT (name : List UInt8) : Tr := .mk kRole noPV [] name []
def mk1 (op : List UInt8) (a : Tr) : Tr := .mk op noPV [] [] [a]
def mk2 (op : List UInt8) (a b : Tr) : Tr := .mk op noPV [] [] [a, b]
/-- the reader: how many tokens are read, and what went wrong first, and where -/
structure PS where
  at' : Nat
  err : Option (Int × Nat)
def failP (e : Int) (pl : Nat) (p : PS) : PS := if p.err.isNone then { p with err := some (e, pl) } else p
def stopP (p : PS) : PS := failP 2 p.at' p
def passP (p : PS) : PS := { p with at' := p.at' + 1 }
section
variable (T : List Tk)
/-- the token ahead -/
def aheadP (p : PS) : Tk := if p.err.isSome then noTk else match T[p.at']? with
  | some t => if formB t then t else noTk
  | none => noTk
def isP (t : Tk) (s : List UInt8) : Bool := (t.k == 1 || t.k == 5) && t.s == s
def takesP (s : List UInt8) (p : PS) : Bool × PS := if isP (aheadP T p) s then (true, passP p) else (false, p)
def takesOneP : List (List UInt8) → PS → List UInt8 × PS
  | [], p => ([], p)
  | s :: of, p => if isP (aheadP T p) s then (s, passP p) else takesOneP of p
def needsP (s : List UInt8) (p : PS) : PS := if isP (aheadP T p) s then passP p else stopP p
def ownP (k : Int) (p : PS) : List UInt8 × PS := if (aheadP T p).k == k then ((aheadP T p).s, passP p) else ([], stopP p)
def keptB (s : List UInt8) : Bool := keptL.contains s
def nameP (p : PS) : List UInt8 × PS := ownP T 1 (if keptB (aheadP T p).s then stopP p else p)
def whoL : List (List UInt8) := [kSubject, kResource, kAction, kEnv]
def attrTail (o : List UInt8 × PS) : (List UInt8 × List UInt8) × PS :=
  ((o.1, (nameP T (needsP T kDot (if o.1 = [] then stopP o.2 else o.2))).1), (nameP T (needsP T kDot (if o.1 = [] then stopP o.2 else o.2))).2)
def attributeP (p : PS) : (List UInt8 × List UInt8) × PS := attrTail T (takesOneP T whoL p)
def attrP (op : List UInt8) (p : PS) : Tr × PS := (attrT op (attributeP T p).1.1 (attributeP T p).1.2, (attributeP T p).2)
/-- a literal, if it is one -/
def litP (t : Tk) : Option Val :=
  if t.k == 2 then some ⟨2, t.n, ⟨#[]⟩, none, 0, 0⟩
  else if t.k == 3 then some ⟨3, 0, st t.s, none, 0, 0⟩
  else if t.k == 4 then some ⟨4, t.n, ⟨#[]⟩, none, 0, 0⟩
  else if t.k == 1 && (t.s == kTrue || t.s == kFalse) then some ⟨1, if t.s == kTrue then 1 else 0, ⟨#[]⟩, none, 0, 0⟩
  else none
def noVal : Val := ⟨0, 0, ⟨#[]⟩, none, 0, 0⟩
/-- a bag's item -/
def memberP (p : PS) : Val × PS :=
  if isP (aheadP T p) kMinus then
    (if (aheadP T (passP p)).k == 2 then (⟨2, -(aheadP T (passP p)).n, ⟨#[]⟩, none, 0, 0⟩, passP (passP p)) else (⟨2, 0, ⟨#[]⟩, none, 0, 0⟩, stopP (passP p)))
  else match litP (aheadP T p) with
    | some v => (v, passP p)
    | none => (noVal, stopP p)
def membersP : Nat → List Val × PS → List Val × PS
  | 0, x => x
  | n + 1, x => if isP (aheadP T x.2) kComma then membersP n (x.1 ++ [(memberP T (passP x.2)).1], (memberP T (passP x.2)).2) else x
def bagV (l : List Val) : PV := if bagE l (fun j => l[j]!.alone) = 0 then ⟨5, 0, ⟨#[]⟩, bagTo l⟩ else noPV
/-- a bag, behind its bracket -/
def bagTail (open_ : Nat) (x : List Val × PS) : Tr × PS :=
  (valT (bagV x.1), if bagE x.1 (fun j => x.1[j]!.alone) = 0 then needsP T kClose x.2 else failP 2 open_ (needsP T kClose x.2))
def bagP (p : PS) : Tr × PS := bagTail T (p.at' - 1) (membersP T (T.length + 1) ([(memberP T p).1], (memberP T p).2))
def PV.of (v : Val) : PV := ⟨v.k, v.i, v.s, []⟩
inductive Lv where
  | ors | ands | nots | cmp | sum | prod | neg | plain
def Lv.rank : Lv → Nat
  | .ors => 7 | .ands => 6 | .nots => 5 | .cmp => 4 | .sum => 3 | .prod => 2 | .neg => 1 | .plain => 0
def cmpOps : List (List UInt8) := [kEq, kNe, kLt, kLe, kGt, kGe, kIn]
def plainOps : List (List UInt8) := [kNow, kHas, kRole, kSize, kOpen, kPar]
def closedP (x : Tr × PS) : Tr × PS := (x.1, needsP T kEnd x.2)
def callP (ex : PS → Tr × PS) (op : List UInt8) (p : PS) : Tr × PS :=
  if op = kHas then attrP T kHas p
  else if op = kRole then (roleT (ownP T 3 p).1, (ownP T 3 p).2)
  else (mk1 op (ex p).1, (ex p).2)
def plainP (ex : PS → Tr × PS) (p : PS) : Tr × PS := match litP (aheadP T p) with
  | some v => (valT (PV.of v), passP p)
  | none =>
    if whoL.contains (aheadP T p).s then attrP T kAttr p else
    let o := takesOneP T plainOps p
    if o.1 = kNow then (leafT kNow, o.2)
    else if o.1 = kOpen then bagP T o.2
    else if o.1 = kPar then closedP T (ex o.2)
    else if o.1 = [] then (noTr, stopP o.2)
    else closedP T (callP T ex o.1 (needsP T kPar o.2))
/-- parts with ops between that bind alike, behind the first one -/
def loopP (part : PS → Tr × PS) (ops : List (List UInt8)) : Nat → Tr × PS → Tr × PS
  | 0, x => x
  | n + 1, x => if (takesOneP T ops x.2).1 = [] then (x.1, (takesOneP T ops x.2).2) else loopP part ops n (mk2 (takesOneP T ops x.2).1 x.1 (part (takesOneP T ops x.2).2).1, (part (takesOneP T ops x.2).2).2)
def stepP (rec : Lv → PS → Tr × PS) : Lv → PS → Tr × PS
  | .ors, p => loopP T (rec .ands) [kOr] (T.length + 1) (rec .ands p)
  | .ands, p => loopP T (rec .nots) [kAnd] (T.length + 1) (rec .nots p)
  | .nots, p => if isP (aheadP T p) kNot then (mk1 kNot (rec .nots (passP p)).1, (rec .nots (passP p)).2) else rec .cmp p
  | .cmp, p =>
    let a := rec .sum p
    let o := takesOneP T cmpOps a.2
    if o.1 = [] then a else (mk2 o.1 a.1 (rec .sum o.2).1, (rec .sum o.2).2)
  | .sum, p => loopP T (rec .prod) [kPlus, kMinus] (T.length + 1) (rec .prod p)
  | .prod, p => loopP T (rec .neg) [kStar] (T.length + 1) (rec .neg p)
  | .neg, p => if isP (aheadP T p) kMinus then (mk1 kNeg (rec .neg (passP p)).1, (rec .neg (passP p)).2) else rec .plain p
  | .plain, p => plainP T (rec .ors) p
def fuelP : Nat → Lv → PS → Tr × PS
  | 0, _, p => (noTr, p)
  | f + 1, lv, p => stepP T (fuelP f) lv p
/-- what each level reads -/
def exprP (lv : Lv) (p : PS) : Tr × PS := fuelP T (8 * (T.length + 1)) lv p
def Lv.mu (lv : Lv) (p : PS) : Nat := 8 * (T.length - p.at') + lv.rank
end
end Go.Proofs.YtllgodaphoncnaaGreatDoor
namespace Go.Proofs.YtllgodaphoncnaaGreatDoor

section
variable {T : List Tk}
set_option maxRecDepth 100000 in
theorem ahead_ne {p : PS} (h : (aheadP T p).k ≠ 0) : p.err = none ∧ ∃ h : p.at' < T.length, aheadP T p = T[p.at'] ∧ formB T[p.at'] = true := by
  unfold aheadP at h ⊢
  cases he : p.err with
  | some e => rw [he] at h; exact absurd rfl h
  | none =>
    rw [he] at h
    simp only [Option.isSome_none, Bool.false_eq_true, if_false] at h ⊢
    rcases Nat.lt_or_ge p.at' T.length with hl | hl
    · rw [List.getElem?_eq_getElem hl] at h ⊢
      simp only at h ⊢
      by_cases hf : formB T[p.at'] = true
      · rw [if_pos hf]; exact ⟨trivial, hl, rfl, hf⟩
      · rw [if_neg hf] at h; exact absurd rfl h
    · rw [List.getElem?_eq_none hl] at h; exact absurd rfl h
set_option maxRecDepth 100000 in
theorem isP_ne {t : Tk} {s : List UInt8} (h : isP t s = true) : t.k ≠ 0 := by
  intro e; simp [isP, e] at h
set_option maxRecDepth 100000 in
theorem litP_ne {t : Tk} {v : Val} (h : litP t = some v) : t.k ≠ 0 := by
  intro e; simp [litP, e] at h
set_option maxRecDepth 100000 in
theorem ahead_err {p : PS} (h : p.err ≠ none) : aheadP T p = noTk := by
  unfold aheadP; cases he : p.err with
  | none => exact absurd he h
  | some e => rfl
/-- what reading leaves -/
structure Adv (T : List Tk) (p q : PS) : Prop where
  stay : p.err ≠ none → q = p
  mono : p.at' ≤ q.at'
  len : p.at' ≤ T.length → q.at' ≤ T.length
  place : p.err = none → ∀ e pl, q.err = some (e, pl) → p.at' ≤ pl ∧ (p.at' ≤ T.length → pl ≤ T.length) ∧ e = 2
set_option maxRecDepth 100000 in
theorem Adv.refl (p : PS) : Adv T p p := ⟨fun _ => rfl, Nat.le_refl _, id, fun h e pl h' => by rw [h] at h'; cases h'⟩
set_option maxRecDepth 100000 in
theorem Adv.trans {p q r : PS} (h : Adv T p q) (k : Adv T q r) : Adv T p r := by
  refine ⟨fun he => ?_, Nat.le_trans h.mono k.mono, fun hl => k.len (h.len hl), fun he e pl hr => ?_⟩
  · have := h.stay he
    subst this
    exact k.stay he
  · cases hq : q.err with
    | none =>
      obtain ⟨h1, h2, h3⟩ := k.place hq e pl hr
      exact ⟨Nat.le_trans h.mono h1, fun hl => h2 (h.len hl), h3⟩
    | some x =>
      have := k.stay (by rw [hq]; simp)
      subst this
      exact h.place he e pl hr
set_option maxRecDepth 100000 in
theorem adv_stop (p : PS) : Adv T p (stopP p) := by
  unfold stopP failP
  cases he : p.err with
  | none =>
    refine ⟨fun h => absurd he h, Nat.le_refl _, fun hl => hl, fun _ e pl h => ?_⟩
    simp at h
    obtain ⟨rfl, rfl⟩ := h
    exact ⟨Nat.le_refl _, fun hl => hl, rfl⟩
  | some x => simp only [Option.isNone_some, Bool.false_eq_true, if_false]; exact .refl p
set_option maxRecDepth 100000 in
theorem adv_pass {p : PS} (h : (aheadP T p).k ≠ 0) : Adv T p (passP p) := by
  obtain ⟨he, hl, -⟩ := ahead_ne h
  refine ⟨fun h => absurd he h, by simp [passP], fun _ => by simp only [passP]; omega, fun _ e pl h => ?_⟩
  simp [passP, he] at h
set_option maxRecDepth 100000 in
theorem adv_takes (s : List UInt8) (p : PS) : Adv T p (takesP T s p).2 := by
  unfold takesP; split
  · rename_i h; exact adv_pass (isP_ne h)
  · exact .refl p
set_option maxRecDepth 100000 in
theorem adv_takesOne : ∀ (of : List (List UInt8)) (p : PS), Adv T p (takesOneP T of p).2
  | [], p => .refl p
  | s :: of, p => by
    unfold takesOneP; split
    · rename_i h; exact adv_pass (isP_ne h)
    · exact adv_takesOne of p
set_option maxRecDepth 100000 in
theorem adv_needs (s : List UInt8) (p : PS) : Adv T p (needsP T s p) := by
  unfold needsP; split
  · rename_i h; exact adv_pass (isP_ne h)
  · exact adv_stop p
set_option maxRecDepth 100000 in
theorem adv_own (k : Int) (hk : k ≠ 0) (p : PS) : Adv T p (ownP T k p).2 := by
  unfold ownP; split
  · rename_i h; exact adv_pass (by intro e; rw [e] at h; exact hk (by simpa using (beq_iff_eq.1 h).symm))
  · exact adv_stop p
set_option maxRecDepth 100000 in
theorem adv_name (p : PS) : Adv T p (nameP T p).2 := by
  unfold nameP; split
  · exact (adv_stop p).trans (adv_own 1 (by decide) _)
  · exact adv_own 1 (by decide) _
set_option maxRecDepth 100000 in
theorem adv_attrTail (o : List UInt8 × PS) : Adv T o.2 (attrTail T o).2 := by
  unfold attrTail
  refine Adv.trans ?_ ((adv_needs kDot _).trans (adv_name _))
  split
  · exact adv_stop _
  · exact .refl _
set_option maxRecDepth 100000 in
theorem adv_attribute (p : PS) : Adv T p (attributeP T p).2 := (adv_takesOne whoL p).trans (adv_attrTail _)
set_option maxRecDepth 100000 in
theorem adv_member (p : PS) : Adv T p (memberP T p).2 := by
  unfold memberP
  split
  · rename_i h
    refine (adv_pass (isP_ne h)).trans ?_
    split
    · rename_i h2; exact adv_pass (by intro e; rw [e] at h2; cases h2)
    · exact adv_stop _
  · split
    · rename_i h; exact adv_pass (litP_ne h)
    · exact adv_stop _
set_option maxRecDepth 100000 in
theorem adv_members : ∀ (n : Nat) (l : List Val) (p : PS), Adv T p (membersP T n (l, p)).2
  | 0, _, p => .refl _
  | n + 1, l, p => by
    unfold membersP; simp only; split
    · rename_i h; exact ((adv_pass (isP_ne h)).trans (adv_member _)).trans (adv_members n _ _)
    · exact .refl _
set_option maxRecDepth 100000 in
theorem adv_bag {p : PS} (h : (aheadP T p).k ≠ 0) : Adv T p (bagP T (passP p)).2 := by
  have h0 := ahead_ne h
  have h1 : Adv T p (needsP T kClose (membersP T (T.length + 1) ([(memberP T (passP p)).1], (memberP T (passP p)).2)).2) :=
    ((adv_pass h).trans (adv_member _)).trans ((adv_members _ _ _).trans (adv_needs _ _))
  unfold bagP bagTail
  simp only
  generalize needsP T kClose _ = q at *
  split
  · exact h1
  · obtain ⟨he, hl, -⟩ := h0
    unfold failP
    split
    · rename_i hq
      refine ⟨fun h => absurd he h, h1.mono, h1.len, fun _ e pl h => ?_⟩
      simp [passP] at h
      obtain ⟨rfl, rfl⟩ := h
      exact ⟨Nat.le_refl _, fun h => h, rfl⟩
    · exact h1
/-- a function that reads -/
def Reads1 (T : List Tk) (f : PS → Tr × PS) : Prop := ∀ p, Adv T p (f p).2
set_option maxRecDepth 100000 in
theorem adv_loop {part : PS → Tr × PS} (hp : Reads1 T part) (ops : List (List UInt8)) : ∀ (n : Nat) (e : Tr) (p : PS), Adv T p (loopP T part ops n (e, p)).2
  | 0, _, p => .refl _
  | n + 1, e, p => by
    unfold loopP; simp only; split
    · exact adv_takesOne ops _
    · exact ((adv_takesOne ops _).trans (hp _)).trans (adv_loop hp ops n _ _)
set_option maxRecDepth 100000 in
theorem adv_call {ex : PS → Tr × PS} (hp : Reads1 T ex) (op : List UInt8) (p : PS) : Adv T p (callP T ex op p).2 := by
  unfold callP; split
  · exact adv_attribute p
  · split
    · exact adv_own 3 (by decide) p
    · exact hp p
set_option maxRecDepth 100000 in
theorem takesOne_cases (of : List (List UInt8)) (p : PS) : (takesOneP T of p = ([], p) ∧ ∀ s ∈ of, isP (aheadP T p) s = false) ∨ ∃ s ∈ of, isP (aheadP T p) s = true ∧ takesOneP T of p = (s, passP p) := by
  induction of with
  | nil => exact .inl ⟨rfl, fun s hs => by cases hs⟩
  | cons s of ih =>
    unfold takesOneP
    split
    · rename_i h; exact .inr ⟨s, List.mem_cons_self, h, rfl⟩
    · rename_i h
      rcases ih with ⟨h1, h2⟩ | ⟨s', h1, h2, h3⟩
      · refine .inl ⟨h1, fun x hx => ?_⟩
        rcases List.mem_cons.1 hx with rfl | hx
        · simpa using h
        · exact h2 x hx
      · exact .inr ⟨s', List.mem_cons_of_mem _ h1, h2, h3⟩
set_option maxRecDepth 100000 in
theorem adv_plain {ex : PS → Tr × PS} (hp : Reads1 T ex) (p : PS) : Adv T p (plainP T ex p).2 := by
  unfold plainP
  split
  · rename_i h; exact adv_pass (litP_ne h)
  · split
    · exact adv_attribute p
    · simp only
      rcases takesOne_cases (T := T) plainOps p with ⟨h, -⟩ | ⟨s, hs, ht, h⟩
      · rw [h]
        simpa using adv_stop p
      · rw [h]
        have hA := adv_pass (isP_ne ht)
        have hs' : s ≠ [] := by intro e; subst e; revert hs; decide
        simp only [hs', if_false]
        split
        · exact hA
        · split
          · exact adv_bag (isP_ne ht)
          · split
            · exact hA.trans ((hp _).trans (adv_needs _ _))
            · exact hA.trans (((adv_needs _ _).trans (adv_call hp _ _)).trans (adv_needs _ _))
set_option maxRecDepth 100000 in
theorem adv_step {rec : Lv → PS → Tr × PS} (hr : ∀ lv, Reads1 T (rec lv)) (lv : Lv) : Reads1 T (stepP T rec lv) := by
  intro p
  cases lv <;> unfold stepP <;> simp only
  · exact (hr .ands p).trans (adv_loop (hr .ands) _ _ (rec .ands p).1 (rec .ands p).2)
  · exact (hr .nots p).trans (adv_loop (hr .nots) _ _ (rec .nots p).1 (rec .nots p).2)
  · split
    · rename_i h; exact (adv_pass (isP_ne h)).trans (hr .nots _)
    · exact hr .cmp p
  · split
    · exact hr .sum p
    · exact (hr .sum p).trans ((adv_takesOne _ _).trans (hr .sum _))
  · exact (hr .prod p).trans (adv_loop (hr .prod) _ _ (rec .prod p).1 (rec .prod p).2)
  · exact (hr .neg p).trans (adv_loop (hr .neg) _ _ (rec .neg p).1 (rec .neg p).2)
  · split
    · rename_i h; exact (adv_pass (isP_ne h)).trans (hr .neg _)
    · exact hr .plain p
  · exact adv_plain (hr .ors) p
set_option maxRecDepth 100000 in
theorem adv_fuel : ∀ (f : Nat) (lv : Lv), Reads1 T (fuelP T f lv)
  | 0, _ => fun p => .refl p
  | f + 1, lv => adv_step (adv_fuel f) lv
set_option maxRecDepth 100000 in
theorem adv_expr (lv : Lv) : Reads1 T (exprP T lv) := adv_fuel _ lv
/-! the depth of calls doesn't matter -/
set_option maxRecDepth 100000 in
theorem pass_mu {p : PS} (h : (aheadP T p).k ≠ 0) (lv lv' : Lv) : lv'.mu T (passP p) < lv.mu T p := by
  obtain ⟨-, hl, -⟩ := ahead_ne h
  have : lv'.rank ≤ 7 := by cases lv' <;> decide
  simp only [Lv.mu, passP]; omega
set_option maxRecDepth 100000 in
theorem mono_mu {p q : PS} (h : p.at' ≤ q.at') (lv lv' : Lv) (hr : lv'.rank < lv.rank) : lv'.mu T q < lv.mu T p := by
  simp only [Lv.mu]; omega
set_option maxRecDepth 100000 in
theorem loop_congr {a b : PS → Tr × PS} {ops : List (List UInt8)} (ha : Reads1 T a) (m : Nat) (h : ∀ q, m ≤ q.at' → a q = b q) : ∀ (n : Nat) (x : Tr × PS), m ≤ x.2.at' → loopP T a ops n x = loopP T b ops n x
  | 0, x, _ => rfl
  | n + 1, x, hx => by
    have h1 : m ≤ (takesOneP T ops x.2).2.at' := Nat.le_trans hx (adv_takesOne ops x.2).mono
    unfold loopP
    rw [← h _ h1]
    split
    · rfl
    · exact loop_congr ha m h n _ (Nat.le_trans h1 (ha _).mono)
set_option maxRecDepth 100000 in
theorem step_congr {a b : Lv → PS → Tr × PS} (ha : ∀ lv, Reads1 T (a lv)) (lv : Lv) (p : PS) (h : ∀ lv' q, lv'.mu T q < lv.mu T p → a lv' q = b lv' q) : stepP T a lv p = stepP T b lv p := by
  cases lv <;> unfold stepP <;> simp only
  · rw [← h .ands p (mono_mu (Nat.le_refl _) _ _ (by decide))]
    exact loop_congr (ha .ands) p.at' (fun q hq => h .ands q (mono_mu hq _ _ (by decide))) _ _ (ha .ands p).mono
  · rw [← h .nots p (mono_mu (Nat.le_refl _) _ _ (by decide))]
    exact loop_congr (ha .nots) p.at' (fun q hq => h .nots q (mono_mu hq _ _ (by decide))) _ _ (ha .nots p).mono
  · split
    · rename_i hi; rw [h .nots _ (pass_mu (isP_ne hi) _ _)]
    · exact h .cmp p (mono_mu (Nat.le_refl _) _ _ (by decide))
  · rw [← h .sum p (mono_mu (Nat.le_refl _) _ _ (by decide))]
    rw [← h .sum _ (mono_mu (Nat.le_trans (ha .sum p).mono (adv_takesOne cmpOps _).mono) _ _ (by decide))]
  · rw [← h .prod p (mono_mu (Nat.le_refl _) _ _ (by decide))]
    exact loop_congr (ha .prod) p.at' (fun q hq => h .prod q (mono_mu hq _ _ (by decide))) _ _ (ha .prod p).mono
  · rw [← h .neg p (mono_mu (Nat.le_refl _) _ _ (by decide))]
    exact loop_congr (ha .neg) p.at' (fun q hq => h .neg q (mono_mu hq _ _ (by decide))) _ _ (ha .neg p).mono
  · split
    · rename_i hi; rw [h .neg _ (pass_mu (isP_ne hi) _ _)]
    · exact h .plain p (mono_mu (Nat.le_refl _) _ _ (by decide))
  · unfold plainP
    split
    · rfl
    · split
      · rfl
      · simp only
        rcases takesOne_cases (T := T) plainOps p with ⟨he, -⟩ | ⟨s, hs, ht, he⟩
        · rw [he]; simp
        · rw [he]
          have hm := pass_mu (T := T) (isP_ne ht) .plain .ors
          have e1 := h .ors (passP p) hm
          have e2 := h .ors (needsP T kPar (passP p)) (Nat.lt_of_le_of_lt (by have := (adv_needs (T := T) kPar (passP p)).mono; simp only [Lv.mu]; omega) hm)
          simp only [e1, callP, e2]
set_option maxRecDepth 100000 in
theorem fuel_eq : ∀ (f g : Nat) (lv : Lv) (p : PS), lv.mu T p < f → lv.mu T p < g → fuelP T f lv p = fuelP T g lv p
  | 0, _, _, _, h, _ => by omega
  | _, 0, _, _, _, h => by omega
  | f + 1, g + 1, lv, p, hf, hg => by
    show stepP T (fuelP T f) lv p = stepP T (fuelP T g) lv p
    exact step_congr (adv_fuel f) lv p fun lv' q hq => fuel_eq f g lv' q (by omega) (by omega)
set_option maxRecDepth 100000 in
theorem mu_lt (lv : Lv) (p : PS) : lv.mu T p < 8 * (T.length + 1) := by
  have : lv.rank ≤ 7 := by cases lv <;> decide
  simp only [Lv.mu]; omega
set_option maxRecDepth 100000 in
theorem expr_eq (lv : Lv) (p : PS) : exprP T lv p = stepP T (exprP T) lv p := by
  have h : exprP T lv p = stepP T (fuelP T (8 * T.length + 7)) lv p := rfl
  rw [h]
  refine step_congr (adv_fuel _) lv p fun lv' q hq => ?_
  have := mu_lt (T := T) lv p
  exact fuel_eq _ _ lv' q (by omega) (mu_lt lv' q)
end
end Go.Proofs.YtllgodaphoncnaaGreatDoor
