/- A tree's tokens: with all brackets, or with those alone that are needed; The reference: is a tree formed. -/
import Derived.Test.YtllgodaphoncnaaGreatDoorJ46
import Derived.Test.YtllgodaphoncnaaGreatDoorJ48
import Derived.Deep.Cut
import Derived.Deep.CutRange
import Derived.Deep.DeepCutAuto
namespace Go.Proofs.YtllgodaphoncnaaGreatDoor

def tkW (s : List UInt8) : Tk := ⟨1, s, 0⟩
def tkS (s : List UInt8) : Tk := ⟨5, s, 0⟩
def litTk (v : Val) : List Tk :=
  if v.k = 1 then (if v.i = 1 then [tkW kTrue] else [tkW kFalse])
  else if v.k = 2 then (if v.i < 0 then [tkS kMinus, ⟨2, [], -v.i⟩] else [⟨2, [], v.i⟩])
  else if v.k = 3 then [⟨3, v.s.toList, 0⟩] else [⟨4, [], v.i⟩]
def commaTk : List Val → List Tk
  | [] => []
  | [v] => litTk v
  | v :: u :: l => litTk v ++ tkS kComma :: commaTk (u :: l)
def valTk (v : PV) : List Tk := if v.k = 5 then tkS kOpen :: (commaTk v.l ++ [tkS kClose]) else litTk ⟨v.k, v.i, v.s, none, 0, 0⟩
def opTk (op : List UInt8) : Tk := if [kOr, kAnd, kIn].contains op then tkW op else tkS op
def leastM (op : List UInt8) : Int := if strM op = 3 then 4 else strM op
/-- a part's tokens, with brackets where they are needed, or wanted -/
def partTk (full : Bool) (least : Int) (op : List UInt8) (l : List Tk) : List Tk :=
  if decide (least ≤ strM op) && (!full || decide (strM op = 7)) then l else tkS kPar :: (l ++ [tkS kEnd])
def nodeTk (full : Bool) (op : List UInt8) (v : PV) (who name : List UInt8) (os : List (List UInt8)) (ts : List (List Tk)) : List Tk :=
  if op = kValue then valTk v
  else if op = kNow then [tkW kNow]
  else if op = kAttr then [tkW who, tkS kDot, tkW name]
  else if op = kHas then [tkW kHas, tkS kPar, tkW who, tkS kDot, tkW name, tkS kEnd]
  else if op = kRole then [tkW kRole, tkS kPar, ⟨3, name, 0⟩, tkS kEnd]
  else if op = kSize then tkW kSize :: tkS kPar :: (ts[0]! ++ [tkS kEnd])
  else if op = kNot then tkW kNot :: partTk full 2 os[0]! ts[0]!
  else if op = kNeg then tkS kMinus :: partTk full 6 os[0]! ts[0]!
  else partTk full (leastM op) os[0]! ts[0]! ++ opTk op :: partTk full (strM op + 1) os[1]! ts[1]!
mutual
def tokM (full : Bool) : Tr → List Tk
  | .mk op v who name ps => nodeTk full op v who name (ps.map Tr.op) (toksL full ps)
def toksL (full : Bool) : List Tr → List (List Tk)
  | [] => []
  | t :: l => tokM full t :: toksL full l
end
set_option maxRecDepth 100000 in
theorem toksL_map (full : Bool) : ∀ l, toksL full l = l.map (tokM full)
  | [] => rfl
  | t :: l => by rw [toksL, toksL_map full l]; rfl
set_option maxRecDepth 100000 in
theorem commaTk_snoc (x : Val) : ∀ m, commaTk (m ++ [x]) = commaTk m ++ ((if m = [] then [] else [tkS kComma]) ++ litTk x)
  | [] => by simp [commaTk]
  | [v] => by simp [commaTk]
  | v :: u :: l => by
    have ih := commaTk_snoc x (u :: l)
    simp only [List.cons_append] at ih ⊢
    rw [commaTk, commaTk, ih]
    simp
/-! how many of them are plain -/
def pN (l : List Tk) : Nat := (l.filter plnB).length
set_option maxRecDepth 100000 in
theorem pN_append (a b : List Tk) : pN (a ++ b) = pN a + pN b := by simp [pN]
set_option maxRecDepth 100000 in
theorem pN_cons (t : Tk) (l : List Tk) : pN (t :: l) = (plnB t).toNat + pN l := by cases h : plnB t <;> simp [pN, h]; omega
set_option maxRecDepth 100000 in
theorem pN_nil : pN [] = 0 := rfl
set_option maxRecDepth 100000 in
theorem pN_part (full : Bool) (least : Int) (op : List UInt8) (l : List Tk) : pN (partTk full least op l) = pN l := by
  unfold partTk
  split
  · rfl
  · rw [pN_cons, pN_append, pN_cons, pN_nil, show plnB (tkS kPar) = false by decide, show plnB (tkS kEnd) = false by decide]
    simp
set_option maxRecDepth 100000 in
theorem pN_lit (v : Val) : pN (litTk v) = 0 := by
  unfold litTk
  split
  · split <;> decide
  split
  · split
    · rw [pN_cons, pN_cons, pN_nil, show plnB (tkS kMinus) = false by decide]; simp [plnB]
    · rw [pN_cons, pN_nil]; simp [plnB]
  split <;> (rw [pN_cons, pN_nil]; simp [plnB])
set_option maxRecDepth 100000 in
theorem pN_comma : ∀ l, pN (commaTk l) = 0
  | [] => rfl
  | [v] => pN_lit v
  | v :: u :: l => by rw [commaTk, pN_append, pN_cons, pN_lit, pN_comma (u :: l)]; decide
set_option maxRecDepth 100000 in
theorem name_pl {s : List UInt8} (h : nameB s = true) : plnB (tkW s) = true := by
  unfold nameB at h
  simp only [Bool.and_eq_true, Bool.not_eq_true'] at h
  have h1 : (s == kTrue) = false := by
    cases hh : (s == kTrue) with
    | false => rfl
    | true => rw [beq_iff_eq] at hh; rw [hh] at h; exact absurd h.2 (by decide)
  have h2 : (s == kFalse) = false := by
    cases hh : (s == kFalse) with
    | false => rfl
    | true => rw [beq_iff_eq] at hh; rw [hh] at h; exact absurd h.2 (by decide)
  simp [plnB, tkW, h1, h2]
set_option maxRecDepth 100000 in
theorem who_pl {s : List UInt8} (h : whoL.contains s = true) : plnB (tkW s) = true := by
  have : ∀ x ∈ whoL, plnB (tkW x) = true := by decide
  exact this s (by simpa using h)
/-- an op with two parts -/
def twoOps : List (List UInt8) := [kOr, kAnd, kPlus, kMinus, kStar, kEq, kNe, kLt, kLe, kGt, kGe, kIn]
set_option maxRecDepth 100000 in
theorem two_of {op : List UInt8} (h : partsN op = 2) : op ∈ twoOps := by
  unfold partsN at h
  split at h
  · cases h
  split at h
  · rename_i hs
    unfold strM at hs
    unfold twoOps
    by_cases h1 : op = kOr
    · subst h1; decide
    by_cases h2 : op = kAnd
    · subst h2; decide
    by_cases h3 : cmpOps.contains op = true
    · have : ∀ x ∈ cmpOps, x ∈ twoOps := by decide
      exact this op (by simpa using h3)
    by_cases h4 : [kPlus, kMinus].contains op = true
    · have : ∀ x ∈ [kPlus, kMinus], x ∈ twoOps := by decide
      exact this op (by simpa using h4)
    by_cases h5 : op = kStar
    · subst h5; decide
    · simp only [if_neg h1, if_neg h2, if_neg h3, if_neg h4, if_neg h5] at hs
      exfalso
      repeat' split at hs
      all_goals omega
  · cases h
set_option maxRecDepth 100000 in
theorem two_pl : ∀ op ∈ twoOps, (plnB (opTk op)).toNat = opN op ∧ op ≠ kValue ∧ op ≠ kNow ∧ op ≠ kAttr ∧ op ≠ kHas ∧ op ≠ kRole ∧ op ≠ kSize ∧ op ≠ kNot ∧ op ≠ kNeg := by decide
set_option maxRecDepth 100000 in
theorem one_of {op : List UInt8} (h : partsN op = 1) : op = kNot ∨ op = kNeg ∨ op = kSize := by
  unfold partsN at h
  split at h
  · assumption
  split at h <;> cases h
set_option maxRecDepth 100000 in
theorem none_of {op : List UInt8} (hs : 0 ≤ strM op) (h : partsN op = 0) : op ∈ [kValue, kNow, kAttr, kHas, kRole] := by
  unfold partsN at h
  split at h
  · cases h
  rename_i hn
  split at h
  · cases h
  rename_i h2
  unfold strM at hs h2
  simp only [not_or] at hn
  by_cases h1 : op = kOr
  · subst h1; exact absurd h2 (by decide)
  by_cases h2' : op = kAnd
  · subst h2'; exact absurd h2 (by decide)
  simp only [if_neg h1, if_neg h2'] at hs h2
  by_cases h3 : cmpOps.contains op = true
  · simp only [if_pos h3] at h2; exact absurd h2 (by decide)
  simp only [if_neg h3] at hs h2
  by_cases h4 : [kPlus, kMinus].contains op = true
  · simp only [if_pos h4] at h2; exact absurd h2 (by decide)
  simp only [if_neg h4] at hs h2
  by_cases h5 : op = kStar
  · simp only [if_pos h5] at h2; exact absurd h2 (by decide)
  simp only [if_neg h5, if_neg hn.1, if_neg hn.2.1] at hs h2
  by_cases h6 : [kValue, kNow, kAttr, kHas, kRole, kSize].contains op = true
  · have h7 : op ∈ [kValue, kNow, kAttr, kHas, kRole, kSize] := by simpa using h6
    simp only [List.mem_cons, List.not_mem_nil, or_false] at h7 ⊢
    rcases h7 with h7 | h7 | h7 | h7 | h7 | h7
    · exact .inl h7
    · exact .inr (.inl h7)
    · exact .inr (.inr (.inl h7))
    · exact .inr (.inr (.inr (.inl h7)))
    · exact .inr (.inr (.inr (.inr h7)))
    · exact absurd h7 hn.2.2
  · simp only [if_neg h6] at hs
    exact absurd hs (by decide)
set_option maxRecDepth 100000 in
theorem partsN_cases (op : List UInt8) : partsN op = 0 ∨ partsN op = 1 ∨ partsN op = 2 := by
  unfold partsN
  split
  · exact .inr (.inl rfl)
  split
  · exact .inr (.inr rfl)
  · exact .inl rfl
section
variable (full : Bool) (v : PV) (who name : List UInt8) (os : List (List UInt8)) (ts : List (List Tk))
set_option maxRecDepth 100000 in
theorem node_value : nodeTk full kValue v who name os ts = valTk v := by unfold nodeTk; rw [if_pos rfl]
set_option maxRecDepth 100000 in
theorem node_now : nodeTk full kNow v who name os ts = [tkW kNow] := by unfold nodeTk; rw [if_neg (by decide), if_pos rfl]
set_option maxRecDepth 100000 in
theorem node_attr : nodeTk full kAttr v who name os ts = [tkW who, tkS kDot, tkW name] := by unfold nodeTk; rw [if_neg (by decide), if_neg (by decide), if_pos rfl]
set_option maxRecDepth 100000 in
theorem node_has : nodeTk full kHas v who name os ts = [tkW kHas, tkS kPar, tkW who, tkS kDot, tkW name, tkS kEnd] := by unfold nodeTk; rw [if_neg (by decide), if_neg (by decide), if_neg (by decide), if_pos rfl]
set_option maxRecDepth 100000 in
theorem node_role : nodeTk full kRole v who name os ts = [tkW kRole, tkS kPar, ⟨3, name, 0⟩, tkS kEnd] := by unfold nodeTk; rw [if_neg (by decide), if_neg (by decide), if_neg (by decide), if_neg (by decide), if_pos rfl]
set_option maxRecDepth 100000 in
theorem node_size : nodeTk full kSize v who name os ts = tkW kSize :: tkS kPar :: (ts[0]! ++ [tkS kEnd]) := by unfold nodeTk; rw [if_neg (by decide), if_neg (by decide), if_neg (by decide), if_neg (by decide), if_neg (by decide), if_pos rfl]
set_option maxRecDepth 100000 in
theorem node_not : nodeTk full kNot v who name os ts = tkW kNot :: partTk full 2 os[0]! ts[0]! := by unfold nodeTk; rw [if_neg (by decide), if_neg (by decide), if_neg (by decide), if_neg (by decide), if_neg (by decide), if_neg (by decide), if_pos rfl]
set_option maxRecDepth 100000 in
theorem node_neg : nodeTk full kNeg v who name os ts = tkS kMinus :: partTk full 6 os[0]! ts[0]! := by unfold nodeTk; rw [if_neg (by decide), if_neg (by decide), if_neg (by decide), if_neg (by decide), if_neg (by decide), if_neg (by decide), if_neg (by decide), if_pos rfl]
end
structure HdIs (op : List UInt8) (v : PV) (who name : List UInt8) (n : Nat) : Prop where
  str : 0 ≤ strM op
  n : n = partsN op
  value : op = kValue → valueM v = true ∧ who = [] ∧ name = []
  other : op ≠ kValue → noPvB v = true
  attr : op = kAttr ∨ op = kHas → whoL.contains who = true ∧ nameB name = true
  role : op = kRole → who = [] ∧ textB name = true
  bare : op ≠ kValue → op ≠ kAttr → op ≠ kHas → op ≠ kRole → who = [] ∧ name = []
set_option maxRecDepth 100000 in
theorem hd_is {op : List UInt8} {v : PV} {who name : List UInt8} {n : Nat} (h : hdB op v who name n = true) : HdIs op v who name n := by
  unfold hdB at h
  simp only [Bool.and_eq_true, decide_eq_true_eq] at h
  obtain ⟨⟨h1, h2⟩, h3⟩ := h
  have e1 : kAttr ≠ kValue := by decide
  have e2 : kHas ≠ kValue := by decide
  have e3 : kRole ≠ kValue := by decide
  have e4 : kRole ≠ kAttr := by decide
  have e5 : kRole ≠ kHas := by decide
  refine ⟨h1, h2, fun e => ?_, fun e => ?_, fun e => ?_, fun e => ?_, fun a b c d => ?_⟩
  · rw [if_pos e] at h3
    simpa [and_assoc] using h3
  · rw [if_neg e] at h3
    simp only [Bool.and_eq_true] at h3
    exact h3.1
  · have hne : op ≠ kValue := by rcases e with e | e <;> (rw [e]; assumption)
    rw [if_neg hne, if_pos e] at h3
    simp only [Bool.and_eq_true] at h3
    exact h3.2
  · subst e
    rw [if_neg e3, if_neg (not_or.2 ⟨e4, e5⟩), if_pos rfl] at h3
    simp only [Bool.and_eq_true, List.isEmpty_iff] at h3
    exact h3.2
  · rw [if_neg a, if_neg (not_or.2 ⟨b, c⟩), if_neg d] at h3
    simp only [Bool.and_eq_true, List.isEmpty_iff] at h3
    exact h3.2
set_option maxRecDepth 100000 in
theorem fmL_all : ∀ {l : List Tr}, fmL l = true → ∀ t ∈ l, fmT t = true
  | [], _, _, h => by cases h
  | a :: l, h, t, ht => by
    simp only [fmL, Bool.and_eq_true] at h
    rcases List.mem_cons.1 ht with rfl | ht
    · exact h.1
    · exact fmL_all h.2 t ht
set_option maxRecDepth 100000 in
theorem pN_val {v : PV} (_ : valueM v = true) : pN (valTk v) = if v.k = 5 then 1 else 0 := by
  unfold valTk
  split
  · rw [pN_cons, pN_append, pN_cons, pN_nil, pN_comma]; decide
  · exact pN_lit _
set_option maxRecDepth 100000 in
/-- all the plain ones are the tree's -/
theorem pN_tok (full : Bool) : ∀ t : Tr, fmT t = true → pN (tokM full t) = plnT t
  | .mk op v who name ps, h => by
    simp only [fmT, Bool.and_eq_true] at h
    obtain ⟨hh, hl⟩ := h
    have hd := hd_is hh
    have hall := fmL_all hl
    have ih : ∀ t ∈ ps, pN (tokM full t) = plnT t := fun t ht => pN_tok full t (hall t ht)
    simp only [tokM, plnT]
    rw [toksL_map]
    have hn := hd.n
    have hc := partsN_cases op
    rcases hc with hc | hc | hc
    · have hps : ps = [] := List.eq_nil_of_length_eq_zero (by omega)
      subst hps
      have := none_of hd.str hc
      simp only [List.mem_cons, List.not_mem_nil, or_false] at this
      simp only [plnL, Nat.add_zero]
      rcases this with rfl | rfl | rfl | rfl | rfl
      · rw [node_value, if_pos rfl]
        exact pN_val (hd.value rfl).1
      · rw [node_now, if_neg (by decide)]; decide
      · have h1 := hd.attr (.inl rfl)
        rw [node_attr, if_neg (by decide), pN_cons, pN_cons, pN_cons, pN_nil, who_pl h1.1, name_pl h1.2]; decide
      · have h1 := hd.attr (.inr rfl)
        rw [node_has, if_neg (by decide), pN_cons, pN_cons, pN_cons, pN_cons, pN_cons, pN_cons, pN_nil, who_pl h1.1, name_pl h1.2]; decide
      · rw [node_role, if_neg (by decide), pN_cons, pN_cons, pN_cons, pN_cons, pN_nil, show plnB ⟨3, name, 0⟩ = false by simp [plnB]]; decide
    · obtain ⟨a, rfl⟩ : ∃ a, ps = [a] := by
        match ps, (show ps.length = 1 by omega) with
        | [a], _ => exact ⟨a, rfl⟩
      have h1 := ih a (List.mem_singleton.2 rfl)
      simp only [plnL, Nat.add_zero, List.map_cons, List.map_nil]
      rcases one_of hc with rfl | rfl | rfl
      · rw [node_not, if_neg (by decide), pN_cons, pN_part]
        show _ + pN (tokM full a) = _
        rw [h1, show (plnB (tkW kNot)).toNat = opN kNot by decide]
      · rw [node_neg, if_neg (by decide), pN_cons, pN_part]
        show _ + pN (tokM full a) = _
        rw [h1, show (plnB (tkS kMinus)).toNat = opN kNeg by decide]
      · rw [node_size, if_neg (by decide), pN_cons, pN_cons, pN_append]
        show _ + (_ + (pN (tokM full a) + _)) = _
        rw [h1, pN_cons, pN_nil, show (plnB (tkW kSize)).toNat = 1 by decide, show (plnB (tkS kPar)).toNat = 0 by decide, show (plnB (tkS kEnd)).toNat = 0 by decide, show opN kSize = 1 by decide]
        omega
    · obtain ⟨a, b, rfl⟩ : ∃ a b, ps = [a, b] := by
        match ps, (show ps.length = 2 by omega) with
        | [a, b], _ => exact ⟨a, b, rfl⟩
      have h1 := ih a (by simp)
      have h2 := ih b (by simp)
      obtain ⟨hp, n1, n2, n3, n4, n5, n6, n7, n8⟩ := two_pl op (two_of hc)
      simp only [plnL, Nat.add_zero, List.map_cons, List.map_nil]
      unfold nodeTk
      rw [if_neg n1, if_neg n2, if_neg n3, if_neg n4, if_neg n5, if_neg n6, if_neg n7, if_neg n8, pN_append, pN_cons, pN_part, pN_part, if_neg n1]
      show pN (tokM full a) + (_ + pN (tokM full b)) = _
      rw [h1, h2, hp]
      omega
end Go.Proofs.YtllgodaphoncnaaGreatDoor
namespace Go.Proofs.YtllgodaphoncnaaGreatDoor
open Go.RowKit

mutual
/-- names of a size that is walked -/
def shortT : Tr → Bool
  | .mk _ _ who name ps => decide (who.length ≤ 1000000) && (decide (name.length ≤ 1000000) && shortL ps)
def shortL : List Tr → Bool
  | [] => true
  | t :: l => shortT t && shortL l
end
set_option maxRecDepth 100000 in
theorem shortL_all : ∀ {l : List Tr}, shortL l = true → ∀ t ∈ l, shortT t = true
  | [], _, _, h => by cases h
  | a :: l, h, t, ht => by
    simp only [shortL, Bool.and_eq_true] at h
    rcases List.mem_cons.1 ht with rfl | ht
    · exact h.1
    · exact shortL_all h.2 t ht
set_option maxRecDepth 100000 in
theorem shortT_eq (t : Tr) : shortT t = (decide (t.who.length ≤ 1000000) && (decide (t.name.length ≤ 1000000) && shortL t.ps)) := by cases t; rw [shortT]; rfl
set_option maxRecDepth 100000 in
theorem fmT_eq (t : Tr) : fmT t = (hdB t.op t.v t.who t.name t.ps.length && fmL t.ps) := by cases t; rw [fmT]; rfl
set_option maxRecDepth 100000 in
theorem fmL_take : ∀ (l : List Tr) (k : Nat) (hk : k < l.length), fmL (l.take (k + 1)) = (fmL (l.take k) && fmT l[k])
  | [], _, hk => by cases hk
  | a :: l, 0, _ => by simp [fmL]
  | a :: l, k + 1, hk => by
    have ih := fmL_take l k (by simpa using hk)
    simp only [List.take_succ_cons, fmL, List.getElem_cons_succ] at ih ⊢
    rw [ih, Bool.and_assoc]
set_option maxRecDepth 100000 in
theorem fmL_no : ∀ (l : List Tr) (k : Nat) (hk : k < l.length), fmT l[k] = false → fmL l = false
  | [], _, hk, _ => by cases hk
  | a :: l, 0, _, h => by simp only [List.getElem_cons_zero] at h; simp [fmL, h]
  | a :: l, k + 1, hk, h => by
    have ih := fmL_no l k (by simpa using hk) (by simpa using h)
    simp [fmL, ih]
set_option maxRecDepth 100000 in
theorem str_range (op : List UInt8) : -1 ≤ strM op ∧ strM op ≤ 7 := by
  unfold strM
  repeat' split
  all_goals omega
set_option maxRecDepth 100000 in
theorem str_two {op : List UInt8} (h : strM op = 2) : op = kNot := by
  unfold strM at h
  repeat' split at h
  all_goals first | assumption | omega
set_option maxRecDepth 100000 in
theorem str_six {op : List UInt8} (h : strM op = 6) : op = kNeg := by
  unfold strM at h
  repeat' split at h
  all_goals first | assumption | omega
set_option maxRecDepth 100000 in
theorem sameP_zero (v : PV) : sameP v noPV = noPvB v := by
  have e1 : (⟨#[]⟩ : ByteArray).toList = [] := nil_toList
  have e2 : (v.s.toList == []) = (v.s.size == 0) := by
    rw [ByteArray.toList_eq]
    cases h : (v.s.size == 0) with
    | true =>
      rw [beq_iff_eq] at h
      have : v.s.data = #[] := Array.eq_empty_of_size_eq_zero h
      rw [this]; rfl
    | false =>
      have h' : v.s.data.size ≠ 0 := by simpa using h
      cases h2 : (v.s.data.toList == []) with
      | false => rfl
      | true => rw [beq_iff_eq] at h2; exact absurd (by rw [← Array.length_toList, h2]; rfl) h'
  unfold sameP noPvB noPV
  dsimp only
  rw [e1, e2]
  cases hl : v.l with
  | nil => simp [Bool.and_assoc]
  | cons x l => simp
/-- what is left to be asked of a node whose parts are formed -/
def tailB (op : List UInt8) (v : PV) (who name : List UInt8) : Bool :=
  if op = kValue then valueM v && who.isEmpty && name.isEmpty
  else noPvB v && (if op = kAttr ∨ op = kHas then whoL.contains who && nameB name else if op = kRole then who.isEmpty && textB name else who.isEmpty && name.isEmpty)
set_option maxRecDepth 100000 in
theorem hdB_eq (op : List UInt8) (v : PV) (who name : List UInt8) (n : Nat) : hdB op v who name n = (decide (0 ≤ strM op) && decide (n = partsN op) && tailB op v who name) := rfl
/-- how many parts so strong an op has, and whether it is "size" -/
def partsS (s : Int) (z : Bool) : Nat := if s = 2 ∨ s = 6 ∨ z = true then 1 else if s = 0 ∨ s = 1 ∨ (3 ≤ s ∧ s ≤ 5) then 2 else 0
set_option maxRecDepth 100000 in
theorem partsS_eq (op : List UInt8) : partsS (strM op) (op == kSize) = partsN op := by
  unfold partsS partsN
  have h1 : strM op = 2 ↔ op = kNot := ⟨str_two, fun e => by subst e; decide⟩
  have h2 : strM op = 6 ↔ op = kNeg := ⟨str_six, fun e => by subst e; decide⟩
  simp only [h1, h2, beq_iff_eq]
set_option maxRecDepth 100000 in
set_option maxHeartbeats 4000000 in
theorem refFormed8_any (t : Tr) : ∀ (w : World) (X : XV), TrAt Any w t X → sizeT t ≤ 1000000 → shortT t = true → Calls Tryz.prog 11 #[X.v] w fun e w' => e = .returned (.bool (fmT t)) ∧ Below w.heap.size w w' := by
  refine tr_ind (P := fun t => ∀ (w : World) (X : XV), TrAt Any w t X → sizeT t ≤ 1000000 → shortT t = true → Calls Tryz.prog 11 #[X.v] w fun e w' => e = .returned (.bool (fmT t)) ∧ Below w.heap.size w w') (fun t ih w X h hs hsh => ?_) t
  obtain ⟨x1, x2, x3, x4, g, o, Xs, hp⟩ := h.parts
  obtain ⟨W0, hW0, hb0, hbox⟩ := boxed w X
  rw [shortT_eq] at hsh
  simp only [Bool.and_eq_true, decide_eq_true_eq] at hsh
  obtain ⟨hw9, hn9, hsl⟩ := hsh
  have hn := size_parts t
  have hsz := fun i (hi : i < t.ps.length) => size_part (List.getElem_mem hi)
  have IH := Lib.hid (fun i (hi : i < t.ps.length) W (hb : Below w.heap.size w W) => ih _ (List.getElem_mem hi) W (Xs i) ((hp.tr i hi).low hb) (by have := hsz i hi; omega) (shortL_all hsl _ (List.getElem_mem hi)))
  have HST := Lib.hid (fun W => strength_any W t.op)
  have HVA := Lib.hid (fun W (hb : Below w.heap.size w W) => rvalue_any W X.x t.v Any (x4.kept (.of_below hb)))
  have HSM := Lib.hid (fun W (hb : Below w.heap.size w W) => same_any W X.x noVal t.v.l [] (x4.kept (.of_below hb)).full ⟨⟨0, 0, listAt_none _ _⟩, rfl, by decide, Nat.zero_le _⟩)
  have HWH := Lib.hid (fun W => rwho_any W t.who)
  have HNA := Lib.hid (fun W => rname_any W t.name hn9)
  have HTX := Lib.hid (fun W => rtext_any W t.name hn9)
  have HEQ := Lib.hid (fmT_eq t)
  rw [hdB_eq] at HEQ
  have HTK := Lib.hid (fmL_take t.ps)
  have HNO := Lib.hid (fmL_no t.ps)
  have ex1 : X.o.toList = t.op := by rw [x1]; exact st_list _
  have ex2 : X.w.toList = t.who := by rw [x2]; exact st_list _
  have ex3 : X.n.toList = t.name := by rw [x3]; exact st_list _
  rw [← x1] at HST
  rw [← x2] at HWH
  rw [← x3] at HNA HTX
  obtain ⟨R, hR⟩ : ∃ R, fmT t = R := ⟨_, rfl⟩
  rw [hR] at HEQ ⊢
  have hsm : sameB X.x t.v.l noVal [] = noPvB t.v := (sameB_P (B' := Any) (w' := w) (u := noPV) x4 (valIs_none Any w)).trans (sameP_zero t.v)
  rw [hsm] at HSM
  obtain ⟨bz, ez⟩ : ∃ b, (t.op == kSize) = b := ⟨_, rfl⟩
  obtain ⟨bv, ev⟩ : ∃ b, (t.op == kValue) = b := ⟨_, rfl⟩
  obtain ⟨ba, ea⟩ : ∃ b, (t.op == kAttr) = b := ⟨_, rfl⟩
  obtain ⟨bh, eh⟩ : ∃ b, (t.op == kHas) = b := ⟨_, rfl⟩
  obtain ⟨br, er⟩ : ∃ b, (t.op == kRole) = b := ⟨_, rfl⟩
  obtain ⟨cw, ew⟩ : ∃ b, (t.who == []) = b := ⟨_, rfl⟩
  obtain ⟨cn, en⟩ : ∃ b, (t.name == []) = b := ⟨_, rfl⟩
  obtain ⟨q1, f1⟩ : ∃ b, valueM t.v = b := ⟨_, rfl⟩
  obtain ⟨q2, f2⟩ : ∃ b, noPvB t.v = b := ⟨_, rfl⟩
  obtain ⟨q3, f3⟩ : ∃ b, whoL.contains t.who = b := ⟨_, rfl⟩
  obtain ⟨q4, f4⟩ : ∃ b, nameB t.name = b := ⟨_, rfl⟩
  obtain ⟨q5, f5⟩ : ∃ b, textB t.name = b := ⟨_, rfl⟩
  have htail : tailB t.op t.v t.who t.name = if bv = true then q1 && cw && cn else q2 && (if ba = true ∨ bh = true then q3 && q4 else if br = true then cw && q5 else cw && cn) := by
    unfold tailB
    rw [← ev, ← ea, ← eh, ← er, ← ew, ← en, ← f1, ← f2, ← f3, ← f4, ← f5]
    simp only [beq_iff_eq]
    have i1 : t.who.isEmpty = (t.who == []) := by cases t.who <;> rfl
    have i2 : t.name.isEmpty = (t.name == []) := by cases t.name <;> rfl
    rw [i1, i2]
  rw [htail] at HEQ
  rw [f1] at HVA
  rw [f2] at HSM
  rw [f3] at HWH
  rw [f4] at HNA
  rw [f5] at HTX
  have hpn := partsS_eq t.op
  rw [ez] at hpn
  rw [← hpn] at HEQ
  have oz : (X.o.toList == [115, 105, 122, 101]) = bz := by rw [ex1]; exact ez
  have ov : (X.o.toList == [118, 97, 108, 117, 101]) = bv := by rw [ex1]; exact ev
  have oa : (X.o.toList == [97, 116, 116, 114]) = ba := by rw [ex1]; exact ea
  have oh : (X.o.toList == [104, 97, 115]) = bh := by rw [ex1]; exact eh
  have or' : (X.o.toList == [114, 111, 108, 101]) = br := by rw [ex1]; exact er
  have ow : (X.w.toList == []) = cw := by rw [ex2]; exact ew
  have on' : (X.n.toList == []) = cn := by rw [ex3]; exact en
  have hs7 : bz = true → strM t.op = 7 := fun h => by rw [h, beq_iff_eq] at ez; rw [ez]; decide
  have HS7 := Lib.hid hs7
  clear hs7
  generalize hS : strM t.op = S at *
  generalize t.ps = ps at *
  have hl9 : ps.length ≤ 1000000 := by omega
  have HP := Lib.hid hp
  have HBX := Lib.hid hbox
  have HB0 := Lib.hid hb0
  have HXL := Lib.hid hp.len
  have OV := Lib.hid ov
  have OA := Lib.hid oa
  have OH := Lib.hid oh
  have OR := Lib.hid or'
  have OW := Lib.hid ow
  have ON := Lib.hid on'
  clear ih h hs hp hn hsz hb0 hbox x1 x2 x3 x4 ex1 ex2 ex3 ez ev ea eh er ew en f1 f2 f3 f4 f5 hR htail hpn hS hw9 hn9 hsl hsm ov oa oh or' ow on'
  unfold XV.v
  go_enter Tryz.func11, Tryz.ntmps11
  go_wp2_with fail
  generalize hW : World.alloc _ _ = W1
  obtain rfl : W0 = W1 := hW0.symm.trans hW
  clear hW hW0
  refine (HST.out _).mono ?_
  rintro e w1 ⟨rfl, hb1⟩
  have HB1 := Lib.hid (HB0.out.trans (hb1.mono HB0.out.size))
  have HBX1 := Lib.hid (HBX.out.below hb1)
  have c0 : w1.cell? ⟨w.heap.size, 0, none⟩ = some (.string X.o) := HBX1.out.cell 0
  clear hb1 HB0 HBX HST
  go_upto_region 3 with fail
  obtain ⟨b3, hb3⟩ : ∃ b, decide (S = 2 ∨ S = 6 ∨ bz = true) = b := ⟨_, rfl⟩
  obtain ⟨b5, hb5⟩ : ∃ b, decide (S = 0 ∨ S = 1 ∨ (3 ≤ S ∧ S ≤ 5)) = b := ⟨_, rfl⟩
  have hP : partsS S bz = if b3 = true then 1 else if b5 = true then 2 else 0 := by
    unfold partsS; rw [← hb3, ← hb5]; simp only [decide_eq_true_eq]
  obtain ⟨p3, hp3⟩ : ∃ p : Int, (if b3 = true then 1 else 0) = p := ⟨_, rfl⟩
  obtain ⟨p5, hp5⟩ : ∃ p : Int, (if b5 = true then 2 else p3) = p := ⟨_, rfl⟩
  have hbb : b3 = true → b5 = false := fun h => by
    rw [← hb3, decide_eq_true_eq] at h
    rw [← hb5, decide_eq_false_iff_not]
    have := HS7.out
    rcases h with h | h | h <;> first | omega | (have := this h; omega)
  have hPp : (partsS S bz : Int) = p5 := by
    rw [hP, ← hp5, ← hp3]
    cases b3 with
    | true => rw [hbb rfl]; rfl
    | false => cases b5 <;> rfl
  have HPP := Lib.hid hPp
  have HP3 := Lib.hid hp3
  have HP5 := Lib.hid hp5
  clear hp3 hp5 hbb hPp
  have HB3 := Lib.hid hb3
  have HB5 := Lib.hid hb5
  clear hP hb3 hb5
  go_cut [19] (fun v wx => v = .bool b3 ∧ wx = w1)
  case first =>
    by_cases h2 : S = 2
    · subst h2
      go_wp2_with fail
      go_meet
      exact ⟨by rw [← HB3.out]; rfl, rfl⟩
    by_cases h6 : S = 6
    · subst h6
      go_wp2_with fail
      go_meet
      exact ⟨by rw [← HB3.out]; rfl, rfl⟩
    have d2 : (S == 2) = false := by simpa using h2
    have d6 : (S == 6) = false := by simpa using h6
    cases bz with
    | true =>
      go_wp2_with fail
      go_meet
      exact ⟨by rw [← HB3.out]; simp, rfl⟩
    | false =>
      go_wp2_with fail
      go_meet
      exact ⟨by rw [← HB3.out]; simp [h2, h6], rfl⟩
  case rest =>
  obtain ⟨rfl, hwc⟩ := hcut
  rw [hwc]
  clear hwc
  go_upto_if 19 with fail
  go_cut [4] (fun v wx => v = .int .i64 p3 ∧ wx = w1)
  case first =>
    cases b3 with
    | true =>
      go_wp2_with fail
      go_meet
      exact ⟨by rw [← HP3.out]; rfl, rfl⟩
    | false =>
      go_wp2_with fail
      go_meet
      exact ⟨by rw [← HP3.out]; rfl, rfl⟩
  case rest =>
  obtain ⟨rfl, hwc⟩ := hcut
  rw [hwc]
  clear hwc
  go_upto_region 5 with fail
  clear c0 oz
  go_cut [33] (fun v wx => v = .bool b5 ∧ wx = w1)
  case first =>
    by_cases h0 : S = 0
    · subst h0
      go_wp2_with fail
      go_meet
      exact ⟨by rw [← HB5.out]; rfl, rfl⟩
    by_cases h1 : S = 1
    · subst h1
      go_wp2_with fail
      go_meet
      exact ⟨by rw [← HB5.out]; rfl, rfl⟩
    have d0 : (S == 0) = false := by simpa using h0
    have d1 : (S == 1) = false := by simpa using h1
    by_cases h3 : 3 ≤ S
    · have d3 : decide (3 ≤ S) = true := by simpa using h3
      by_cases h5 : S ≤ 5
      · have d5 : decide (S ≤ 5) = true := by simpa using h5
        have HBV : Hid (b5 = true) := Lib.hid (by rw [← HB5.out]; simp [h3, h5])
        go_wp2_with fail
        go_meet
        exact ⟨by rw [HBV.out], rfl⟩
      · have d5 : decide (S ≤ 5) = false := by simpa using h5
        have HBV : Hid (b5 = false) := Lib.hid (by rw [← HB5.out]; simp [h0, h1, h5])
        go_wp2_with fail
        go_meet
        exact ⟨by rw [HBV.out], rfl⟩
    · have d3 : decide (3 ≤ S) = false := by simpa using h3
      have HBV : Hid (b5 = false) := Lib.hid (by rw [← HB5.out]; simp [h0, h1, h3])
      go_wp2_with fail
      go_meet
      exact ⟨by rw [HBV.out], rfl⟩
  case rest =>
  obtain ⟨rfl, hwc⟩ := hcut
  rw [hwc]
  clear hwc
  go_upto_if 33 with fail
  go_cut [4] (fun v wx => v = .int .i64 p5 ∧ wx = w1)
  case first =>
    cases b5 with
    | true =>
      go_wp2_with fail
      go_meet
      exact ⟨by rw [← HP5.out]; rfl, rfl⟩
    | false =>
      go_wp2_with fail
      go_meet
      exact ⟨by rw [← HP5.out]; rfl, rfl⟩
  case rest =>
  obtain ⟨rfl, hwc⟩ := hcut
  rw [hwc]
  clear hwc
  obtain ⟨bl, hbl⟩ : ∃ b, ((ps.length : Int) == p5) = b := ⟨_, rfl⟩
  have hln : decide (ps.length = partsS S bz) = bl := by
    rw [← hbl, ← HPP.out]
    cases h : decide (ps.length = partsS S bz) with
    | true => rw [decide_eq_true_eq] at h; simp [h]
    | false => rw [decide_eq_false_iff_not] at h; simp; omega
  rw [hln] at HEQ
  have c7 : w1.cell? ⟨w.heap.size, 7, none⟩ = some (.slice X.a X.l X.c) := HBX1.out.cell 7
  rw [HXL.out] at c7
  have hbn : ((ps.length : Int) != p5) = !bl := by rw [bne, hbl]
  clear hln HPP HP3 HP5 HB3 HB5
  have hRn : R = (decide (0 ≤ S) && bl && (if bv = true then q1 && cw && cn else q2 && (if ba = true ∨ bh = true then q3 && q4 else if br = true then cw && q5 else cw && cn)) && fmL ps) := HEQ.out
  by_cases hS0 : 0 ≤ S
  case neg =>
    have dS : decide (S < 0) = true := by simpa using hS0
    obtain rfl : R = false := by rw [hRn]; simp [hS0]
    clear hRn HEQ
    go_wp2_with fail
    go_ret
    exact ⟨rfl, HB1.out⟩
  have dS : decide (S < 0) = false := by simpa using hS0
  rw [decide_eq_true hS0, Bool.true_and] at hRn
  cases bl with
  | false =>
    obtain rfl : R = false := by rw [hRn]; rfl
    have hbn : ((ps.length : Int) != p5) = true := hbn
    clear hRn HEQ
    go_wp2_with fail
    go_ret
    exact ⟨rfl, HB1.out⟩
  | true =>
    rw [Bool.true_and] at hRn
    have HRN := Lib.hid hRn
    have hbn : ((ps.length : Int) != p5) = false := hbn
    clear hRn HEQ hS0
    go_wp2_with fail
    clear hbl hbn c7 dS
    go_loopw [5] (fun v5 wr => ∃ k : Nat, k ≤ ps.length ∧ v5 = .int .i64 k ∧ fmL (ps.take k) = true ∧ Below w1.heap.size w1 wr) (fun v5 _ => ps.length - (intOf v5).toNat)
    case atStart => exact ⟨0, by omega, rfl, rfl, Below.refl _ _⟩
    case round =>
      obtain ⟨k, hk, rfl, hfm, hb⟩ := hrel
      have HFM := Lib.hid hfm
      have HBk := Lib.hid hb
      have HBw := Lib.hid (HB1.out.trans (hb.mono HB1.out.size))
      have HBXk := Lib.hid (HBX1.out.below hb)
      have c7 : wr.cell? ⟨w.heap.size, 7, none⟩ = some (.slice X.a X.l X.c) := HBXk.out.cell 7
      rw [HXL.out] at c7
      clear hfm hb
      by_cases hlt : k < ps.length
      · have d1 : decide ((k : Int) < (ps.length : Int)) = true := by simp; omega
        have had := HP.out.addr (by intro e; rw [e] at hlt; cases hlt)
        rw [had] at c7
        clear had
        have hix : (0 : Int) ≤ k ∧ (k : Int) < (ps.length : Int) := by omega
        have HR := Lib.hid ((HP.out.below HBw.out).row k hlt)
        have HIH := Lib.hid (IH.out k hlt wr HBw.out)
        have HSN := Lib.hid (HTK.out k hlt)
        rw [HFM.out, Bool.true_and] at HSN
        have HNK := Lib.hid (HNO.out k hlt)
        obtain ⟨b, hb⟩ : ∃ b, fmT ps[k] = b := ⟨_, rfl⟩
        rw [hb] at HSN HNK HIH
        clear hb
        cases b with
        | true =>
          go_wp2_with (refine wpList_load_mid rfl 27 (.tmp 53) rfl g (o + k * 8) rfl (Xs k).cells _ HR.out Tryz.underlying27 rfl (infoX _ rfl) ?_)
          refine HIH.out.mono ?_
          rintro e w2 ⟨rfl, hb2⟩
          have HB2 := Lib.hid (HBk.out.trans (hb2.mono HBk.out.size))
          clear hb2 c7
          go_wp2_with fail
          go_roundw
          case rel => exact ⟨k + 1, by omega, by go_num, HSN.out, HB2.out⟩
          case measure => simp [intOf]; omega
        | false =>
          have HB2 := Lib.hid HBw.out
          obtain rfl : R = false := by rw [HRN.out, HNK.out (by first | trivial | rfl), Bool.and_false]
          clear HRN HNK
          go_wp2_with (refine wpList_load_mid rfl 27 (.tmp 53) rfl g (o + k * 8) rfl (Xs k).cells _ HR.out Tryz.underlying27 rfl (infoX _ rfl) ?_)
          refine HIH.out.mono ?_
          rintro e w2 ⟨rfl, hb2⟩
          have HB2 := Lib.hid (HBw.out.trans (hb2.mono HBw.out.size))
          clear hb2 c7
          go_wp2_with fail
          go_ret
          exact ⟨rfl, HB2.out⟩
      · obtain rfl : k = ps.length := by omega
        have d1 : decide ((ps.length : Int) < (ps.length : Int)) = false := by simp
        have hR2 : R = (if bv = true then q1 && cw && cn else q2 && (if ba = true ∨ bh = true then q3 && q4 else if br = true then cw && q5 else cw && cn)) := by
          rw [HRN.out]
          have h := HFM.out
          rw [List.take_length] at h
          rw [h, Bool.and_true]
        have HRN2 := Lib.hid hR2
        have c0 : wr.cell? ⟨w.heap.size, 0, none⟩ = some (.string X.o) := HBXk.out.cell 0
        have c5 : wr.cell? ⟨w.heap.size, 5, none⟩ = some (.string X.w) := HBXk.out.cell 5
        have c6 : wr.cell? ⟨w.heap.size, 6, none⟩ = some (.string X.n) := HBXk.out.cell 6
        have HV := Lib.hid HBXk.out.val
        have ov := OV.out
        clear hR2 HRN HTK HNO IH HFM hk
        cases bv with
        | true =>
          have hR3 : R = (q1 && cw && cn) := HRN2.out
          have HR3 := Lib.hid hR3
          clear hR3 HRN2
          go_wp2_with (refine wpList_load_mid rfl 24 (.tmp 60) rfl w.heap.size 1 rfl X.x.cells _ HV.out Tryz.underlying24 rfl (info_val X.x) ?_)
          clear c5 c6 c0
          refine (HVA.out _ HBw.out).mono ?_
          rintro e w2 ⟨rfl, hb2⟩
          have c5 : w2.cell? ⟨w.heap.size, 5, none⟩ = some (.string X.w) := (HBXk.out.below hb2).cell 5
          have c6 : w2.cell? ⟨w.heap.size, 6, none⟩ = some (.string X.n) := (HBXk.out.below hb2).cell 6
          have HB2 := Lib.hid (HBw.out.trans (hb2.mono HBw.out.size))
          clear hb2
          have ow := OW.out
          have on' := ON.out
          cases q1 with
          | false =>
            obtain rfl : R = false := by rw [HR3.out]; rfl
            go_wp2_with fail
            go_ret
            exact ⟨rfl, HB2.out⟩
          | true =>
            cases cw with
            | false =>
              obtain rfl : R = false := by rw [HR3.out]; rfl
              go_wp2_with fail
              go_ret
              exact ⟨rfl, HB2.out⟩
            | true =>
              obtain rfl : R = cn := by rw [HR3.out]; cases cn <;> rfl
              cases R with
              | false =>
                go_wp2_with fail
                go_ret
                exact ⟨rfl, HB2.out⟩
              | true =>
                go_wp2_with fail
                go_ret
                exact ⟨rfl, HB2.out⟩
        | false =>
          have hR3 : R = (q2 && (if ba = true ∨ bh = true then q3 && q4 else if br = true then cw && q5 else cw && cn)) := HRN2.out
          have HR3 := Lib.hid hR3
          clear hR3 HRN2
          go_wp2_with (refine wpList_load_mid rfl 24 (.tmp 73) rfl w.heap.size 1 rfl X.x.cells _ HV.out Tryz.underlying24 rfl (info_val X.x) ?_)
          clear c5 c6 c0
          refine (HSM.out _ HBw.out).mono ?_
          rintro e w2 ⟨rfl, hb2⟩
          have c0 : w2.cell? ⟨w.heap.size, 0, none⟩ = some (.string X.o) := (HBXk.out.below hb2).cell 0
          have c5 : w2.cell? ⟨w.heap.size, 5, none⟩ = some (.string X.w) := (HBXk.out.below hb2).cell 5
          have c6 : w2.cell? ⟨w.heap.size, 6, none⟩ = some (.string X.n) := (HBXk.out.below hb2).cell 6
          have HB2 := Lib.hid (HBw.out.trans (hb2.mono HBw.out.size))
          have HBX2 := Lib.hid (HBXk.out.below hb2)
          clear hb2 ov
          have ow := OW.out
          have on' := ON.out
          cases q2 with
          | false =>
            obtain rfl : R = false := by rw [HR3.out]; rfl
            go_wp2_with fail
            go_ret
            exact ⟨rfl, HB2.out⟩
          | true =>
          have hR4 : R = (if ba = true ∨ bh = true then q3 && q4 else if br = true then cw && q5 else cw && cn) := by rw [HR3.out, Bool.true_and]
          have HR4 := Lib.hid hR4
          clear hR4 HR3
          have oa := OA.out
          have oh := OH.out
          have or' := OR.out
          by_cases hah : ba = true ∨ bh = true
          · have hR5 : R = (q3 && q4) := by rw [HR4.out, if_pos hah]
            have HR5 := Lib.hid hR5
            clear hR5 HR4
            have fin : ∀ w3, Below w2.heap.size w2 w3 → w3.cell? ⟨w.heap.size, 6, none⟩ = some (.string X.n) := fun w3 hb3 => (HBX2.out.below hb3).cell 6
            have FIN := Lib.hid fin
            clear fin
            cases ba with
            | true =>
              clear hah
              go_wp2_with fail
              refine (HWH.out _).mono ?_
              rintro e w3 ⟨rfl, hb3⟩
              have c6 := FIN.out _ hb3
              have HB3 := Lib.hid (HB2.out.trans (hb3.mono HB2.out.size))
              clear hb3
              cases q3 with
              | false =>
                obtain rfl : R = false := by rw [HR5.out]; rfl
                go_wp2_with fail
                go_ret
                exact ⟨rfl, HB3.out⟩
              | true =>
                obtain rfl : R = q4 := by rw [HR5.out, Bool.true_and]
                go_wp2_with fail
                refine (HNA.out _).mono ?_
                rintro e w4 ⟨rfl, hb4⟩
                have HB4 := Lib.hid (HB3.out.trans (hb4.mono HB3.out.size))
                clear hb4
                go_wp2_with fail
                go_ret
                exact ⟨rfl, HB4.out⟩
            | false =>
              obtain rfl : bh = true := by rcases hah with h | h; · cases h
                                           · exact h
              clear hah
              go_wp2_with fail
              refine (HWH.out _).mono ?_
              rintro e w3 ⟨rfl, hb3⟩
              have c6 := FIN.out _ hb3
              have HB3 := Lib.hid (HB2.out.trans (hb3.mono HB2.out.size))
              clear hb3
              cases q3 with
              | false =>
                obtain rfl : R = false := by rw [HR5.out]; rfl
                go_wp2_with fail
                go_ret
                exact ⟨rfl, HB3.out⟩
              | true =>
                obtain rfl : R = q4 := by rw [HR5.out, Bool.true_and]
                go_wp2_with fail
                refine (HNA.out _).mono ?_
                rintro e w4 ⟨rfl, hb4⟩
                have HB4 := Lib.hid (HB3.out.trans (hb4.mono HB3.out.size))
                clear hb4
                go_wp2_with fail
                go_ret
                exact ⟨rfl, HB4.out⟩
          · have ha : ba = false := by cases ba <;> simp_all
            have hh : bh = false := by cases bh <;> simp_all
            subst ha hh
            have hR5 : R = (if br = true then cw && q5 else cw && cn) := by rw [HR4.out, if_neg hah]
            have HR5 := Lib.hid hR5
            clear hR5 HR4 hah
            cases br with
            | true =>
              have hR6 : R = (cw && q5) := HR5.out
              have HR6 := Lib.hid hR6
              clear hR6 HR5
              cases cw with
              | false =>
                obtain rfl : R = false := by rw [HR6.out]; rfl
                go_wp2_with fail
                go_ret
                exact ⟨rfl, HB2.out⟩
              | true =>
                obtain rfl : R = q5 := by rw [HR6.out, Bool.true_and]
                go_wp2_with fail
                refine (HTX.out _).mono ?_
                rintro e w3 ⟨rfl, hb3⟩
                have HB3 := Lib.hid (HB2.out.trans (hb3.mono HB2.out.size))
                clear hb3
                go_wp2_with fail
                go_ret
                exact ⟨rfl, HB3.out⟩
            | false =>
              have hR6 : R = (cw && cn) := HR5.out
              have HR6 := Lib.hid hR6
              clear hR6 HR5
              cases cw with
              | false =>
                obtain rfl : R = false := by rw [HR6.out]; rfl
                go_wp2_with fail
                go_ret
                exact ⟨rfl, HB2.out⟩
              | true =>
                obtain rfl : R = cn := by rw [HR6.out, Bool.true_and]
                cases R with
                | false =>
                  go_wp2_with fail
                  go_ret
                  exact ⟨rfl, HB2.out⟩
                | true =>
                  go_wp2_with fail
                  go_ret
                  exact ⟨rfl, HB2.out⟩
end Go.Proofs.YtllgodaphoncnaaGreatDoor
