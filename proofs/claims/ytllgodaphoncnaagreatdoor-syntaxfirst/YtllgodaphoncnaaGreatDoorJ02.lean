/- Sums, differences, products of values, and what is awake; The order of numbers and texts, as plain functions. No program is named here. -/
import Derived.Test.YtllgodaphoncnaaGreatDoorJ01
import Derived.WalkKit
namespace Go.Proofs.YtllgodaphoncnaaGreatDoor
open Go.RowKit

/-- a call of Formed answers so, in every later world -/
structure FormedIs (w : World) (x : Value) (f : Bool) : Prop where
  call : ∀ W, Below w.heap.size w W → Calls Tryz.prog 175 #[x] W fun e w' => e = .returned (.bool f) ∧ Below W.heap.size W w'
set_option maxRecDepth 100000 in
theorem FormedIs.below {w w' : World} {x : Value} {f : Bool} (h : FormedIs w x f) (hb : Below w.heap.size w w') : FormedIs w' x f := ⟨fun W hW => h.call W (hb.trans (hW.mono hb.size))⟩
set_option maxRecDepth 100000 in
theorem formedIs_one (k i : Int) (s : ByteArray) (a : Option Addr) (n c : Nat) (w : World) (hs : s.size ≤ maxLen) (hk : (k == 5) = false) : FormedIs w (V k i s a n c) (aloneB k i s n) :=
  ⟨fun W _ => formed_one k i s a n c W hs hk⟩

/-- a number, or that it can't be: its kind, itself, the error -/
def numR (n : Int) (f : Bool) : Int × Int × Int := if f then (2, n, 0) else (0, 0, 7)
def timeR (n : Int) (f : Bool) : Int × Int × Int := if f && timeB n then (4, n, 0) else (0, 0, 7)
def sumF (a b : Int) : Bool := decide (a < wrap64 (a + b)) == decide (0 < b)
def difF (a b : Int) : Bool := decide (wrap64 (a - b) < a) == decide (0 < b)
/-- such an answer, as a value and an error -/
abbrev R3 (r : Int × Int × Int) : Value := .tuple #[V r.1 r.2.1 ⟨#[]⟩ none 0 0, .int .i64 r.2.2]

def addR (fa fb : Bool) (k1 i1 k2 i2 : Int) : Int × Int × Int :=
  if (!fa || !fb) = true then (0, 0, 1) else if (k1 == 2 && k2 == 2) = true then numR (wrap64 (i1 + i2)) (sumF i1 i2) else if (k1 == 4 && k2 == 2) = true then timeR (wrap64 (i1 + i2)) (sumF i1 i2) else (0, 0, 6)
set_option maxRecDepth 100000 in
theorem addR_num {k1 i1 k2 i2 : Int} (h : k1 = 2) (h' : (k2 == 2) = true) : addR true true k1 i1 k2 i2 = numR (wrap64 (i1 + i2)) (sumF i1 i2) := by simp [addR, h, h']
set_option maxRecDepth 100000 in
theorem addR_time {k1 i1 k2 i2 : Int} (h : k1 = 4) (h' : (k2 == 2) = true) : addR true true k1 i1 k2 i2 = timeR (wrap64 (i1 + i2)) (sumF i1 i2) := by simp [addR, h, h']
set_option maxRecDepth 100000 in
theorem addR_no {k1 i1 k2 i2 : Int} (h' : (k2 == 2) = false) : addR true true k1 i1 k2 i2 = (0, 0, 6) := by simp [addR, h']
set_option maxRecDepth 100000 in
theorem addR_no' {k1 i1 k2 i2 : Int} (h : ¬ k1 = 2) (h' : ¬ k1 = 4) : addR true true k1 i1 k2 i2 = (0, 0, 6) := by simp [addR, h, h']
def AddPost (r : Int × Int × Int) (w : World) (e : Ending) (w' : World) : Prop := e = .returned (R3 r) ∧ Below w.heap.size w w'
end Go.Proofs.YtllgodaphoncnaaGreatDoor
namespace Go.Proofs.YtllgodaphoncnaaGreatDoor

/-- -1, 0, 1 -/
def cmpI (a b : Int) : Int := if a < b then -1 else if b < a then 1 else 0
def cmpT : List UInt8 → List UInt8 → Int
  | [], [] => 0
  | [], _ :: _ => -1
  | _ :: _, [] => 1
  | a :: x, b :: y => if a < b then -1 else if b < a then 1 else cmpT x y
set_option maxRecDepth 100000 in
theorem cmpT_range : ∀ x y, cmpT x y = -1 ∨ cmpT x y = 0 ∨ cmpT x y = 1
  | [], [] => by simp [cmpT]
  | [], _ :: _ => by simp [cmpT]
  | _ :: _, [] => by simp [cmpT]
  | a :: x, b :: y => by
    have := cmpT_range x y
    unfold cmpT; split
    · simp
    · split
      · simp
      · exact this
set_option maxRecDepth 100000 in
theorem u8_eq_of {a b : UInt8} (h : ¬ a < b) (h' : ¬ b < a) : a = b := by
  rw [UInt8.lt_iff_toNat_lt] at h h'
  exact UInt8.toNat_inj.1 (by omega)
set_option maxRecDepth 100000 in
theorem less_cmpT : ∀ x y, Op.bytesLess x y = decide (cmpT x y = -1)
  | [], [] => by simp [cmpT, Op.bytesLess]
  | [], _ :: _ => by simp [cmpT, Op.bytesLess]
  | _ :: _, [] => by simp [cmpT, Op.bytesLess]
  | a :: x, b :: y => by
    have ih := less_cmpT x y
    unfold cmpT Op.bytesLess
    by_cases h : a < b
    · simp [h]
    · rw [if_neg h]
      by_cases h' : b < a
      · rw [if_pos h']
        have hne : a ≠ b := by intro e; subst e; exact h h'
        simp [h, hne]
      · rw [if_neg h']
        have he := u8_eq_of h h'
        subst he
        simp [h, ih]
set_option maxRecDepth 100000 in
theorem eq_cmpT : ∀ x y, (x == y) = decide (cmpT x y = 0)
  | [], [] => by simp [cmpT]
  | [], _ :: _ => by simp [cmpT]
  | _ :: _, [] => by simp [cmpT]
  | a :: x, b :: y => by
    have ih := eq_cmpT x y
    unfold cmpT
    by_cases h : a < b
    · have hne : a ≠ b := by intro e; subst e; rw [UInt8.lt_iff_toNat_lt] at h; omega
      simp [h, hne]
    · rw [if_neg h]
      by_cases h' : b < a
      · rw [if_pos h']
        have hne : a ≠ b := by intro e; subst e; exact h h'
        simp [hne]
      · rw [if_neg h']
        have he := u8_eq_of h h'
        subst he
        simpa using ih
set_option maxRecDepth 100000 in
theorem cmpT_step (x y : List UInt8) (k : Nat) (hx : k < x.length) (hy : k < y.length) :
    cmpT (x.drop k) (y.drop k) = if x[k] < y[k] then -1 else if y[k] < x[k] then 1 else cmpT (x.drop (k + 1)) (y.drop (k + 1)) := by
  rw [List.drop_eq_getElem_cons hx, List.drop_eq_getElem_cons hy, cmpT]
set_option maxRecDepth 100000 in
theorem cmpT_end (x y : List UInt8) (k : Nat) (hx : k ≤ x.length) (hy : k ≤ y.length) (h : k = x.length ∨ k = y.length) : cmpT (x.drop k) (y.drop k) = cmpI x.length y.length := by
  rcases h with rfl | rfl
  · rw [List.drop_length]
    rcases Nat.lt_or_ge x.length y.length with h | h
    · obtain ⟨b, l, e⟩ := List.exists_cons_of_ne_nil (show y.drop x.length ≠ [] by simp; omega)
      rw [e]; unfold cmpI; rw [if_pos (by omega)]; rfl
    · rw [List.drop_of_length_le (by omega)]; unfold cmpI; rw [if_neg (by omega), if_neg (by omega)]; rfl
  · rw [List.drop_length]
    rcases Nat.lt_or_ge y.length x.length with h | h
    · obtain ⟨b, l, e⟩ := List.exists_cons_of_ne_nil (show x.drop y.length ≠ [] by simp; omega)
      rw [e]; unfold cmpI; rw [if_neg (by omega), if_pos (by omega)]; rfl
    · rw [List.drop_of_length_le (by omega)]; unfold cmpI; rw [if_neg (by omega), if_neg (by omega)]; rfl
end Go.Proofs.YtllgodaphoncnaaGreatDoor
