/- The order of numbers and texts, as plain functions. No program is named here; The order of values that are no bags; Values that are no bags, as the document has them; lists of values in memory. -/
import Derived.WalkKit
import Derived.Test.YtlhfdlfbnnfjjaaDoorJ01
namespace Go.Proofs.YtlhfdlfbnnfjjaaDoor

/-- -1, 0, 1 -/
def cmpI (a b : Int) : Int := if a < b then -1 else if b < a then 1 else 0
def cmpT : List UInt8 → List UInt8 → Int
  | [], [] => 0
  | [], _ :: _ => -1
  | _ :: _, [] => 1
  | a :: x, b :: y => if a < b then -1 else if b < a then 1 else cmpT x y
set_option maxRecDepth 100000 in
theorem cmpT_range : ∀ x y, cmpT x y = -1 ∨ cmpT x y = 0 ∨ cmpT x y = 1
  | [], [] => by simp [cmpT]
  | [], _ :: _ => by simp [cmpT]
  | _ :: _, [] => by simp [cmpT]
  | a :: x, b :: y => by
    have := cmpT_range x y
    unfold cmpT; split
    · simp
    · split
      · simp
      · exact this
set_option maxRecDepth 100000 in
theorem u8_eq_of {a b : UInt8} (h : ¬ a < b) (h' : ¬ b < a) : a = b := by
  rw [UInt8.lt_iff_toNat_lt] at h h'
  exact UInt8.toNat_inj.1 (by omega)
set_option maxRecDepth 100000 in
theorem less_cmpT : ∀ x y, Op.bytesLess x y = decide (cmpT x y = -1)
  | [], [] => by simp [cmpT, Op.bytesLess]
  | [], _ :: _ => by simp [cmpT, Op.bytesLess]
  | _ :: _, [] => by simp [cmpT, Op.bytesLess]
  | a :: x, b :: y => by
    have ih := less_cmpT x y
    unfold cmpT Op.bytesLess
    by_cases h : a < b
    · simp [h]
    · rw [if_neg h]
      by_cases h' : b < a
      · rw [if_pos h']
        have hne : a ≠ b := by intro e; subst e; exact h h'
        simp [h, hne]
      · rw [if_neg h']
        have he := u8_eq_of h h'
        subst he
        simp [h, ih]
set_option maxRecDepth 100000 in
theorem eq_cmpT : ∀ x y, (x == y) = decide (cmpT x y = 0)
  | [], [] => by simp [cmpT]
  | [], _ :: _ => by simp [cmpT]
  | _ :: _, [] => by simp [cmpT]
  | a :: x, b :: y => by
    have ih := eq_cmpT x y
    unfold cmpT
    by_cases h : a < b
    · have hne : a ≠ b := by intro e; subst e; rw [UInt8.lt_iff_toNat_lt] at h; omega
      simp [h, hne]
    · rw [if_neg h]
      by_cases h' : b < a
      · rw [if_pos h']
        have hne : a ≠ b := by intro e; subst e; exact h h'
        simp [hne]
      · rw [if_neg h']
        have he := u8_eq_of h h'
        subst he
        simpa using ih
set_option maxRecDepth 100000 in
theorem cmpT_step (x y : List UInt8) (k : Nat) (hx : k < x.length) (hy : k < y.length) :
    cmpT (x.drop k) (y.drop k) = if x[k] < y[k] then -1 else if y[k] < x[k] then 1 else cmpT (x.drop (k + 1)) (y.drop (k + 1)) := by
  rw [List.drop_eq_getElem_cons hx, List.drop_eq_getElem_cons hy, cmpT]
set_option maxRecDepth 100000 in
theorem cmpT_end (x y : List UInt8) (k : Nat) (hx : k ≤ x.length) (hy : k ≤ y.length) (h : k = x.length ∨ k = y.length) : cmpT (x.drop k) (y.drop k) = cmpI x.length y.length := by
  rcases h with rfl | rfl
  · rw [List.drop_length]
    rcases Nat.lt_or_ge x.length y.length with h | h
    · obtain ⟨b, l, e⟩ := List.exists_cons_of_ne_nil (show y.drop x.length ≠ [] by simp; omega)
      rw [e]; unfold cmpI; rw [if_pos (by omega)]; rfl
    · rw [List.drop_of_length_le (by omega)]; unfold cmpI; rw [if_neg (by omega), if_neg (by omega)]; rfl
  · rw [List.drop_length]
    rcases Nat.lt_or_ge y.length x.length with h | h
    · obtain ⟨b, l, e⟩ := List.exists_cons_of_ne_nil (show x.drop y.length ≠ [] by simp; omega)
      rw [e]; unfold cmpI; rw [if_neg (by omega), if_pos (by omega)]; rfl
    · rw [List.drop_of_length_le (by omega)]; unfold cmpI; rw [if_neg (by omega), if_neg (by omega)]; rfl
end Go.Proofs.YtlhfdlfbnnfjjaaDoor
namespace Go.Proofs.YtlhfdlfbnnfjjaaDoor
open Go.RowKit

/-- texts, compared by their bytes -/
def cmpS (a b : ByteArray) : Int := cmpT a.data.toList b.data.toList
set_option maxRecDepth 100000 in
theorem cmpS_lt {a b : ByteArray} (h : Op.bytesLess a.toList b.toList = true) : -1 = cmpS a b := by
  rw [ByteArray.toList_eq, ByteArray.toList_eq, less_cmpT] at h; exact (of_decide_eq_true h).symm
set_option maxRecDepth 100000 in
theorem cmpS_gt {a b : ByteArray} (h : Op.bytesLess a.toList b.toList = false) (h' : (!a.toList == b.toList) = true) : 1 = cmpS a b := by
  rw [ByteArray.toList_eq, ByteArray.toList_eq] at h h'
  rw [less_cmpT] at h
  rw [eq_cmpT] at h'
  have := cmpT_range a.data.toList b.data.toList
  simp at h h'
  unfold cmpS; omega
set_option maxRecDepth 100000 in
theorem cmpS_eq {a b : ByteArray} (h' : (!a.toList == b.toList) = false) : 0 = cmpS a b := by
  rw [ByteArray.toList_eq, ByteArray.toList_eq, eq_cmpT] at h'
  simp at h'
  unfold cmpS; omega
set_option maxRecDepth 100000 in
theorem cmpS_step (a b : ByteArray) (k : Nat) (hx : k < a.size) (hy : k < b.size) :
    cmpT (a.data.toList.drop k) (b.data.toList.drop k) = if a[k].toNat < b[k].toNat then -1 else if b[k].toNat < a[k].toNat then 1 else cmpT (a.data.toList.drop (k + 1)) (b.data.toList.drop (k + 1)) := by
  rw [cmpT_step a.data.toList b.data.toList k (by simpa using hx) (by simpa using hy)]
  simp only [UInt8.lt_iff_toNat_lt]
  rfl
set_option maxRecDepth 100000 in
theorem cmpS_end (a b : ByteArray) (k : Nat) (hx : k ≤ a.size) (hy : k ≤ b.size) (h : k = a.size ∨ k = b.size) : cmpT (a.data.toList.drop k) (b.data.toList.drop k) = cmpI a.size b.size := by
  have := cmpT_end a.data.toList b.data.toList k (by simpa using hx) (by simpa using hy) (by simpa using h)
  simpa using this
/-- the order of two values, as the program has it within bags -/
def ordA (k1 i1 : Int) (s1 : ByteArray) (k2 i2 : Int) (s2 : ByteArray) : Int :=
  if (k1 != k2) = true then cmpI k1 k2 else if k1 = 1 ∨ k1 = 2 ∨ k1 = 4 then cmpI i1 i2 else if k1 = 3 then cmpS s1 s2 else 0
/-- the order of two values that are no bags, as the document has it -/
def ordS (k1 i1 : Int) (s1 : ByteArray) (k2 i2 : Int) (s2 : ByteArray) : Int :=
  if (k1 != k2) = true then cmpI k1 k2 else if k1 = 3 then cmpS s1 s2 else cmpI i1 i2
end Go.Proofs.YtlhfdlfbnnfjjaaDoor
namespace Go.Proofs.YtlhfdlfbnnfjjaaDoor
open Go.RowKit

/-- a value's parts -/
structure Val where
  k : Int
  i : Int
  s : ByteArray
  a : Option Addr
  n : Nat
  c : Nat
def Val.v (x : Val) : Value := V x.k x.i x.s x.a x.n x.c
instance : Inhabited Val := ⟨⟨0, 0, ⟨#[]⟩, none, 0, 0⟩⟩
/-- a list of values lies in memory -/
structure ListAt (w : World) (ad : Option Addr) (g o : Nat) (l : List Val) : Prop where
  at' : l ≠ [] → ad = some ⟨g, o, none⟩
  c0 : ∀ j, (h : j < l.length) → w.cell? ⟨g, o + j * 4, none⟩ = some (.int .i64 l[j].k)
  c1 : ∀ j, (h : j < l.length) → w.cell? ⟨g, o + j * 4 + 1, none⟩ = some (.int .i64 l[j].i)
  c2 : ∀ j, (h : j < l.length) → w.cell? ⟨g, o + j * 4 + 2, none⟩ = some (.string l[j].s)
  c3 : ∀ j, (h : j < l.length) → w.cell? ⟨g, o + j * 4 + 3, none⟩ = some (.slice l[j].a l[j].n l[j].c)
  size : ∀ x ∈ l, x.s.size ≤ maxLen
set_option maxRecDepth 100000 in
theorem block_lt_of_cell {w : World} {p : Addr} {v : Value} (h : w.cell? p = some v) : p.block < w.heap.size := by
  rcases Nat.lt_or_ge p.block w.heap.size with k | k
  · exact k
  · unfold World.cell? at h
    rw [Array.getElem?_eq_none (by omega)] at h
    simp at h
set_option maxRecDepth 100000 in
theorem ListAt.below {w w' : World} {ad : Option Addr} {g o : Nat} {l : List Val} (h : ListAt w ad g o l) (hk : Below w.heap.size w w') : ListAt w' ad g o l :=
  ⟨h.at', fun j hj => by rw [hk.cell (block_lt_of_cell (h.c0 j hj))]; exact h.c0 j hj, fun j hj => by rw [hk.cell (block_lt_of_cell (h.c1 j hj))]; exact h.c1 j hj,
    fun j hj => by rw [hk.cell (block_lt_of_cell (h.c2 j hj))]; exact h.c2 j hj, fun j hj => by rw [hk.cell (block_lt_of_cell (h.c3 j hj))]; exact h.c3 j hj, h.size⟩
end Go.Proofs.YtlhfdlfbnnfjjaaDoor
