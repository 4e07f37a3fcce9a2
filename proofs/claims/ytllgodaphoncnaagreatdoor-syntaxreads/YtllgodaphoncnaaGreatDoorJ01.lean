/- The small functions of package value, each by its contract; Sums, differences, products of values, and what is awake. -/
import Derived.Test.YtllgodaphoncnaaGreatDoorProg
import Derived.WalkKit
import Derived.WalkSpells
import Derived.WalkLawsBesides
import Derived.WalkSmall
import Derived.Lib.Hide
import Derived.Deep.QuietTactic
import Derived.BigQuiet
namespace Go.Proofs.YtllgodaphoncnaaGreatDoor
open Go.RowKit

/-- a value as it is passed: its kind, its number, its text, its list -/
abbrev V (k i : Int) (s : ByteArray) (a : Option Addr) (n c : Nat) : Value := .agg #[.int .i64 k, .int .i64 i, .string s, .slice a n c]
set_option maxRecDepth 100000 in
theorem ret_bool {a b : Bool} (h : a = b) : Ending.returned (.bool a) = .returned (.bool b) := by rw [h]
set_option maxRecDepth 100000 in
theorem vret_int {k : IntKind} {a b : Int} (h : a = b) : Ending.returned (.int k a) = .returned (.int k b) := by rw [h]

/-- may a time have this number? -/
def timeB (n : Int) : Bool := decide (0 ≤ n) && decide (n ≤ 1099511627776)
set_option maxRecDepth 100000 in
theorem isTime_any (n : Int) (w : World) :
    Calls Tryz.prog 189 #[.int .i64 n] w fun e w' => e = .returned (.bool (timeB n)) ∧ w = w' := by
  go_enter Tryz.func189, Tryz.ntmps189
  go_wp2
  all_goals
    go_ret
    exact ⟨ret_bool (by simp [timeB, *]; try omega), rfl⟩

set_option maxRecDepth 100000 in
theorem number_any (n : Int) (w : World) :
    Calls Tryz.prog 157 #[.int .i64 n] w fun e w' => e = .returned (V 2 n ⟨#[]⟩ none 0 0) ∧ Below w.heap.size w w' := by
  go_enter Tryz.func157, Tryz.ntmps157
  go_wp2
  exact bodyPost_ret (v := V 2 n ⟨#[]⟩ none 0 0) (by simp [results, Tryz.results157, go_sem]) rfl ⟨rfl, (Below.refl _ _).alloc (Nat.le_refl _) _⟩

set_option maxRecDepth 100000 in
theorem truth_any (b : Bool) (w : World) :
    Calls Tryz.prog 159 #[.bool b] w fun e w' => e = .returned (V 1 (if b then 1 else 0) ⟨#[]⟩ none 0 0) ∧ Below w.heap.size w w' := by
  cases b
  · go_enter Tryz.func159, Tryz.ntmps159
    go_wp2
    exact bodyPost_ret (v := V 1 0 ⟨#[]⟩ none 0 0) (by simp [results, Tryz.results159, go_sem]) rfl ⟨rfl, (Below.refl _ _).alloc (Nat.le_refl _) _⟩
  · go_enter Tryz.func159, Tryz.ntmps159
    go_wp2
    exact bodyPost_ret (v := V 1 1 ⟨#[]⟩ none 0 0) (by simp [results, Tryz.results159, go_sem]) rfl ⟨rfl, (Below.refl _ _).alloc (Nat.le_refl _) _⟩

set_option maxRecDepth 100000 in
/-- the first 64 bytes of a text, as the model cuts it -/
theorem text_any (s : ByteArray) (hs : s.size ≤ maxLen) (w : World) :
    Calls Tryz.prog 158 #[.string s] w fun e w' => e = .returned (V 3 0 (s.extract 0 (min s.size 64)) none 0 0) ∧ Below w.heap.size w w' := by
  unfold maxLen at hs
  by_cases h : 64 < s.size
  · rw [show min s.size 64 = 64 by omega]
    go_enter Tryz.func158, Tryz.ntmps158
    go_wp2
    exact bodyPost_ret (v := V 3 0 (s.extract 0 64) none 0 0) (by simp [results, Tryz.results158, go_sem] <;> rw [show (min (s.size : Int) 64).toNat = 64 by omega]) rfl ⟨rfl, (Below.refl _ _).alloc (Nat.le_refl _) _⟩
  · rw [show min s.size 64 = s.size by omega, ByteArray.extract_zero_size]
    go_enter Tryz.func158, Tryz.ntmps158
    go_wp2
    exact bodyPost_ret (v := V 3 0 s none 0 0) (by simp [results, Tryz.results158, go_sem] <;> rw [show (min (s.size : Int) 64).toNat = s.size by omega, ByteArray.extract_zero_size]) rfl ⟨rfl, (Below.refl _ _).alloc (Nat.le_refl _) _⟩

/-- is a value that is no bag formed? -/
def aloneB (k i : Int) (s : ByteArray) (n : Nat) : Bool :=
  if 0 < n then false else if k == 0 then i == 0 && s.toList.isEmpty else if k == 1 then (i == 0 || i == 1) && s.toList.isEmpty else if k == 2 then s.toList.isEmpty
  else if k == 3 then i == 0 && decide ((s.size : Int) ≤ 64) else if k == 4 then timeB i && s.toList.isEmpty else false
set_option maxRecDepth 100000 in
set_option maxHeartbeats 400000 in
theorem alone_any (k i : Int) (s : ByteArray) (a : Option Addr) (n c : Nat) (w : World) (hs : s.size ≤ maxLen) :
    Calls Tryz.prog 184 #[V k i s a n c] w fun e w' => e = .returned (.bool (aloneB k i s n)) ∧ Below w.heap.size w w' := by
  have hs' := hs
  unfold maxLen at hs'
  clear hs
  go_enter Tryz.func184, Tryz.ntmps184
  go_wp2_with (go_at_call 189; refine (isTime_any _ _).mono ?_; rintro e w' ⟨rfl, rfl⟩)
  all_goals
    go_ret
    exact ⟨ret_bool (by simp [aloneB, *]), (Below.refl _ _).alloc (Nat.le_refl _) _⟩
set_option maxRecDepth 100000 in
/-- a value that is no bag -/
theorem formed_one (k i : Int) (s : ByteArray) (a : Option Addr) (n c : Nat) (w : World) (hs : s.size ≤ maxLen) (hk : (k == 5) = false) :
    Calls Tryz.prog 175 #[V k i s a n c] w fun e w' => e = .returned (.bool (aloneB k i s n)) ∧ Below w.heap.size w w' := by
  go_enter Tryz.func175, Tryz.ntmps175
  go_wp2_with (go_at_call 184; refine (alone_any _ _ _ _ _ _ _ hs).mono ?_; rintro e w' ⟨rfl, hb⟩)
  go_ret
  exact ⟨rfl, ((Below.refl _ _).alloc (Nat.le_refl _) _).trans (hb.mono (by simp))⟩
set_option maxRecDepth 100000 in
theorem bcell {W w1 : World} (hb : Below W.heap.size W w1) : (∀ b o, b < W.heap.size → w1.cell? ⟨b, o, none⟩ = W.cell? ⟨b, o, none⟩) ∧ (∀ b o, b < W.heap.size → w1.frozen? ⟨b, o, none⟩ = W.frozen? ⟨b, o, none⟩) :=
  ⟨fun b o h => hb.cell (p := ⟨b, o, none⟩) h, fun b o h => hb.frozen (p := ⟨b, o, none⟩) h⟩
set_option maxRecDepth 100000 in
theorem below_set4 {m : Nat} {a w : World} (h : Below m a w) (g : Nat) (hg : m ≤ g) (x y z u : Value) :
    Below m a ((((w.setCell ⟨g, 0, none⟩ x).setCell ⟨g, 1, none⟩ y).setCell ⟨g, 2, none⟩ z).setCell ⟨g, 3, none⟩ u) := (((h.setCell hg _).setCell hg _).setCell hg _).setCell hg _
end Go.Proofs.YtllgodaphoncnaaGreatDoor
namespace Go.Proofs.YtllgodaphoncnaaGreatDoor
open Go.RowKit

/-- a call of Formed answers so, in every later world -/
structure FormedIs (w : World) (x : Value) (f : Bool) : Prop where
  call : ∀ W, Below w.heap.size w W → Calls Tryz.prog 175 #[x] W fun e w' => e = .returned (.bool f) ∧ Below W.heap.size W w'
set_option maxRecDepth 100000 in
theorem FormedIs.below {w w' : World} {x : Value} {f : Bool} (h : FormedIs w x f) (hb : Below w.heap.size w w') : FormedIs w' x f := ⟨fun W hW => h.call W (hb.trans (hW.mono hb.size))⟩
set_option maxRecDepth 100000 in
theorem formedIs_one (k i : Int) (s : ByteArray) (a : Option Addr) (n c : Nat) (w : World) (hs : s.size ≤ maxLen) (hk : (k == 5) = false) : FormedIs w (V k i s a n c) (aloneB k i s n) :=
  ⟨fun W _ => formed_one k i s a n c W hs hk⟩

/-- a number, or that it can't be: its kind, itself, the error -/
def numR (n : Int) (f : Bool) : Int × Int × Int := if f then (2, n, 0) else (0, 0, 7)
def timeR (n : Int) (f : Bool) : Int × Int × Int := if f && timeB n then (4, n, 0) else (0, 0, 7)
def sumF (a b : Int) : Bool := decide (a < wrap64 (a + b)) == decide (0 < b)
def difF (a b : Int) : Bool := decide (wrap64 (a - b) < a) == decide (0 < b)
/-- such an answer, as a value and an error -/
abbrev R3 (r : Int × Int × Int) : Value := .tuple #[V r.1 r.2.1 ⟨#[]⟩ none 0 0, .int .i64 r.2.2]

def addR (fa fb : Bool) (k1 i1 k2 i2 : Int) : Int × Int × Int :=
  if (!fa || !fb) = true then (0, 0, 1) else if (k1 == 2 && k2 == 2) = true then numR (wrap64 (i1 + i2)) (sumF i1 i2) else if (k1 == 4 && k2 == 2) = true then timeR (wrap64 (i1 + i2)) (sumF i1 i2) else (0, 0, 6)
set_option maxRecDepth 100000 in
theorem addR_num {k1 i1 k2 i2 : Int} (h : k1 = 2) (h' : (k2 == 2) = true) : addR true true k1 i1 k2 i2 = numR (wrap64 (i1 + i2)) (sumF i1 i2) := by simp [addR, h, h']
set_option maxRecDepth 100000 in
theorem addR_time {k1 i1 k2 i2 : Int} (h : k1 = 4) (h' : (k2 == 2) = true) : addR true true k1 i1 k2 i2 = timeR (wrap64 (i1 + i2)) (sumF i1 i2) := by simp [addR, h, h']
set_option maxRecDepth 100000 in
theorem addR_no {k1 i1 k2 i2 : Int} (h' : (k2 == 2) = false) : addR true true k1 i1 k2 i2 = (0, 0, 6) := by simp [addR, h']
set_option maxRecDepth 100000 in
theorem addR_no' {k1 i1 k2 i2 : Int} (h : ¬ k1 = 2) (h' : ¬ k1 = 4) : addR true true k1 i1 k2 i2 = (0, 0, 6) := by simp [addR, h, h']
def AddPost (r : Int × Int × Int) (w : World) (e : Ending) (w' : World) : Prop := e = .returned (R3 r) ∧ Below w.heap.size w w'
end Go.Proofs.YtllgodaphoncnaaGreatDoor
