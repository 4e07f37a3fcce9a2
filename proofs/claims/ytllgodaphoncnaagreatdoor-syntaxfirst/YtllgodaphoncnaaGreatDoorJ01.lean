/- Words of policies, as plain lists of bytes; The small functions of package value, each by its contract. -/
import Derived.Lib.ParseIntB
import Derived.Test.YtllgodaphoncnaaGreatDoorProg
import Derived.WalkKit
import Derived.WalkSpells
import Derived.WalkLawsBesides
import Derived.WalkSmall
import Derived.Lib.Hide
import Derived.Deep.QuietTactic
import Derived.BigQuiet
namespace Go.Proofs.YtllgodaphoncnaaGreatDoor

def st (l : List UInt8) : ByteArray := ⟨l.toArray⟩
set_option maxRecDepth 100000 in
theorem size_st (l : List UInt8) : (st l).size = l.length := by simp [st, ByteArray.size]
set_option maxRecDepth 100000 in
theorem st_data (s : ByteArray) : st s.data.toList = s := by cases s; rfl
set_option maxRecDepth 100000 in
theorem st_inj {a b : List UInt8} (h : st a = st b) : a = b := by
  have := congrArg (fun s : ByteArray => s.data.toList) h
  simpa [st] using this
def letB (b : UInt8) : Bool := decide (97 ≤ b.toNat) && decide (b.toNat ≤ 122)
def digB (b : UInt8) : Bool := decide (48 ≤ b.toNat) && decide (b.toNat ≤ 57)
def innB (b : UInt8) : Bool := letB b || (digB b || decide (b.toNat = 95))
def plaB (b : UInt8) : Bool := decide (32 ≤ b.toNat) && decide (b.toNat ≤ 126)
def mrkB (b : UInt8) : Bool := decide (b.toNat = 34) || decide (b.toNat = 92)
/-- how many bytes it begins with that all are so -/
def runN (p : UInt8 → Bool) (l : List UInt8) : Nat := (l.takeWhile p).length
set_option maxRecDepth 100000 in
theorem runN_le (p : UInt8 → Bool) (l : List UInt8) : runN p l ≤ l.length := by
  unfold runN
  induction l with
  | nil => simp
  | cons c l ih => rw [List.takeWhile_cons]; split <;> simp <;> omega
set_option maxRecDepth 100000 in
theorem runN_nil (p : UInt8 → Bool) : runN p [] = 0 := rfl
set_option maxRecDepth 100000 in
theorem runN_cons (p : UInt8 → Bool) (c : UInt8) (l : List UInt8) : runN p (c :: l) = if p c then runN p l + 1 else 0 := by
  unfold runN
  rw [List.takeWhile_cons]
  split <;> simp
set_option maxRecDepth 100000 in
theorem runN_at (p : UInt8 → Bool) : ∀ (l : List UInt8) (k : Nat), k ≤ runN p l → ∀ c, l[k]? = some c → (p c = true ↔ k < runN p l)
  | [], k, _, c, h => by simp at h
  | a :: l, 0, _, c, h => by
    obtain rfl : a = c := by simpa using h
    rw [runN_cons]
    split
    · rename_i h; simp [h]
    · rename_i h; simp [h]
  | a :: l, k + 1, hk, c, h => by
    rw [runN_cons] at hk ⊢
    split at hk
    · rename_i ha
      rw [if_pos ha]
      have := runN_at p l k (by omega) c (by simpa using h)
      rw [this]; omega
    · omega
set_option maxRecDepth 100000 in
theorem runN_all (p : UInt8 → Bool) (l : List UInt8) : (l.take (runN p l)).all p = true := by
  induction l with
  | nil => rfl
  | cons a l ih =>
    rw [runN_cons]
    split
    · rename_i h; simp only [List.take_succ_cons, List.all_cons, h, ih]; rfl
    · rfl
set_option maxRecDepth 100000 in
theorem runN_eq (p : UInt8 → Bool) (l : List UInt8) : runN p l = l.length ↔ l.all p = true := by
  constructor
  · intro h
    have := runN_all p l
    rwa [h, List.take_length] at this
  · intro h
    induction l with
    | nil => rfl
    | cons a l ih =>
      simp only [List.all_cons, Bool.and_eq_true] at h
      rw [runN_cons, if_pos h.1, ih h.2]; rfl
/-- a token -/
structure Tk where
  k : Int
  s : List UInt8
  n : Int
deriving DecidableEq
def signsL : List (List UInt8) := [[61, 61], [33, 61], [60, 61], [62, 61], [60], [62], [123], [125], [40], [41], [91], [93], [59], [46], [44], [43], [45], [42]]
/-- the longest sign that it begins with -/
def fsign (l : List UInt8) : List UInt8 := (signsL.find? (·.isPrefixOf l)).getD []
def wordB (l : List UInt8) : Bool := match l with
  | [] => false
  | c :: _ => decide (l.length ≤ 64) && (letB c && decide (runN innB l = l.length))
def textB (l : List UInt8) : Bool := decide (l.length ≤ 64) && decide (runN plaB l = l.length)
def signB (l : List UInt8) : Bool := !l.isEmpty && decide (fsign l = l)
def formB (t : Tk) : Bool :=
  if t.k = 1 then decide (t.n = 0) && wordB t.s
  else if t.k = 2 then t.s.isEmpty && decide (0 ≤ t.n)
  else if t.k = 3 then decide (t.n = 0) && textB t.s
  else if t.k = 4 then t.s.isEmpty && (decide (0 ≤ t.n) && decide (t.n ≤ 1099511627776))
  else if t.k = 5 then decide (t.n = 0) && signB t.s
  else false
/-- the number that it begins with, and how many digits it has -/
def digM (l : List UInt8) : Int × Nat :=
  let k := runN digB l
  if 19 < k ∨ (∃ c, l[k]? = some c ∧ (letB c = true ∨ c.toNat = 95)) then (0, 0)
  else match Lib.parseIntB 64 (l.take k) with
    | .ok v => (v, k)
    | _ => (0, 0)
def noTk : Tk := ⟨0, [], 0⟩
def wordM (l : List UInt8) : Tk × Nat := (⟨1, l.take (runN innB l), 0⟩, runN innB l)
def numM1 (l : List UInt8) : Tk × Nat := if (digM l).2 = 0 then (noTk, 0) else (⟨2, [], (digM l).1⟩, (digM l).2)
def timeM (l : List UInt8) : Tk × Nat := if (digM (l.drop 1)).2 = 0 then (noTk, 0) else (⟨4, [], (digM (l.drop 1)).1⟩, 1 + (digM (l.drop 1)).2)
/-- what stands in a text up to its quote, and how many bytes that takes, the quote too -/
def inM : List UInt8 → Option (List UInt8 × Nat)
  | [] => none
  | c :: l =>
    if c.toNat = 34 then some ([], 1)
    else if c.toNat = 92 then match l with
      | [] => none
      | d :: l => if mrkB d then (inM l).map fun x => (d :: x.1, x.2 + 2) else none
    else (inM l).map fun x => (c :: x.1, x.2 + 1)
def textM1 (l : List UInt8) : Tk × Nat := match inM (l.drop 1) with
  | some (x, n) => (⟨3, x, 0⟩, n + 1)
  | none => (noTk, 0)
def signM (l : List UInt8) : Tk × Nat := (⟨5, fsign l, 0⟩, (fsign l).length)
def firstM (l : List UInt8) : Tk × Nat := match l with
  | [] => (noTk, 0)
  | c :: _ => if letB c then wordM l else if digB c then numM1 l else if c.toNat = 34 then textM1 l else if c.toNat = 64 then timeM l else signM l
/-- what is left behind blanks, line feeds and comments -/
def skipB : Bool → List UInt8 → List UInt8
  | _, [] => []
  | true, c :: l => skipB (!decide (c.toNat = 10)) l
  | false, c :: l => if c.toNat = 32 ∨ c.toNat = 10 then skipB false l else if c.toNat = 35 then skipB true l else c :: l
/-- the tokens of what is left, behind those that there are -/
def lexF (N : Nat) : Nat → List UInt8 → List Tk → List Tk × Nat × Int
  | 0, _, acc => (acc, 0, 0)
  | f + 1, l, acc =>
    if l = [] then (acc, 0, 0)
    else if formB (firstM l).1 = false then ([], N - l.length, 2)
    else if acc.length = 600 then ([], N - l.length, 13)
    else lexF N f (skipB false (l.drop (firstM l).2)) (acc ++ [(firstM l).1])
def lexM (l : List UInt8) : List Tk × Nat × Int := if 4096 < l.length then ([], 0, 3) else lexF l.length l.length (skipB false l) []
end Go.Proofs.YtllgodaphoncnaaGreatDoor
namespace Go.Proofs.YtllgodaphoncnaaGreatDoor
open Go.RowKit

/-- a value as it is passed: its kind, its number, its text, its list -/
abbrev V (k i : Int) (s : ByteArray) (a : Option Addr) (n c : Nat) : Value := .agg #[.int .i64 k, .int .i64 i, .string s, .slice a n c]
set_option maxRecDepth 100000 in
theorem ret_bool {a b : Bool} (h : a = b) : Ending.returned (.bool a) = .returned (.bool b) := by rw [h]
set_option maxRecDepth 100000 in
theorem vret_int {k : IntKind} {a b : Int} (h : a = b) : Ending.returned (.int k a) = .returned (.int k b) := by rw [h]

/-- may a time have this number? -/
def timeB (n : Int) : Bool := decide (0 ≤ n) && decide (n ≤ 1099511627776)
set_option maxRecDepth 100000 in
theorem isTime_any (n : Int) (w : World) :
    Calls Tryz.prog 189 #[.int .i64 n] w fun e w' => e = .returned (.bool (timeB n)) ∧ w = w' := by
  go_enter Tryz.func189, Tryz.ntmps189
  go_wp2
  all_goals
    go_ret
    exact ⟨ret_bool (by simp [timeB, *]; try omega), rfl⟩

set_option maxRecDepth 100000 in
theorem number_any (n : Int) (w : World) :
    Calls Tryz.prog 157 #[.int .i64 n] w fun e w' => e = .returned (V 2 n ⟨#[]⟩ none 0 0) ∧ Below w.heap.size w w' := by
  go_enter Tryz.func157, Tryz.ntmps157
  go_wp2
  exact bodyPost_ret (v := V 2 n ⟨#[]⟩ none 0 0) (by simp [results, Tryz.results157, go_sem]) rfl ⟨rfl, (Below.refl _ _).alloc (Nat.le_refl _) _⟩

set_option maxRecDepth 100000 in
theorem truth_any (b : Bool) (w : World) :
    Calls Tryz.prog 159 #[.bool b] w fun e w' => e = .returned (V 1 (if b then 1 else 0) ⟨#[]⟩ none 0 0) ∧ Below w.heap.size w w' := by
  cases b
  · go_enter Tryz.func159, Tryz.ntmps159
    go_wp2
    exact bodyPost_ret (v := V 1 0 ⟨#[]⟩ none 0 0) (by simp [results, Tryz.results159, go_sem]) rfl ⟨rfl, (Below.refl _ _).alloc (Nat.le_refl _) _⟩
  · go_enter Tryz.func159, Tryz.ntmps159
    go_wp2
    exact bodyPost_ret (v := V 1 1 ⟨#[]⟩ none 0 0) (by simp [results, Tryz.results159, go_sem]) rfl ⟨rfl, (Below.refl _ _).alloc (Nat.le_refl _) _⟩

set_option maxRecDepth 100000 in
/-- the first 64 bytes of a text, as the model cuts it -/
theorem text_any (s : ByteArray) (hs : s.size ≤ maxLen) (w : World) :
    Calls Tryz.prog 158 #[.string s] w fun e w' => e = .returned (V 3 0 (s.extract 0 (min s.size 64)) none 0 0) ∧ Below w.heap.size w w' := by
  unfold maxLen at hs
  by_cases h : 64 < s.size
  · rw [show min s.size 64 = 64 by omega]
    go_enter Tryz.func158, Tryz.ntmps158
    go_wp2
    exact bodyPost_ret (v := V 3 0 (s.extract 0 64) none 0 0) (by simp [results, Tryz.results158, go_sem] <;> rw [show (min (s.size : Int) 64).toNat = 64 by omega]) rfl ⟨rfl, (Below.refl _ _).alloc (Nat.le_refl _) _⟩
  · rw [show min s.size 64 = s.size by omega, ByteArray.extract_zero_size]
    go_enter Tryz.func158, Tryz.ntmps158
    go_wp2
    exact bodyPost_ret (v := V 3 0 s none 0 0) (by simp [results, Tryz.results158, go_sem] <;> rw [show (min (s.size : Int) 64).toNat = s.size by omega, ByteArray.extract_zero_size]) rfl ⟨rfl, (Below.refl _ _).alloc (Nat.le_refl _) _⟩

/-- is a value that is no bag formed? -/
def aloneB (k i : Int) (s : ByteArray) (n : Nat) : Bool :=
  if 0 < n then false else if k == 0 then i == 0 && s.toList.isEmpty else if k == 1 then (i == 0 || i == 1) && s.toList.isEmpty else if k == 2 then s.toList.isEmpty
  else if k == 3 then i == 0 && decide ((s.size : Int) ≤ 64) else if k == 4 then timeB i && s.toList.isEmpty else false
set_option maxRecDepth 100000 in
set_option maxHeartbeats 400000 in
theorem alone_any (k i : Int) (s : ByteArray) (a : Option Addr) (n c : Nat) (w : World) (hs : s.size ≤ maxLen) :
    Calls Tryz.prog 184 #[V k i s a n c] w fun e w' => e = .returned (.bool (aloneB k i s n)) ∧ Below w.heap.size w w' := by
  have hs' := hs
  unfold maxLen at hs'
  clear hs
  go_enter Tryz.func184, Tryz.ntmps184
  go_wp2_with (go_at_call 189; refine (isTime_any _ _).mono ?_; rintro e w' ⟨rfl, rfl⟩)
  all_goals
    go_ret
    exact ⟨ret_bool (by simp [aloneB, *]), (Below.refl _ _).alloc (Nat.le_refl _) _⟩
set_option maxRecDepth 100000 in
/-- a value that is no bag -/
theorem formed_one (k i : Int) (s : ByteArray) (a : Option Addr) (n c : Nat) (w : World) (hs : s.size ≤ maxLen) (hk : (k == 5) = false) :
    Calls Tryz.prog 175 #[V k i s a n c] w fun e w' => e = .returned (.bool (aloneB k i s n)) ∧ Below w.heap.size w w' := by
  go_enter Tryz.func175, Tryz.ntmps175
  go_wp2_with (go_at_call 184; refine (alone_any _ _ _ _ _ _ _ hs).mono ?_; rintro e w' ⟨rfl, hb⟩)
  go_ret
  exact ⟨rfl, ((Below.refl _ _).alloc (Nat.le_refl _) _).trans (hb.mono (by simp))⟩
set_option maxRecDepth 100000 in
theorem bcell {W w1 : World} (hb : Below W.heap.size W w1) : (∀ b o, b < W.heap.size → w1.cell? ⟨b, o, none⟩ = W.cell? ⟨b, o, none⟩) ∧ (∀ b o, b < W.heap.size → w1.frozen? ⟨b, o, none⟩ = W.frozen? ⟨b, o, none⟩) :=
  ⟨fun b o h => hb.cell (p := ⟨b, o, none⟩) h, fun b o h => hb.frozen (p := ⟨b, o, none⟩) h⟩
set_option maxRecDepth 100000 in
theorem below_set4 {m : Nat} {a w : World} (h : Below m a w) (g : Nat) (hg : m ≤ g) (x y z u : Value) :
    Below m a ((((w.setCell ⟨g, 0, none⟩ x).setCell ⟨g, 1, none⟩ y).setCell ⟨g, 2, none⟩ z).setCell ⟨g, 3, none⟩ u) := (((h.setCell hg _).setCell hg _).setCell hg _).setCell hg _
end Go.Proofs.YtllgodaphoncnaaGreatDoor
