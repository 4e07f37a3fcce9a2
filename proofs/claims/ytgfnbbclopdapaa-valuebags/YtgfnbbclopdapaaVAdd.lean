/- Sums, differences, products of values, and what is awake. -/
import Derived.Test.YtgfnbbclopdapaaVLeaf
namespace Go.Proofs.Ytgfnbbclopdapaa
open Go.RowKit

/-- a call of Formed answers so, in every later world -/
structure FormedIs (w : World) (x : Value) (f : Bool) : Prop where
  call : ∀ W, Below w.heap.size w W → Calls Try.prog 11 #[x] W fun e w' => e = .returned (.bool f) ∧ Below W.heap.size W w'
theorem FormedIs.below {w w' : World} {x : Value} {f : Bool} (h : FormedIs w x f) (hb : Below w.heap.size w w') : FormedIs w' x f := ⟨fun W hW => h.call W (hb.trans (hW.mono hb.size))⟩
theorem formedIs_one (k i : Int) (s : ByteArray) (a : Option Addr) (n c : Nat) (w : World) (hs : s.size ≤ maxLen) (hk : (k == 5) = false) : FormedIs w (V k i s a n c) (aloneB k i s n) :=
  ⟨fun W _ => formed_one k i s a n c W hs hk⟩

/-- a number, or that it can't be: its kind, itself, the error -/
def numR (n : Int) (f : Bool) : Int × Int × Int := if f then (2, n, 0) else (0, 0, 7)
def timeR (n : Int) (f : Bool) : Int × Int × Int := if f && timeB n then (4, n, 0) else (0, 0, 7)
def sumF (a b : Int) : Bool := decide (a < wrap64 (a + b)) == decide (0 < b)
def difF (a b : Int) : Bool := decide (wrap64 (a - b) < a) == decide (0 < b)
/-- such an answer, as a value and an error -/
abbrev R3 (r : Int × Int × Int) : Value := .tuple #[V r.1 r.2.1 ⟨#[]⟩ none 0 0, .int .i64 r.2.2]

theorem newNumber_b (n : Int) (f : Bool) (w : World) :
    Calls Try.prog 41 #[.int .i64 n, .bool f] w fun e w' => e = .returned (R3 (numR n f)) ∧ Below w.heap.size w w' := by
  cases f
  · exact newNumber_over n w
  · exact newNumber_any n w
theorem newTime_b (n : Int) (f : Bool) (w : World) :
    Calls Try.prog 43 #[.int .i64 n, .bool f] w fun e w' => e = .returned (R3 (timeR n f)) ∧ Below w.heap.size w w' := by
  have key : ∀ t : Bool, timeB n = t → Calls Try.prog 43 #[.int .i64 n, .bool f] w fun e w' => e = .returned (R3 (if f && t then (4, n, 0) else (0, 0, 7))) ∧ Below w.heap.size w w' := by
    intro t ht
    have HT := Lib.hid ht
    clear ht
    cases f
    · go_enter Try.func43, Try.ntmps43
      go_wp2
      exact bodyPost_ret (v := R3 (0, 0, 7)) (by simp [results, Try.results43, go_sem]) rfl ⟨rfl, (Below.refl _ _).alloc (Nat.le_refl _) _⟩
    · cases t
      all_goals
        go_enter Try.func43, Try.ntmps43
        go_wp2_with (go_at_call 50; refine (isTime_any _ _).mono ?_; rintro e w' ⟨rfl, rfl⟩; rw [HT.out])
        first
          | exact bodyPost_ret (v := R3 (0, 0, 7)) (by simp [results, Try.results43, go_sem]) rfl ⟨rfl, (Below.refl _ _).alloc (Nat.le_refl _) _⟩
          | exact bodyPost_ret (v := R3 (4, n, 0)) (by simp [results, Try.results43, go_sem]) rfl ⟨rfl, (Below.refl _ _).alloc (Nat.le_refl _) _⟩
  exact key _ rfl
theorem sum_b (a b : Int) (w : World) :
    Calls Try.prog 42 #[.int .i64 a, .int .i64 b] w fun e w' => e = .returned (.tuple #[.int .i64 (wrap64 (a + b)), .bool (sumF a b)]) ∧ w = w' := sum_any a b w
theorem dif_b (a b : Int) (w : World) :
    Calls Try.prog 44 #[.int .i64 a, .int .i64 b] w fun e w' => e = .returned (.tuple #[.int .i64 (wrap64 (a - b)), .bool (difF a b)]) ∧ w = w' := by
  go_enter Try.func44, Try.ntmps44
  go_wp2
  go_ret2
  exact ⟨rfl, rfl⟩

def addR (fa fb : Bool) (k1 i1 k2 i2 : Int) : Int × Int × Int :=
  if (!fa || !fb) = true then (0, 0, 1) else if (k1 == 2 && k2 == 2) = true then numR (wrap64 (i1 + i2)) (sumF i1 i2) else if (k1 == 4 && k2 == 2) = true then timeR (wrap64 (i1 + i2)) (sumF i1 i2) else (0, 0, 6)
theorem addR_num {k1 i1 k2 i2 : Int} (h : k1 = 2) (h' : (k2 == 2) = true) : addR true true k1 i1 k2 i2 = numR (wrap64 (i1 + i2)) (sumF i1 i2) := by simp [addR, h, h']
theorem addR_time {k1 i1 k2 i2 : Int} (h : k1 = 4) (h' : (k2 == 2) = true) : addR true true k1 i1 k2 i2 = timeR (wrap64 (i1 + i2)) (sumF i1 i2) := by simp [addR, h, h']
theorem addR_no {k1 i1 k2 i2 : Int} (h' : (k2 == 2) = false) : addR true true k1 i1 k2 i2 = (0, 0, 6) := by simp [addR, h']
theorem addR_no' {k1 i1 k2 i2 : Int} (h : ¬ k1 = 2) (h' : ¬ k1 = 4) : addR true true k1 i1 k2 i2 = (0, 0, 6) := by simp [addR, h, h']
def AddPost (r : Int × Int × Int) (w : World) (e : Ending) (w' : World) : Prop := e = .returned (R3 r) ∧ Below w.heap.size w w'
set_option maxHeartbeats 1000000 in
theorem add_any (k1 i1 : Int) (s1 : ByteArray) (a1 : Option Addr) (n1 c1 : Nat) (k2 i2 : Int) (s2 : ByteArray) (a2 : Option Addr) (n2 c2 : Nat) (fa fb : Bool) (w : World)
    (ha : FormedIs w (V k1 i1 s1 a1 n1 c1) fa) (hb : FormedIs w (V k2 i2 s2 a2 n2 c2) fb) :
    Calls Try.prog 19 #[V k1 i1 s1 a1 n1 c1, V k2 i2 s2 a2 n2 c2] w (AddPost (addR fa fb k1 i1 k2 i2) w) := by
  have HA := Lib.hid ha
  have HB := Lib.hid hb
  clear ha hb
  cases fa
  · go_enter Try.func19, Try.ntmps19
    go_wp2_with fail
    refine (HA.out.call _ ?_).mono ?_
    · exact (((Below.refl _ _).alloc (Nat.le_refl _) _).alloc (by simp) _).alloc (by simp; omega) _
    rintro e w1 ⟨rfl, h1⟩
    obtain ⟨hc, hf⟩ := bcell h1
    go_wp2
    exact bodyPost_ret (v := R3 (0, 0, 1)) (by simp [results, Try.results19, go_sem, hc]) rfl ⟨rfl, below_set4 (((((Below.refl _ _).alloc (Nat.le_refl _) _).alloc (by simp) _).alloc (by simp; omega) _).trans (h1.mono (by simp; omega))) _ (by omega) _ _ _ _⟩
  go_enter Try.func19, Try.ntmps19
  go_wp2_with fail
  have h0 : Below w.heap.size w (((w.alloc (Obj.cells #[.int .i64 k1, .int .i64 i1, .string s1, .slice a1 n1 c1] 24)).alloc (Obj.cells #[.int .i64 k2, .int .i64 i2, .string s2, .slice a2 n2 c2] 24)).alloc (Obj.cells #[.int .i64 0, .int .i64 0, .string ⟨#[]⟩, .slice none 0 0] 24)) := (((Below.refl _ _).alloc (Nat.le_refl _) _).alloc (by simp) _).alloc (by simp; omega) _
  have hs0 := h0.size
  refine (HA.out.call _ h0).mono ?_
  rintro e w1 ⟨rfl, h1⟩
  obtain ⟨hc, hf⟩ := bcell h1
  go_wp2_with fail
  refine (HB.out.call _ (h0.trans (h1.mono hs0))).mono ?_
  rintro e w2 ⟨rfl, h2⟩
  have h2' := h1.trans (h2.mono h1.size)
  clear hc hf h2
  obtain ⟨hc, hf⟩ := bcell h2'
  cases fb
  · go_wp2
    exact bodyPost_ret (v := R3 (0, 0, 1)) (by simp [results, Try.results19, go_sem, hc]) rfl ⟨rfl, below_set4 (h0.trans (h2'.mono hs0)) _ (by omega) _ _ _ _⟩
  go_wp2_with (first
    | (go_at_call 42; refine (sum_b _ _ _).mono ?_; rintro e w' ⟨rfl, rfl⟩)
    | (go_at_call 41; refine (newNumber_b _ _ _).mono ?_; rintro e w3 ⟨rfl, h3⟩; have h3' := h2'.trans (h3.mono h2'.size); clear hc hf h3; obtain ⟨hc, hf⟩ := bcell h3')
    | (go_at_call 43; refine (newTime_b _ _ _).mono ?_; rintro e w3 ⟨rfl, h3⟩; have h3' := h2'.trans (h3.mono h2'.size); clear hc hf h3; obtain ⟨hc, hf⟩ := bcell h3'))
  all_goals first
    | exact bodyPost_ret (v := R3 (numR (wrap64 (i1 + i2)) (sumF i1 i2))) (by simp [results, Try.results19, go_sem, hc]) rfl ⟨by rw [addR_num ‹_› ‹_›], below_set4 (h0.trans (h3'.mono hs0)) _ (by omega) _ _ _ _⟩
    | exact bodyPost_ret (v := R3 (timeR (wrap64 (i1 + i2)) (sumF i1 i2))) (by simp [results, Try.results19, go_sem, hc]) rfl ⟨by rw [addR_time ‹_› ‹_›], below_set4 (h0.trans (h3'.mono hs0)) _ (by omega) _ _ _ _⟩
    | exact bodyPost_ret (v := R3 (0, 0, 6)) (by simp [results, Try.results19, go_sem, hc]) rfl ⟨by rw [addR_no ‹_›], below_set4 (h0.trans (h2'.mono hs0)) _ (by omega) _ _ _ _⟩
    | exact bodyPost_ret (v := R3 (0, 0, 6)) (by simp [results, Try.results19, go_sem, hc]) rfl ⟨by rw [addR_no' ‹_› ‹_›], below_set4 (h0.trans (h2'.mono hs0)) _ (by omega) _ _ _ _⟩
end Go.Proofs.Ytgfnbbclopdapaa
