/- Differences and products of values. -/
import Derived.Test.YtcgbodbjjfngpaaVAdd
namespace Go.Proofs.Ytcgbodbjjfngpaa
open Go.RowKit

def subR (fa fb : Bool) (k1 i1 k2 i2 : Int) : Int × Int × Int :=
  if (!fa || !fb) = true then (0, 0, 1) else if (k1 == 2 && k2 == 2 || k1 == 4 && k2 == 4) = true then numR (wrap64 (i1 - i2)) (difF i1 i2) else if (k1 == 4 && k2 == 2) = true then timeR (wrap64 (i1 - i2)) (difF i1 i2) else (0, 0, 6)
theorem subR_num {k1 i1 k2 i2 : Int} (h : k1 = 2) (h' : (k2 == 2) = true) : subR true true k1 i1 k2 i2 = numR (wrap64 (i1 - i2)) (difF i1 i2) := by simp [subR, h, h']
theorem subR_num' {k1 i1 k2 i2 : Int} (h : k1 = 4) (h' : (k2 == 4) = true) : subR true true k1 i1 k2 i2 = numR (wrap64 (i1 - i2)) (difF i1 i2) := by simp [subR, h, h']
theorem subR_time {k1 i1 k2 i2 : Int} (h : k1 = 4) (h' : (k2 == 2) = true) : subR true true k1 i1 k2 i2 = timeR (wrap64 (i1 - i2)) (difF i1 i2) := by
  have e : k2 = 2 := by simpa using h'
  simp [subR, h, e]
theorem subR_no1 {k1 i1 k2 i2 : Int} (h : k1 = 2) (h' : (k2 == 2) = false) : subR true true k1 i1 k2 i2 = (0, 0, 6) := by simp [subR, h, h']
theorem subR_no2 {k1 i1 k2 i2 : Int} (h : (k2 == 4) = false) (h' : (k2 == 2) = false) : subR true true k1 i1 k2 i2 = (0, 0, 6) := by simp [subR, h, h']
theorem subR_no3 {k1 i1 k2 i2 : Int} (h : ¬ k1 = 2) (h' : ¬ k1 = 4) : subR true true k1 i1 k2 i2 = (0, 0, 6) := by simp [subR, h, h']
set_option maxHeartbeats 1000000 in
theorem sub_any (k1 i1 : Int) (s1 : ByteArray) (a1 : Option Addr) (n1 c1 : Nat) (k2 i2 : Int) (s2 : ByteArray) (a2 : Option Addr) (n2 c2 : Nat) (fa fb : Bool) (w : World)
    (ha : FormedIs w (V k1 i1 s1 a1 n1 c1) fa) (hb : FormedIs w (V k2 i2 s2 a2 n2 c2) fb) :
    Calls Try.prog 20 #[V k1 i1 s1 a1 n1 c1, V k2 i2 s2 a2 n2 c2] w (AddPost (subR fa fb k1 i1 k2 i2) w) := by
  have HA := Lib.hid ha
  have HB := Lib.hid hb
  clear ha hb
  cases fa
  · go_enter Try.func20, Try.ntmps20
    go_wp2_with fail
    refine (HA.out.call _ ?_).mono ?_
    · exact (((Below.refl _ _).alloc (Nat.le_refl _) _).alloc (by simp) _).alloc (by simp; omega) _
    rintro e w1 ⟨rfl, h1⟩
    obtain ⟨hc, hf⟩ := bcell h1
    go_wp2
    exact bodyPost_ret (v := R3 (0, 0, 1)) (by simp [results, Try.results20, go_sem, hc]) rfl ⟨rfl, below_set4 (((((Below.refl _ _).alloc (Nat.le_refl _) _).alloc (by simp) _).alloc (by simp; omega) _).trans (h1.mono (by simp; omega))) _ (by omega) _ _ _ _⟩
  go_enter Try.func20, Try.ntmps20
  go_wp2_with fail
  have h0 : Below w.heap.size w (((w.alloc (Obj.cells #[.int .i64 k1, .int .i64 i1, .string s1, .slice a1 n1 c1] 24)).alloc (Obj.cells #[.int .i64 k2, .int .i64 i2, .string s2, .slice a2 n2 c2] 24)).alloc (Obj.cells #[.int .i64 0, .int .i64 0, .string ⟨#[]⟩, .slice none 0 0] 24)) := (((Below.refl _ _).alloc (Nat.le_refl _) _).alloc (by simp) _).alloc (by simp; omega) _
  have hs0 := h0.size
  refine (HA.out.call _ h0).mono ?_
  rintro e w1 ⟨rfl, h1⟩
  obtain ⟨hc, hf⟩ := bcell h1
  go_wp2_with fail
  refine (HB.out.call _ (h0.trans (h1.mono hs0))).mono ?_
  rintro e w2 ⟨rfl, h2⟩
  have h2' := h1.trans (h2.mono h1.size)
  clear hc hf h2
  obtain ⟨hc, hf⟩ := bcell h2'
  cases fb
  · go_wp2
    exact bodyPost_ret (v := R3 (0, 0, 1)) (by simp [results, Try.results20, go_sem, hc]) rfl ⟨rfl, below_set4 (h0.trans (h2'.mono hs0)) _ (by omega) _ _ _ _⟩
  go_wp2_with (first
    | (go_at_call 44; refine (dif_b _ _ _).mono ?_; rintro e w' ⟨rfl, rfl⟩)
    | (go_at_call 41; refine (newNumber_b _ _ _).mono ?_; rintro e w3 ⟨rfl, h3⟩; have h3' := h2'.trans (h3.mono h2'.size); clear hc hf h3; obtain ⟨hc, hf⟩ := bcell h3')
    | (go_at_call 43; refine (newTime_b _ _ _).mono ?_; rintro e w3 ⟨rfl, h3⟩; have h3' := h2'.trans (h3.mono h2'.size); clear hc hf h3; obtain ⟨hc, hf⟩ := bcell h3'))
  all_goals first
    | exact bodyPost_ret (v := R3 (numR (wrap64 (i1 - i2)) (difF i1 i2))) (by simp [results, Try.results20, go_sem, hc]) rfl ⟨by rw [subR_num ‹_› ‹_›], below_set4 (h0.trans (h3'.mono hs0)) _ (by omega) _ _ _ _⟩
    | exact bodyPost_ret (v := R3 (numR (wrap64 (i1 - i2)) (difF i1 i2))) (by simp [results, Try.results20, go_sem, hc]) rfl ⟨by rw [subR_num' ‹_› ‹_›], below_set4 (h0.trans (h3'.mono hs0)) _ (by omega) _ _ _ _⟩
    | exact bodyPost_ret (v := R3 (timeR (wrap64 (i1 - i2)) (difF i1 i2))) (by simp [results, Try.results20, go_sem, hc]) rfl ⟨by rw [subR_time ‹_› ‹_›], below_set4 (h0.trans (h3'.mono hs0)) _ (by omega) _ _ _ _⟩
    | exact bodyPost_ret (v := R3 (0, 0, 6)) (by simp [results, Try.results20, go_sem, hc]) rfl ⟨by rw [subR_no1 ‹_› ‹_›], below_set4 (h0.trans (h2'.mono hs0)) _ (by omega) _ _ _ _⟩
    | exact bodyPost_ret (v := R3 (0, 0, 6)) (by simp [results, Try.results20, go_sem, hc]) rfl ⟨by rw [subR_no2 ‹_› ‹_›], below_set4 (h0.trans (h2'.mono hs0)) _ (by omega) _ _ _ _⟩
    | exact bodyPost_ret (v := R3 (0, 0, 6)) (by simp [results, Try.results20, go_sem, hc]) rfl ⟨by rw [subR_no3 ‹_› ‹_›], below_set4 (h0.trans (h2'.mono hs0)) _ (by omega) _ _ _ _⟩

/-- does a product fit? as the program tells -/
def prodF (a b : Int) : Bool := if a = 0 ∨ b = 0 then true else if b = -1 then !(a == -9223372036854775808) else wrap64 ((wrap64 (a * b)).tdiv b) == a
theorem prod_b (a b : Int) (w : World) :
    Calls Try.prog 45 #[.int .i64 a, .int .i64 b] w fun e w' => e = .returned (.tuple #[.int .i64 (wrap64 (a * b)), .bool (prodF a b)]) ∧ Below w.heap.size w w' := by
  by_cases ha : a = 0
  · have e : prodF a b = true := by simp [prodF, ha]
    rw [e]; clear e
    have h1 : (a == 0) = true := by simpa using ha
    clear ha
    go_enter Try.func45, Try.ntmps45
    go_wp2
    go_ret2
    exact ⟨rfl, Below.refl _ _⟩
  have h1 : (a == 0) = false := by simpa using ha
  by_cases hb : b = 0
  · have e : prodF a b = true := by simp [prodF, hb]
    rw [e]; clear e
    have h2 : (b == 0) = true := by simpa using hb
    clear hb ha
    go_enter Try.func45, Try.ntmps45
    go_wp2
    go_ret2
    exact ⟨rfl, Below.refl _ _⟩
  have h2 : (b == 0) = false := by simpa using hb
  by_cases hm : b = -1
  · have e : prodF a b = !(a == -9223372036854775808) := by simp [prodF, ha, hm]
    rw [e]; clear e
    have h3 : (b == -1) = true := by simpa using hm
    clear hm hb ha
    go_enter Try.func45, Try.ntmps45
    go_wp2
    go_ret2
    exact ⟨rfl, Below.refl _ _⟩
  have h3 : (b == -1) = false := by simpa using hm
  have e : prodF a b = (wrap64 ((wrap64 (a * b)).tdiv b) == a) := by rw [prodF, if_neg (by simp [ha, hb]), if_neg hm]
  rw [e]; clear e
  go_enter Try.func45, Try.ntmps45
  go_wp2_with fail
  go_quiet (fail)
  go_wp2
  go_ret2
  exact ⟨rfl, below_drewN (Below.refl _ _) _⟩

def mulR (fa fb : Bool) (k1 i1 k2 i2 : Int) : Int × Int × Int :=
  if (!fa || !fb) = true then (0, 0, 1) else if (k1 == 2 && k2 == 2) = true then numR (wrap64 (i1 * i2)) (prodF i1 i2) else (0, 0, 6)
theorem mulR_num {k1 i1 k2 i2 : Int} (h : k1 = 2) (h' : (k2 == 2) = true) : mulR true true k1 i1 k2 i2 = numR (wrap64 (i1 * i2)) (prodF i1 i2) := by simp [mulR, h, h']
theorem mulR_no {k1 i1 k2 i2 : Int} (h' : (k2 == 2) = false) : mulR true true k1 i1 k2 i2 = (0, 0, 6) := by simp [mulR, h']
theorem mulR_no' {k1 i1 k2 i2 : Int} (h : ¬ k1 = 2) : mulR true true k1 i1 k2 i2 = (0, 0, 6) := by simp [mulR, h]
set_option maxHeartbeats 1000000 in
theorem mul_any (k1 i1 : Int) (s1 : ByteArray) (a1 : Option Addr) (n1 c1 : Nat) (k2 i2 : Int) (s2 : ByteArray) (a2 : Option Addr) (n2 c2 : Nat) (fa fb : Bool) (w : World)
    (ha : FormedIs w (V k1 i1 s1 a1 n1 c1) fa) (hb : FormedIs w (V k2 i2 s2 a2 n2 c2) fb) :
    Calls Try.prog 21 #[V k1 i1 s1 a1 n1 c1, V k2 i2 s2 a2 n2 c2] w (AddPost (mulR fa fb k1 i1 k2 i2) w) := by
  have HA := Lib.hid ha
  have HB := Lib.hid hb
  clear ha hb
  cases fa
  · go_enter Try.func21, Try.ntmps21
    go_wp2_with fail
    refine (HA.out.call _ ?_).mono ?_
    · exact (((Below.refl _ _).alloc (Nat.le_refl _) _).alloc (by simp) _).alloc (by simp; omega) _
    rintro e w1 ⟨rfl, h1⟩
    obtain ⟨hc, hf⟩ := bcell h1
    go_wp2
    exact bodyPost_ret (v := R3 (0, 0, 1)) (by simp [results, Try.results21, go_sem, hc]) rfl ⟨rfl, below_set4 (((((Below.refl _ _).alloc (Nat.le_refl _) _).alloc (by simp) _).alloc (by simp; omega) _).trans (h1.mono (by simp; omega))) _ (by omega) _ _ _ _⟩
  go_enter Try.func21, Try.ntmps21
  go_wp2_with fail
  have h0 : Below w.heap.size w (((w.alloc (Obj.cells #[.int .i64 k1, .int .i64 i1, .string s1, .slice a1 n1 c1] 24)).alloc (Obj.cells #[.int .i64 k2, .int .i64 i2, .string s2, .slice a2 n2 c2] 24)).alloc (Obj.cells #[.int .i64 0, .int .i64 0, .string ⟨#[]⟩, .slice none 0 0] 24)) := (((Below.refl _ _).alloc (Nat.le_refl _) _).alloc (by simp) _).alloc (by simp; omega) _
  have hs0 := h0.size
  refine (HA.out.call _ h0).mono ?_
  rintro e w1 ⟨rfl, h1⟩
  obtain ⟨hc, hf⟩ := bcell h1
  go_wp2_with fail
  refine (HB.out.call _ (h0.trans (h1.mono hs0))).mono ?_
  rintro e w2 ⟨rfl, h2⟩
  have h2' := h1.trans (h2.mono h1.size)
  clear hc hf h2
  obtain ⟨hc, hf⟩ := bcell h2'
  cases fb
  · go_wp2
    exact bodyPost_ret (v := R3 (0, 0, 1)) (by simp [results, Try.results21, go_sem, hc]) rfl ⟨rfl, below_set4 (h0.trans (h2'.mono hs0)) _ (by omega) _ _ _ _⟩
  go_wp2_with (first
    | (go_at_call 45; refine (prod_b _ _ _).mono ?_; rintro e w3 ⟨rfl, h3⟩; have h3' := h2'.trans (h3.mono h2'.size); clear hc hf h3; obtain ⟨hc, hf⟩ := bcell h3')
    | (go_at_call 41; refine (newNumber_b _ _ _).mono ?_; rintro e w4 ⟨rfl, h4⟩; have h4' := h3'.trans (h4.mono h3'.size); clear hc hf h4; obtain ⟨hc, hf⟩ := bcell h4'))
  all_goals first
    | exact bodyPost_ret (v := R3 (numR (wrap64 (i1 * i2)) (prodF i1 i2))) (by simp [results, Try.results21, go_sem, hc]) rfl ⟨by rw [mulR_num ‹_› ‹_›], below_set4 (h0.trans (h4'.mono hs0)) _ (by omega) _ _ _ _⟩
    | exact bodyPost_ret (v := R3 (0, 0, 6)) (by simp [results, Try.results21, go_sem, hc]) rfl ⟨by rw [mulR_no ‹_›], below_set4 (h0.trans (h2'.mono hs0)) _ (by omega) _ _ _ _⟩
    | exact bodyPost_ret (v := R3 (0, 0, 6)) (by simp [results, Try.results21, go_sem, hc]) rfl ⟨by rw [mulR_no' ‹_›], below_set4 (h0.trans (h2'.mono hs0)) _ (by omega) _ _ _ _⟩
end Go.Proofs.Ytcgbodbjjfngpaa
