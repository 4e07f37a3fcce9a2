/- The order of values that are no bags. -/
import Derived.Test.YtebadbnlihbecaaVLeaf
import Derived.Test.YtebadbnlihbecaaVMath
namespace Go.Proofs.Ytebadbnlihbecaa
open Go.RowKit

theorem nanI_any (a : Int) (w : World) : Calls Try.prog 63 #[.int .i64 a] w fun e w' => e = .returned (.bool false) ∧ w = w' := by
  go_enter Try.func63, Try.ntmps63
  go_wp2
  go_ret
  exact ⟨rfl, rfl⟩
theorem nanK_any (a : Int) (w : World) : Calls Try.prog 62 #[.int .i64 a] w fun e w' => e = .returned (.bool false) ∧ w = w' := by
  go_enter Try.func62, Try.ntmps62
  go_wp2
  go_ret
  exact ⟨rfl, rfl⟩
theorem nanS_any (a : ByteArray) (w : World) : Calls Try.prog 64 #[.string a] w fun e w' => e = .returned (.bool false) ∧ w = w' := by
  go_enter Try.func64, Try.ntmps64
  go_wp2
  go_ret
  exact ⟨rfl, rfl⟩
theorem cmpI_any (a b : Int) (w : World) : Calls Try.prog 60 #[.int .i64 a, .int .i64 b] w fun e w' => e = .returned (.int .i64 (cmpI a b)) ∧ w = w' := by
  go_enter Try.func60, Try.ntmps60
  go_wp2_with (go_at_call 63; refine (nanI_any _ _).mono ?_; rintro e w' ⟨rfl, rfl⟩)
  all_goals
    go_ret
    exact ⟨ret_int (by unfold cmpI; (repeat split) <;> omega), rfl⟩
theorem cmpK_any (a b : Int) (w : World) : Calls Try.prog 59 #[.int .i64 a, .int .i64 b] w fun e w' => e = .returned (.int .i64 (cmpI a b)) ∧ w = w' := by
  go_enter Try.func59, Try.ntmps59
  go_wp2_with (go_at_call 62; refine (nanK_any _ _).mono ?_; rintro e w' ⟨rfl, rfl⟩)
  all_goals
    go_ret
    exact ⟨ret_int (by unfold cmpI; (repeat split) <;> omega), rfl⟩
theorem numbers_any (a b : Int) (w : World) : Calls Try.prog 55 #[.int .i64 a, .int .i64 b] w fun e w' => e = .returned (.int .i64 (cmpI a b)) ∧ w = w' := by
  go_enter Try.func55, Try.ntmps55
  go_wp2
  all_goals
    go_ret
    exact ⟨ret_int (by unfold cmpI; (repeat split) <;> omega), rfl⟩
/-- texts, compared by their bytes -/
def cmpS (a b : ByteArray) : Int := cmpT a.data.toList b.data.toList
theorem cmpS_lt {a b : ByteArray} (h : Op.bytesLess a.toList b.toList = true) : -1 = cmpS a b := by
  rw [ByteArray.toList_eq, ByteArray.toList_eq, less_cmpT] at h; exact (of_decide_eq_true h).symm
theorem cmpS_gt {a b : ByteArray} (h : Op.bytesLess a.toList b.toList = false) (h' : (!a.toList == b.toList) = true) : 1 = cmpS a b := by
  rw [ByteArray.toList_eq, ByteArray.toList_eq] at h h'
  rw [less_cmpT] at h
  rw [eq_cmpT] at h'
  have := cmpT_range a.data.toList b.data.toList
  simp at h h'
  unfold cmpS; omega
theorem cmpS_eq {a b : ByteArray} (h' : (!a.toList == b.toList) = false) : 0 = cmpS a b := by
  rw [ByteArray.toList_eq, ByteArray.toList_eq, eq_cmpT] at h'
  simp at h'
  unfold cmpS; omega
theorem cmpS_any (a b : ByteArray) (w : World) : Calls Try.prog 61 #[.string a, .string b] w fun e w' => e = .returned (.int .i64 (cmpS a b)) ∧ w = w' := by
  go_enter Try.func61, Try.ntmps61
  go_wp2_with (go_at_call 64; refine (nanS_any _ _).mono ?_; rintro e w' ⟨rfl, rfl⟩)
  all_goals
    go_ret
    first
      | exact ⟨ret_int (cmpS_lt ‹_›), rfl⟩
      | exact ⟨ret_int (cmpS_gt ‹_› ‹_›), rfl⟩
      | exact ⟨ret_int (cmpS_eq ‹_›), rfl⟩
theorem cmpS_step (a b : ByteArray) (k : Nat) (hx : k < a.size) (hy : k < b.size) :
    cmpT (a.data.toList.drop k) (b.data.toList.drop k) = if a[k].toNat < b[k].toNat then -1 else if b[k].toNat < a[k].toNat then 1 else cmpT (a.data.toList.drop (k + 1)) (b.data.toList.drop (k + 1)) := by
  rw [cmpT_step a.data.toList b.data.toList k (by simpa using hx) (by simpa using hy)]
  simp only [UInt8.lt_iff_toNat_lt]
  rfl
theorem cmpS_end (a b : ByteArray) (k : Nat) (hx : k ≤ a.size) (hy : k ≤ b.size) (h : k = a.size ∨ k = b.size) : cmpT (a.data.toList.drop k) (b.data.toList.drop k) = cmpI a.size b.size := by
  have := cmpT_end a.data.toList b.data.toList k (by simpa using hx) (by simpa using hy) (by simpa using h)
  simpa using this
set_option maxHeartbeats 400000 in
theorem texts_any (a b : ByteArray) (w : World) (ha : a.size ≤ maxLen) (hb : b.size ≤ maxLen) : Calls Try.prog 56 #[.string a, .string b] w fun e w' => e = .returned (.int .i64 (cmpS a b)) ∧ Below w.heap.size w w' := by
  have ha' := ha
  have hb' := hb
  clear ha hb
  unfold maxLen at ha' hb'
  go_enter Try.func56, Try.ntmps56
  go_wp2
  go_loopw [5] (fun i wr => ∃ k : Nat, k ≤ a.size ∧ k ≤ b.size ∧ i = .int .i64 k ∧ Hid (cmpS a b = cmpT (a.data.toList.drop k) (b.data.toList.drop k)) ∧ Below w.heap.size w wr) (fun i _ => a.size - (intOf i).toNat)
  case atStart => exact ⟨0, by omega, by omega, rfl, Lib.hid rfl, Below.refl _ _⟩
  case round =>
    obtain ⟨k, hka, hkb, rfl, HC, hbw⟩ := hrel
    have HB := Lib.hid hbw
    clear hbw
    by_cases hlt : k < a.size
    · by_cases hlb : k < b.size
      · have hst := cmpS_step a b k hlt hlb
        have HST := Lib.hid hst
        clear hst
        by_cases h1 : a[k].toNat < b[k].toNat
        · go_wp2_with fail
          go_quiet (fail)
          go_wp2_with fail
          go_ret
          exact ⟨ret_int (by rw [HC.out, HST.out, if_pos h1]), below_drewN HB.out _⟩
        · by_cases h2 : b[k].toNat < a[k].toNat
          · go_wp2_with fail
            go_quiet (fail)
            go_wp2_with fail
            go_quiet (fail)
            go_wp2_with fail
            go_ret
            exact ⟨ret_int (by rw [HC.out, HST.out, if_neg h1, if_pos h2]), below_drewN (below_drewN HB.out _) _⟩
          · go_wp2_with fail
            go_quiet (fail)
            go_wp2_with fail
            go_quiet (fail)
            go_wp2_with fail
            go_roundw
            case rel => exact ⟨k + 1, by omega, by omega, by go_num, Lib.hid (by rw [HC.out, HST.out, if_neg h1, if_neg h2]), below_drewN HB.out _⟩
            case measure => simp [intOf]; omega
      · have hend := cmpS_end a b k (by omega) (by omega) (by omega)
        have HE := Lib.hid hend
        clear hend
        go_wp2
        all_goals
          go_ret
          exact ⟨ret_int (by rw [HC.out, HE.out]; unfold cmpI; (repeat split) <;> omega), HB.out⟩
    · have hend := cmpS_end a b k (by omega) (by omega) (by omega)
      have HE := Lib.hid hend
      clear hend
      go_wp2
      all_goals
        go_ret
        exact ⟨ret_int (by rw [HC.out, HE.out]; unfold cmpI; (repeat split) <;> omega), HB.out⟩

/-- the order of two values, as the program has it within bags -/
def ordA (k1 i1 : Int) (s1 : ByteArray) (k2 i2 : Int) (s2 : ByteArray) : Int :=
  if (k1 != k2) = true then cmpI k1 k2 else if k1 = 1 ∨ k1 = 2 ∨ k1 = 4 then cmpI i1 i2 else if k1 = 3 then cmpS s1 s2 else 0
/-- the order of two values that are no bags, as the document has it -/
def ordS (k1 i1 : Int) (s1 : ByteArray) (k2 i2 : Int) (s2 : ByteArray) : Int :=
  if (k1 != k2) = true then cmpI k1 k2 else if k1 = 3 then cmpS s1 s2 else cmpI i1 i2
set_option maxHeartbeats 400000 in
theorem orderAlone_any (k1 i1 : Int) (s1 : ByteArray) (a1 : Option Addr) (n1 c1 : Nat) (k2 i2 : Int) (s2 : ByteArray) (a2 : Option Addr) (n2 c2 : Nat) (w : World) :
    Calls Try.prog 57 #[V k1 i1 s1 a1 n1 c1, V k2 i2 s2 a2 n2 c2] w fun e w' => e = .returned (.int .i64 (ordA k1 i1 s1 k2 i2 s2)) ∧ Below w.heap.size w w' := by
  go_enter Try.func57, Try.ntmps57
  go_wp2_with (first
    | (go_at_call 59; refine (cmpK_any _ _ _).mono ?_; rintro e w' ⟨rfl, rfl⟩)
    | (go_at_call 60; refine (cmpI_any _ _ _).mono ?_; rintro e w' ⟨rfl, rfl⟩)
    | (go_at_call 61; refine (cmpS_any _ _ _).mono ?_; rintro e w' ⟨rfl, rfl⟩))
  all_goals
    go_ret
    refine ⟨ret_int ?_, ((Below.refl _ _).alloc (Nat.le_refl _) _).alloc (by simp) _⟩
    unfold ordA
    simp_all
set_option maxHeartbeats 400000 in
theorem single_any (k1 i1 : Int) (s1 : ByteArray) (a1 : Option Addr) (n1 c1 : Nat) (k2 i2 : Int) (s2 : ByteArray) (a2 : Option Addr) (n2 c2 : Nat) (w : World) (h1 : s1.size ≤ maxLen) (h2 : s2.size ≤ maxLen) :
    Calls Try.prog 46 #[V k1 i1 s1 a1 n1 c1, V k2 i2 s2 a2 n2 c2] w fun e w' => e = .returned (.int .i64 (ordS k1 i1 s1 k2 i2 s2)) ∧ Below w.heap.size w w' := by
  have H1 := Lib.hid h1
  have H2 := Lib.hid h2
  clear h1 h2
  go_enter Try.func46, Try.ntmps46
  have hb0 : ∀ w' a b, Below ((w.alloc a).alloc b).heap.size ((w.alloc a).alloc b) w' → Below w.heap.size w w' := fun w' a b h => (((Below.refl _ _).alloc (Nat.le_refl _) _).alloc (by simp) _).trans (h.mono (by simp; omega))
  have HB0 := Lib.hid hb0
  clear hb0
  go_wp2_with (first
    | (go_at_call 55; refine (numbers_any _ _ _).mono ?_; rintro e w' ⟨rfl, rfl⟩)
    | (go_at_call 56; refine (texts_any _ _ _ H1.out H2.out).mono ?_; rintro e w' ⟨rfl, hb⟩))
  all_goals
    go_ret
    refine ⟨ret_int ?_, by first | exact HB0.out _ _ _ hb | exact HB0.out _ _ _ (Below.refl _ _)⟩
    unfold ordS
    simp_all
end Go.Proofs.Ytebadbnlihbecaa
