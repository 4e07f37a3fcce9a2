/- The order of numbers and texts, as plain functions. No program is named here; The order of values that are no bags. -/
import Derived.WalkKit
import Derived.Test.YtllgodaphoncnaaGreatDoorJ01
namespace Go.Proofs.YtllgodaphoncnaaGreatDoor

/-- -1, 0, 1 -/
def cmpI (a b : Int) : Int := if a < b then -1 else if b < a then 1 else 0
def cmpT : List UInt8 → List UInt8 → Int
  | [], [] => 0
  | [], _ :: _ => -1
  | _ :: _, [] => 1
  | a :: x, b :: y => if a < b then -1 else if b < a then 1 else cmpT x y
set_option maxRecDepth 100000 in
theorem cmpT_range : ∀ x y, cmpT x y = -1 ∨ cmpT x y = 0 ∨ cmpT x y = 1
  | [], [] => by simp [cmpT]
  | [], _ :: _ => by simp [cmpT]
  | _ :: _, [] => by simp [cmpT]
  | a :: x, b :: y => by
    have := cmpT_range x y
    unfold cmpT; split
    · simp
    · split
      · simp
      · exact this
set_option maxRecDepth 100000 in
theorem u8_eq_of {a b : UInt8} (h : ¬ a < b) (h' : ¬ b < a) : a = b := by
  rw [UInt8.lt_iff_toNat_lt] at h h'
  exact UInt8.toNat_inj.1 (by omega)
set_option maxRecDepth 100000 in
theorem less_cmpT : ∀ x y, Op.bytesLess x y = decide (cmpT x y = -1)
  | [], [] => by simp [cmpT, Op.bytesLess]
  | [], _ :: _ => by simp [cmpT, Op.bytesLess]
  | _ :: _, [] => by simp [cmpT, Op.bytesLess]
  | a :: x, b :: y => by
    have ih := less_cmpT x y
    unfold cmpT Op.bytesLess
    by_cases h : a < b
    · simp [h]
    · rw [if_neg h]
      by_cases h' : b < a
      · rw [if_pos h']
        have hne : a ≠ b := by intro e; subst e; exact h h'
        simp [h, hne]
      · rw [if_neg h']
        have he := u8_eq_of h h'
        subst he
        simp [h, ih]
set_option maxRecDepth 100000 in
theorem eq_cmpT : ∀ x y, (x == y) = decide (cmpT x y = 0)
  | [], [] => by simp [cmpT]
  | [], _ :: _ => by simp [cmpT]
  | _ :: _, [] => by simp [cmpT]
  | a :: x, b :: y => by
    have ih := eq_cmpT x y
    unfold cmpT
    by_cases h : a < b
    · have hne : a ≠ b := by intro e; subst e; rw [UInt8.lt_iff_toNat_lt] at h; omega
      simp [h, hne]
    · rw [if_neg h]
      by_cases h' : b < a
      · rw [if_pos h']
        have hne : a ≠ b := by intro e; subst e; exact h h'
        simp [hne]
      · rw [if_neg h']
        have he := u8_eq_of h h'
        subst he
        simpa using ih
set_option maxRecDepth 100000 in
theorem cmpT_step (x y : List UInt8) (k : Nat) (hx : k < x.length) (hy : k < y.length) :
    cmpT (x.drop k) (y.drop k) = if x[k] < y[k] then -1 else if y[k] < x[k] then 1 else cmpT (x.drop (k + 1)) (y.drop (k + 1)) := by
  rw [List.drop_eq_getElem_cons hx, List.drop_eq_getElem_cons hy, cmpT]
set_option maxRecDepth 100000 in
theorem cmpT_end (x y : List UInt8) (k : Nat) (hx : k ≤ x.length) (hy : k ≤ y.length) (h : k = x.length ∨ k = y.length) : cmpT (x.drop k) (y.drop k) = cmpI x.length y.length := by
  rcases h with rfl | rfl
  · rw [List.drop_length]
    rcases Nat.lt_or_ge x.length y.length with h | h
    · obtain ⟨b, l, e⟩ := List.exists_cons_of_ne_nil (show y.drop x.length ≠ [] by simp; omega)
      rw [e]; unfold cmpI; rw [if_pos (by omega)]; rfl
    · rw [List.drop_of_length_le (by omega)]; unfold cmpI; rw [if_neg (by omega), if_neg (by omega)]; rfl
  · rw [List.drop_length]
    rcases Nat.lt_or_ge y.length x.length with h | h
    · obtain ⟨b, l, e⟩ := List.exists_cons_of_ne_nil (show x.drop y.length ≠ [] by simp; omega)
      rw [e]; unfold cmpI; rw [if_neg (by omega), if_pos (by omega)]; rfl
    · rw [List.drop_of_length_le (by omega)]; unfold cmpI; rw [if_neg (by omega), if_neg (by omega)]; rfl
end Go.Proofs.YtllgodaphoncnaaGreatDoor
namespace Go.Proofs.YtllgodaphoncnaaGreatDoor
open Go.RowKit

set_option maxRecDepth 100000 in
theorem nanI_any (a : Int) (w : World) : Calls Tryz.prog 186 #[.int .i64 a] w fun e w' => e = .returned (.bool false) ∧ w = w' := by
  go_enter Tryz.func186, Tryz.ntmps186
  go_wp2
  go_ret
  exact ⟨rfl, rfl⟩
set_option maxRecDepth 100000 in
theorem nanK_any (a : Int) (w : World) : Calls Tryz.prog 185 #[.int .i64 a] w fun e w' => e = .returned (.bool false) ∧ w = w' := by
  go_enter Tryz.func185, Tryz.ntmps185
  go_wp2
  go_ret
  exact ⟨rfl, rfl⟩
set_option maxRecDepth 100000 in
theorem nanS_any (a : ByteArray) (w : World) : Calls Tryz.prog 187 #[.string a] w fun e w' => e = .returned (.bool false) ∧ w = w' := by
  go_enter Tryz.func187, Tryz.ntmps187
  go_wp2
  go_ret
  exact ⟨rfl, rfl⟩
set_option maxRecDepth 100000 in
theorem cmpI_any (a b : Int) (w : World) : Calls Tryz.prog 177 #[.int .i64 a, .int .i64 b] w fun e w' => e = .returned (.int .i64 (cmpI a b)) ∧ w = w' := by
  go_enter Tryz.func177, Tryz.ntmps177
  go_wp2_with (go_at_call 186; refine (nanI_any _ _).mono ?_; rintro e w' ⟨rfl, rfl⟩)
  all_goals
    go_ret
    exact ⟨vret_int (by unfold cmpI; (repeat split) <;> omega), rfl⟩
set_option maxRecDepth 100000 in
theorem cmpK_any (a b : Int) (w : World) : Calls Tryz.prog 176 #[.int .i64 a, .int .i64 b] w fun e w' => e = .returned (.int .i64 (cmpI a b)) ∧ w = w' := by
  go_enter Tryz.func176, Tryz.ntmps176
  go_wp2_with (go_at_call 185; refine (nanK_any _ _).mono ?_; rintro e w' ⟨rfl, rfl⟩)
  all_goals
    go_ret
    exact ⟨vret_int (by unfold cmpI; (repeat split) <;> omega), rfl⟩
set_option maxRecDepth 100000 in
theorem numbers_any (a b : Int) (w : World) : Calls Tryz.prog 115 #[.int .i64 a, .int .i64 b] w fun e w' => e = .returned (.int .i64 (cmpI a b)) ∧ w = w' := by
  go_enter Tryz.func115, Tryz.ntmps115
  go_wp2
  all_goals
    go_ret
    exact ⟨vret_int (by unfold cmpI; (repeat split) <;> omega), rfl⟩
/-- texts, compared by their bytes -/
def cmpS (a b : ByteArray) : Int := cmpT a.data.toList b.data.toList
set_option maxRecDepth 100000 in
theorem cmpS_lt {a b : ByteArray} (h : Op.bytesLess a.toList b.toList = true) : -1 = cmpS a b := by
  rw [ByteArray.toList_eq, ByteArray.toList_eq, less_cmpT] at h; exact (of_decide_eq_true h).symm
set_option maxRecDepth 100000 in
theorem cmpS_gt {a b : ByteArray} (h : Op.bytesLess a.toList b.toList = false) (h' : (!a.toList == b.toList) = true) : 1 = cmpS a b := by
  rw [ByteArray.toList_eq, ByteArray.toList_eq] at h h'
  rw [less_cmpT] at h
  rw [eq_cmpT] at h'
  have := cmpT_range a.data.toList b.data.toList
  simp at h h'
  unfold cmpS; omega
set_option maxRecDepth 100000 in
theorem cmpS_eq {a b : ByteArray} (h' : (!a.toList == b.toList) = false) : 0 = cmpS a b := by
  rw [ByteArray.toList_eq, ByteArray.toList_eq, eq_cmpT] at h'
  simp at h'
  unfold cmpS; omega
set_option maxRecDepth 100000 in
theorem cmpS_any (a b : ByteArray) (w : World) : Calls Tryz.prog 178 #[.string a, .string b] w fun e w' => e = .returned (.int .i64 (cmpS a b)) ∧ w = w' := by
  go_enter Tryz.func178, Tryz.ntmps178
  go_wp2_with (go_at_call 187; refine (nanS_any _ _).mono ?_; rintro e w' ⟨rfl, rfl⟩)
  all_goals
    go_ret
    first
      | exact ⟨vret_int (cmpS_lt ‹_›), rfl⟩
      | exact ⟨vret_int (cmpS_gt ‹_› ‹_›), rfl⟩
      | exact ⟨vret_int (cmpS_eq ‹_›), rfl⟩
set_option maxRecDepth 100000 in
theorem cmpS_step (a b : ByteArray) (k : Nat) (hx : k < a.size) (hy : k < b.size) :
    cmpT (a.data.toList.drop k) (b.data.toList.drop k) = if a[k].toNat < b[k].toNat then -1 else if b[k].toNat < a[k].toNat then 1 else cmpT (a.data.toList.drop (k + 1)) (b.data.toList.drop (k + 1)) := by
  rw [cmpT_step a.data.toList b.data.toList k (by simpa using hx) (by simpa using hy)]
  simp only [UInt8.lt_iff_toNat_lt]
  rfl
set_option maxRecDepth 100000 in
theorem cmpS_end (a b : ByteArray) (k : Nat) (hx : k ≤ a.size) (hy : k ≤ b.size) (h : k = a.size ∨ k = b.size) : cmpT (a.data.toList.drop k) (b.data.toList.drop k) = cmpI a.size b.size := by
  have := cmpT_end a.data.toList b.data.toList k (by simpa using hx) (by simpa using hy) (by simpa using h)
  simpa using this
set_option maxRecDepth 100000 in
set_option maxHeartbeats 400000 in
theorem texts_any (a b : ByteArray) (w : World) (ha : a.size ≤ maxLen) (hb : b.size ≤ maxLen) : Calls Tryz.prog 116 #[.string a, .string b] w fun e w' => e = .returned (.int .i64 (cmpS a b)) ∧ Below w.heap.size w w' := by
  have ha' := ha
  have hb' := hb
  clear ha hb
  unfold maxLen at ha' hb'
  go_enter Tryz.func116, Tryz.ntmps116
  go_wp2
  go_loopw [5] (fun i wr => ∃ k : Nat, k ≤ a.size ∧ k ≤ b.size ∧ i = .int .i64 k ∧ Hid (cmpS a b = cmpT (a.data.toList.drop k) (b.data.toList.drop k)) ∧ Below w.heap.size w wr) (fun i _ => a.size - (intOf i).toNat)
  case atStart => exact ⟨0, by omega, by omega, rfl, Lib.hid rfl, Below.refl _ _⟩
  case round =>
    obtain ⟨k, hka, hkb, rfl, HC, hbw⟩ := hrel
    have HB := Lib.hid hbw
    clear hbw
    by_cases hlt : k < a.size
    · by_cases hlb : k < b.size
      · have hst := cmpS_step a b k hlt hlb
        have HST := Lib.hid hst
        clear hst
        by_cases h1 : a[k].toNat < b[k].toNat
        · go_wp2_with fail
          go_quiet (fail)
          go_wp2_with fail
          go_ret
          exact ⟨vret_int (by rw [HC.out, HST.out, if_pos h1]), below_drewN HB.out _⟩
        · by_cases h2 : b[k].toNat < a[k].toNat
          · go_wp2_with fail
            go_quiet (fail)
            go_wp2_with fail
            go_quiet (fail)
            go_wp2_with fail
            go_ret
            exact ⟨vret_int (by rw [HC.out, HST.out, if_neg h1, if_pos h2]), below_drewN (below_drewN HB.out _) _⟩
          · go_wp2_with fail
            go_quiet (fail)
            go_wp2_with fail
            go_quiet (fail)
            go_wp2_with fail
            go_roundw
            case rel => exact ⟨k + 1, by omega, by omega, by go_num, Lib.hid (by rw [HC.out, HST.out, if_neg h1, if_neg h2]), below_drewN HB.out _⟩
            case measure => simp [intOf]; omega
      · have hend := cmpS_end a b k (by omega) (by omega) (by omega)
        have HE := Lib.hid hend
        clear hend
        go_wp2
        all_goals
          go_ret
          exact ⟨vret_int (by rw [HC.out, HE.out]; unfold cmpI; (repeat split) <;> omega), HB.out⟩
    · have hend := cmpS_end a b k (by omega) (by omega) (by omega)
      have HE := Lib.hid hend
      clear hend
      go_wp2
      all_goals
        go_ret
        exact ⟨vret_int (by rw [HC.out, HE.out]; unfold cmpI; (repeat split) <;> omega), HB.out⟩

/-- the order of two values, as the program has it within bags -/
def ordA (k1 i1 : Int) (s1 : ByteArray) (k2 i2 : Int) (s2 : ByteArray) : Int :=
  if (k1 != k2) = true then cmpI k1 k2 else if k1 = 1 ∨ k1 = 2 ∨ k1 = 4 then cmpI i1 i2 else if k1 = 3 then cmpS s1 s2 else 0
/-- the order of two values that are no bags, as the document has it -/
def ordS (k1 i1 : Int) (s1 : ByteArray) (k2 i2 : Int) (s2 : ByteArray) : Int :=
  if (k1 != k2) = true then cmpI k1 k2 else if k1 = 3 then cmpS s1 s2 else cmpI i1 i2
set_option maxRecDepth 100000 in
set_option maxHeartbeats 400000 in
theorem orderAlone_any (k1 i1 : Int) (s1 : ByteArray) (a1 : Option Addr) (n1 c1 : Nat) (k2 i2 : Int) (s2 : ByteArray) (a2 : Option Addr) (n2 c2 : Nat) (w : World) :
    Calls Tryz.prog 168 #[V k1 i1 s1 a1 n1 c1, V k2 i2 s2 a2 n2 c2] w fun e w' => e = .returned (.int .i64 (ordA k1 i1 s1 k2 i2 s2)) ∧ Below w.heap.size w w' := by
  go_enter Tryz.func168, Tryz.ntmps168
  go_wp2_with (first
    | (go_at_call 176; refine (cmpK_any _ _ _).mono ?_; rintro e w' ⟨rfl, rfl⟩)
    | (go_at_call 177; refine (cmpI_any _ _ _).mono ?_; rintro e w' ⟨rfl, rfl⟩)
    | (go_at_call 178; refine (cmpS_any _ _ _).mono ?_; rintro e w' ⟨rfl, rfl⟩))
  all_goals
    go_ret
    refine ⟨vret_int ?_, ((Below.refl _ _).alloc (Nat.le_refl _) _).alloc (by simp) _⟩
    unfold ordA
    simp_all
set_option maxRecDepth 100000 in
set_option maxHeartbeats 400000 in
theorem single_any (k1 i1 : Int) (s1 : ByteArray) (a1 : Option Addr) (n1 c1 : Nat) (k2 i2 : Int) (s2 : ByteArray) (a2 : Option Addr) (n2 c2 : Nat) (w : World) (h1 : s1.size ≤ maxLen) (h2 : s2.size ≤ maxLen) :
    Calls Tryz.prog 83 #[V k1 i1 s1 a1 n1 c1, V k2 i2 s2 a2 n2 c2] w fun e w' => e = .returned (.int .i64 (ordS k1 i1 s1 k2 i2 s2)) ∧ Below w.heap.size w w' := by
  have H1 := Lib.hid h1
  have H2 := Lib.hid h2
  clear h1 h2
  go_enter Tryz.func83, Tryz.ntmps83
  have hb0 : ∀ w' a b, Below ((w.alloc a).alloc b).heap.size ((w.alloc a).alloc b) w' → Below w.heap.size w w' := fun w' a b h => (((Below.refl _ _).alloc (Nat.le_refl _) _).alloc (by simp) _).trans (h.mono (by simp; omega))
  have HB0 := Lib.hid hb0
  clear hb0
  go_wp2_with (first
    | (go_at_call 115; refine (numbers_any _ _ _).mono ?_; rintro e w' ⟨rfl, rfl⟩)
    | (go_at_call 116; refine (texts_any _ _ _ H1.out H2.out).mono ?_; rintro e w' ⟨rfl, hb⟩))
  all_goals
    go_ret
    refine ⟨vret_int ?_, by first | exact HB0.out _ _ _ hb | exact HB0.out _ _ _ (Below.refl _ _)⟩
    unfold ordS
    simp_all
end Go.Proofs.YtllgodaphoncnaaGreatDoor
