/- Whether a token is formed, be its text as long as may be; The small functions of package value, each by its contract. -/
import Derived.Test.YtllgodaphoncnaaGreatDoorJ04
import Derived.Test.YtllgodaphoncnaaGreatDoorJ05
import Derived.Test.YtllgodaphoncnaaGreatDoorProg
import Derived.WalkKit
import Derived.WalkSpells
import Derived.WalkLawsBesides
import Derived.WalkSmall
import Derived.Lib.Hide
import Derived.Deep.QuietTactic
import Derived.BigQuiet
namespace Go.Proofs.YtllgodaphoncnaaGreatDoor
open Go.RowKit

set_option maxRecDepth 100000 in
set_option maxHeartbeats 1000000 in
theorem isWordW_any (w : World) (l : List UInt8) (hl : l.length ≤ maxLen) : Calls Tryz.prog 79 #[.string (st l)] w fun e w' => e = .returned (.bool (wordB l)) ∧ w = w' := by
  unfold maxLen at hl
  have HR := Lib.hid (fun h : decide (l.length ≤ 64) = true => runW_any w l (by have := of_decide_eq_true h; omega))
  have hsz := size_st l
  have htl := toList_st l
  cases l with
  | nil =>
    clear HR
    have hs0 : (st []).size = 0 := rfl
    clear hsz
    go_enter Tryz.func79, Tryz.ntmps79
    go_wp2
    go_ret
    exact ⟨rfl, rfl⟩
  | cons c r =>
    have hix := run_index_st w (c :: r) 0 c rfl
    have hix : (Instr.index 9 (.string (st (c :: r))) (.int .i64 0)).run Tryz.prog w = .ok (.int .u8 (c.toNat : Int)) w := hix
    have HL := Lib.hid (isLetter_any w c)
    have e : wordB (c :: r) = (decide ((c :: r).length ≤ 64) && (letB c && decide (runN innB (c :: r) = (c :: r).length))) := rfl
    rw [e]
    clear e
    obtain ⟨l, hll⟩ : ∃ l, c :: r = l := ⟨_, rfl⟩
    have hne : (l == []) = false := by rw [← hll]; rfl
    rw [hll] at HR hsz htl hix hl ⊢
    clear hll
    obtain ⟨s, hs⟩ : ∃ s, st l = s := ⟨_, rfl⟩
    rw [hs] at HR hsz htl hix ⊢
    clear hs
    obtain ⟨b, hb⟩ : ∃ b, letB c = b := ⟨_, rfl⟩
    rw [hb] at HL ⊢
    clear hb
    obtain ⟨R, hR⟩ : ∃ R, runN innB l = R := ⟨_, rfl⟩
    rw [hR] at HR ⊢
    clear hR
    have d1 := dint l.length 64
    have d2 := deqi R l.length
    obtain ⟨b1, hb1⟩ : ∃ b, decide (l.length ≤ 64) = b := ⟨_, rfl⟩
    obtain ⟨b2, hb2⟩ : ∃ b, decide (R = l.length) = b := ⟨_, rfl⟩
    rw [hb1] at d1 HR ⊢
    rw [hb2] at d2 ⊢
    have d1 : decide ((l.length : Int) ≤ 64) = b1 := d1
    clear hb1 hb2
    go_enter Tryz.func79, Tryz.ntmps79
    cases b1 with
    | true =>
      go_wp2_with fail
      refine HL.out.mono ?_
      rintro e w' ⟨rfl, rfl⟩
      cases b with
      | false =>
        go_wp2_with fail
        go_ret
        exact ⟨rfl, rfl⟩
      | true =>
        go_wp2_with fail
        refine (HR.out trivial).mono ?_
        rintro e w' ⟨rfl, rfl⟩
        go_wp2_with fail
        go_ret
        exact ⟨rfl, rfl⟩
    | false =>
      go_wp2_with fail
      go_ret
      exact ⟨rfl, rfl⟩
set_option maxRecDepth 100000 in
set_option maxHeartbeats 1000000 in
theorem isTextW_any (w : World) (l : List UInt8) (hl : l.length ≤ maxLen) : Calls Tryz.prog 80 #[.string (st l)] w fun e w' => e = .returned (.bool (textB l)) ∧ w = w' := by
  unfold maxLen at hl
  have HR := Lib.hid (fun h : decide (l.length ≤ 64) = true => runP_any w l (by have := of_decide_eq_true h; omega))
  have hsz := size_st l
  unfold textB
  obtain ⟨s, hs⟩ : ∃ s, st l = s := ⟨_, rfl⟩
  rw [hs] at HR hsz ⊢
  clear hs
  obtain ⟨R, hR⟩ : ∃ R, runN plaB l = R := ⟨_, rfl⟩
  rw [hR] at HR ⊢
  clear hR
  have d1 := dint l.length 64
  have d2 := deqi R l.length
  obtain ⟨b1, hb1⟩ : ∃ b, decide (l.length ≤ 64) = b := ⟨_, rfl⟩
  obtain ⟨b2, hb2⟩ : ∃ b, decide (R = l.length) = b := ⟨_, rfl⟩
  rw [hb1] at d1 HR ⊢
  rw [hb2] at d2 ⊢
  have d1 : decide ((l.length : Int) ≤ 64) = b1 := d1
  clear hb1 hb2
  go_enter Tryz.func80, Tryz.ntmps80
  cases b1 with
  | true =>
    go_wp2_with fail
    refine (HR.out trivial).mono ?_
    rintro e w' ⟨rfl, rfl⟩
    go_wp2_with fail
    go_ret
    exact ⟨rfl, rfl⟩
  | false =>
    go_wp2_with fail
    go_ret
    exact ⟨rfl, rfl⟩
set_option maxRecDepth 100000 in
set_option maxHeartbeats 2000000 in
theorem wformed_any (w : World) (hw : LexW w) (t : Tk) (ht : t.Wide) : Calls Tryz.prog 53 #[t.val] w fun e w' => e = .returned (.bool (formB t)) ∧ Below w.heap.size w w' := by
  obtain ⟨k, l, n⟩ := t
  have hb : ∀ o, Below w.heap.size w (w.alloc o) := fun o => (Below.refl _ _).alloc (Nat.le_refl _) _
  have HW := Lib.hid (fun o => isWordW_any (w.alloc o) l ht.s)
  have HT := Lib.hid (fun o => isTextW_any (w.alloc o) l ht.s)
  have HS := Lib.hid (fun o => isSign_any (w.alloc o) (hw.below (hb o)) l)
  have HB := Lib.hid hb
  have htl := toList_st l
  obtain ⟨_, _, _, _, _⟩ := ht
  clear hw hb
  unfold Tk.val Tk.cells formB
  dsimp only
  obtain ⟨s, hs⟩ : ∃ s, st l = s := ⟨_, rfl⟩
  rw [hs] at HW HT HS htl ⊢
  have dn : ((n == 0)) = decide (n = 0) := by
    by_cases h : n = 0
    · subst h; rfl
    · rw [decide_eq_false h]; simpa using h
  have dl : (l == []) = l.isEmpty := by cases l <;> rfl
  obtain ⟨bn, hbn⟩ : ∃ b, decide (n = 0) = b := ⟨_, rfl⟩
  obtain ⟨bw, hbw⟩ : ∃ b, wordB l = b := ⟨_, rfl⟩
  obtain ⟨bt, hbt⟩ : ∃ b, textB l = b := ⟨_, rfl⟩
  obtain ⟨bs, hbs⟩ : ∃ b, signB l = b := ⟨_, rfl⟩
  obtain ⟨bl, hbl⟩ : ∃ b, l.isEmpty = b := ⟨_, rfl⟩
  obtain ⟨b0, hb0⟩ : ∃ b, decide (0 ≤ n) = b := ⟨_, rfl⟩
  obtain ⟨bm, hbm⟩ : ∃ b, decide (n ≤ 1099511627776) = b := ⟨_, rfl⟩
  rw [hbw] at HW
  rw [hbt] at HT
  rw [hbs] at HS
  rw [hbn] at dn
  rw [hbl] at dl
  rw [hbn, hbw, hbt, hbs, hbl, hb0, hbm]
  clear hbw hbt hbs hs hbn hbl
  by_cases h1 : k = 1
  · subst h1
    rw [if_pos rfl]
    clear hb0 hbm
    go_enter Tryz.func53, Tryz.ntmps53
    cases bn with
    | true =>
      go_wp2_with fail
      refine (HW.out _).mono ?_
      rintro e w' ⟨rfl, rfl⟩
      go_wp2_with fail
      go_ret
      exact ⟨by simp, HB.out _⟩
    | false =>
      go_wp2_with fail
      go_ret
      exact ⟨by simp, HB.out _⟩
  · have k1 : (k == 1) = false := by simpa using h1
    rw [if_neg h1]
    by_cases h2 : k = 2
    · subst h2
      rw [if_pos rfl]
      go_enter Tryz.func53, Tryz.ntmps53
      cases bl <;> cases b0 <;>
      ( go_wp2_with fail
        go_ret
        exact ⟨by simp, HB.out _⟩)
    · have k2 : (k == 2) = false := by simpa using h2
      rw [if_neg h2]
      by_cases h3 : k = 3
      · subst h3
        rw [if_pos rfl]
        clear hb0 hbm
        go_enter Tryz.func53, Tryz.ntmps53
        cases bn with
        | true =>
          go_wp2_with fail
          refine (HT.out _).mono ?_
          rintro e w' ⟨rfl, rfl⟩
          go_wp2_with fail
          go_ret
          exact ⟨by simp, HB.out _⟩
        | false =>
          go_wp2_with fail
          go_ret
          exact ⟨by simp, HB.out _⟩
      · have k3 : (k == 3) = false := by simpa using h3
        rw [if_neg h3]
        by_cases h4 : k = 4
        · subst h4
          rw [if_pos rfl]
          go_enter Tryz.func53, Tryz.ntmps53
          cases bl <;> cases b0 <;> cases bm <;>
          ( go_wp2_with fail
            go_ret
            exact ⟨by simp, HB.out _⟩)
        · have k4 : (k == 4) = false := by simpa using h4
          rw [if_neg h4]
          by_cases h5 : k = 5
          · subst h5
            rw [if_pos rfl]
            clear hb0 hbm
            go_enter Tryz.func53, Tryz.ntmps53
            cases bn with
            | true =>
              go_wp2_with fail
              refine (HS.out _).mono ?_
              rintro e w' ⟨rfl, rfl⟩
              go_wp2_with fail
              go_ret
              exact ⟨by simp, HB.out _⟩
            | false =>
              go_wp2_with fail
              go_ret
              exact ⟨by simp, HB.out _⟩
          · have k5 : (k == 5) = false := by simpa using h5
            rw [if_neg h5]
            clear hb0 hbm
            go_enter Tryz.func53, Tryz.ntmps53
            go_wp2_with fail
            go_ret
            exact ⟨rfl, HB.out _⟩
end Go.Proofs.YtllgodaphoncnaaGreatDoor
namespace Go.Proofs.YtllgodaphoncnaaGreatDoor
open Go.RowKit

/-- a value as it is passed: its kind, its number, its text, its list -/
abbrev V (k i : Int) (s : ByteArray) (a : Option Addr) (n c : Nat) : Value := .agg #[.int .i64 k, .int .i64 i, .string s, .slice a n c]
set_option maxRecDepth 100000 in
theorem ret_bool {a b : Bool} (h : a = b) : Ending.returned (.bool a) = .returned (.bool b) := by rw [h]
set_option maxRecDepth 100000 in
theorem vret_int {k : IntKind} {a b : Int} (h : a = b) : Ending.returned (.int k a) = .returned (.int k b) := by rw [h]

/-- may a time have this number? -/
def timeB (n : Int) : Bool := decide (0 ≤ n) && decide (n ≤ 1099511627776)
set_option maxRecDepth 100000 in
theorem isTime_any (n : Int) (w : World) :
    Calls Tryz.prog 189 #[.int .i64 n] w fun e w' => e = .returned (.bool (timeB n)) ∧ w = w' := by
  go_enter Tryz.func189, Tryz.ntmps189
  go_wp2
  all_goals
    go_ret
    exact ⟨ret_bool (by simp [timeB, *]; try omega), rfl⟩

set_option maxRecDepth 100000 in
theorem number_any (n : Int) (w : World) :
    Calls Tryz.prog 157 #[.int .i64 n] w fun e w' => e = .returned (V 2 n ⟨#[]⟩ none 0 0) ∧ Below w.heap.size w w' := by
  go_enter Tryz.func157, Tryz.ntmps157
  go_wp2
  exact bodyPost_ret (v := V 2 n ⟨#[]⟩ none 0 0) (by simp [results, Tryz.results157, go_sem]) rfl ⟨rfl, (Below.refl _ _).alloc (Nat.le_refl _) _⟩

set_option maxRecDepth 100000 in
theorem truth_any (b : Bool) (w : World) :
    Calls Tryz.prog 159 #[.bool b] w fun e w' => e = .returned (V 1 (if b then 1 else 0) ⟨#[]⟩ none 0 0) ∧ Below w.heap.size w w' := by
  cases b
  · go_enter Tryz.func159, Tryz.ntmps159
    go_wp2
    exact bodyPost_ret (v := V 1 0 ⟨#[]⟩ none 0 0) (by simp [results, Tryz.results159, go_sem]) rfl ⟨rfl, (Below.refl _ _).alloc (Nat.le_refl _) _⟩
  · go_enter Tryz.func159, Tryz.ntmps159
    go_wp2
    exact bodyPost_ret (v := V 1 1 ⟨#[]⟩ none 0 0) (by simp [results, Tryz.results159, go_sem]) rfl ⟨rfl, (Below.refl _ _).alloc (Nat.le_refl _) _⟩

set_option maxRecDepth 100000 in
/-- the first 64 bytes of a text, as the model cuts it -/
theorem text_any (s : ByteArray) (hs : s.size ≤ maxLen) (w : World) :
    Calls Tryz.prog 158 #[.string s] w fun e w' => e = .returned (V 3 0 (s.extract 0 (min s.size 64)) none 0 0) ∧ Below w.heap.size w w' := by
  unfold maxLen at hs
  by_cases h : 64 < s.size
  · rw [show min s.size 64 = 64 by omega]
    go_enter Tryz.func158, Tryz.ntmps158
    go_wp2
    exact bodyPost_ret (v := V 3 0 (s.extract 0 64) none 0 0) (by simp [results, Tryz.results158, go_sem] <;> rw [show (min (s.size : Int) 64).toNat = 64 by omega]) rfl ⟨rfl, (Below.refl _ _).alloc (Nat.le_refl _) _⟩
  · rw [show min s.size 64 = s.size by omega, ByteArray.extract_zero_size]
    go_enter Tryz.func158, Tryz.ntmps158
    go_wp2
    exact bodyPost_ret (v := V 3 0 s none 0 0) (by simp [results, Tryz.results158, go_sem] <;> rw [show (min (s.size : Int) 64).toNat = s.size by omega, ByteArray.extract_zero_size]) rfl ⟨rfl, (Below.refl _ _).alloc (Nat.le_refl _) _⟩

/-- is a value that is no bag formed? -/
def aloneB (k i : Int) (s : ByteArray) (n : Nat) : Bool :=
  if 0 < n then false else if k == 0 then i == 0 && s.toList.isEmpty else if k == 1 then (i == 0 || i == 1) && s.toList.isEmpty else if k == 2 then s.toList.isEmpty
  else if k == 3 then i == 0 && decide ((s.size : Int) ≤ 64) else if k == 4 then timeB i && s.toList.isEmpty else false
set_option maxRecDepth 100000 in
set_option maxHeartbeats 400000 in
theorem alone_any (k i : Int) (s : ByteArray) (a : Option Addr) (n c : Nat) (w : World) (hs : s.size ≤ maxLen) :
    Calls Tryz.prog 184 #[V k i s a n c] w fun e w' => e = .returned (.bool (aloneB k i s n)) ∧ Below w.heap.size w w' := by
  have hs' := hs
  unfold maxLen at hs'
  clear hs
  go_enter Tryz.func184, Tryz.ntmps184
  go_wp2_with (go_at_call 189; refine (isTime_any _ _).mono ?_; rintro e w' ⟨rfl, rfl⟩)
  all_goals
    go_ret
    exact ⟨ret_bool (by simp [aloneB, *]), (Below.refl _ _).alloc (Nat.le_refl _) _⟩
set_option maxRecDepth 100000 in
/-- a value that is no bag -/
theorem formed_one (k i : Int) (s : ByteArray) (a : Option Addr) (n c : Nat) (w : World) (hs : s.size ≤ maxLen) (hk : (k == 5) = false) :
    Calls Tryz.prog 175 #[V k i s a n c] w fun e w' => e = .returned (.bool (aloneB k i s n)) ∧ Below w.heap.size w w' := by
  go_enter Tryz.func175, Tryz.ntmps175
  go_wp2_with (go_at_call 184; refine (alone_any _ _ _ _ _ _ _ hs).mono ?_; rintro e w' ⟨rfl, hb⟩)
  go_ret
  exact ⟨rfl, ((Below.refl _ _).alloc (Nat.le_refl _) _).trans (hb.mono (by simp))⟩
set_option maxRecDepth 100000 in
theorem bcell {W w1 : World} (hb : Below W.heap.size W w1) : (∀ b o, b < W.heap.size → w1.cell? ⟨b, o, none⟩ = W.cell? ⟨b, o, none⟩) ∧ (∀ b o, b < W.heap.size → w1.frozen? ⟨b, o, none⟩ = W.frozen? ⟨b, o, none⟩) :=
  ⟨fun b o h => hb.cell (p := ⟨b, o, none⟩) h, fun b o h => hb.frozen (p := ⟨b, o, none⟩) h⟩
set_option maxRecDepth 100000 in
theorem below_set4 {m : Nat} {a w : World} (h : Below m a w) (g : Nat) (hg : m ≤ g) (x y z u : Value) :
    Below m a ((((w.setCell ⟨g, 0, none⟩ x).setCell ⟨g, 1, none⟩ y).setCell ⟨g, 2, none⟩ z).setCell ⟨g, 3, none⟩ u) := (((h.setCell hg _).setCell hg _).setCell hg _).setCell hg _
end Go.Proofs.YtllgodaphoncnaaGreatDoor
