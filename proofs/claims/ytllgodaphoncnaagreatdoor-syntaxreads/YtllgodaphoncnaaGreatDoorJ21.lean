/- What a byte is; how many bytes are so; Whether a token is one. -/
import Derived.Test.YtllgodaphoncnaaGreatDoorJ20
import Derived.Test.YtllgodaphoncnaaGreatDoorQTail
import Derived.WalkKit
import Derived.WalkSpells
import Derived.WalkLawsBesides
import Derived.WalkSmall
import Derived.Lib.Hide
import Derived.Lib.SmallJoins
import Derived.Laws.Strings
namespace Go.Proofs.YtllgodaphoncnaaGreatDoor
open Go.RowKit

set_option maxRecDepth 100000 in
theorem dint (a b : Nat) : decide ((a : Int) ≤ (b : Int)) = decide (a ≤ b) := by simp
set_option maxRecDepth 100000 in
theorem isLetter_any (w : World) (b : UInt8) : Calls Tryz.prog 72 #[.int .u8 (b.toNat : Int)] w fun e w' => e = .returned (.bool (letB b)) ∧ w = w' := by
  have e : letB b = (decide ((97 : Int) ≤ (b.toNat : Int)) && decide ((b.toNat : Int) ≤ 122)) := by rw [letB, ← dint, ← dint]; rfl
  rw [e]
  obtain ⟨b1, e1⟩ : ∃ x, decide ((97 : Int) ≤ (b.toNat : Int)) = x := ⟨_, rfl⟩
  obtain ⟨b2, e2⟩ : ∃ x, decide ((b.toNat : Int) ≤ 122) = x := ⟨_, rfl⟩
  rw [e1, e2]
  cases b1 <;> cases b2 <;>
  ( go_enter Tryz.func72, Tryz.ntmps72
    go_wp2
    go_ret
    exact ⟨rfl, rfl⟩)
set_option maxRecDepth 100000 in
theorem isDigit_any (w : World) (b : UInt8) : Calls Tryz.prog 74 #[.int .u8 (b.toNat : Int)] w fun e w' => e = .returned (.bool (digB b)) ∧ w = w' := by
  have e : digB b = (decide ((48 : Int) ≤ (b.toNat : Int)) && decide ((b.toNat : Int) ≤ 57)) := by rw [digB, ← dint, ← dint]; rfl
  rw [e]
  obtain ⟨b1, e1⟩ : ∃ x, decide ((48 : Int) ≤ (b.toNat : Int)) = x := ⟨_, rfl⟩
  obtain ⟨b2, e2⟩ : ∃ x, decide ((b.toNat : Int) ≤ 57) = x := ⟨_, rfl⟩
  rw [e1, e2]
  cases b1 <;> cases b2 <;>
  ( go_enter Tryz.func74, Tryz.ntmps74
    go_wp2
    go_ret
    exact ⟨rfl, rfl⟩)
set_option maxRecDepth 100000 in
theorem isPlain_any (w : World) (b : UInt8) : Calls Tryz.prog 114 #[.int .u8 (b.toNat : Int)] w fun e w' => e = .returned (.bool (plaB b)) ∧ w = w' := by
  have e : plaB b = (decide ((32 : Int) ≤ (b.toNat : Int)) && decide ((b.toNat : Int) ≤ 126)) := by rw [plaB, ← dint, ← dint]; rfl
  rw [e]
  obtain ⟨b1, e1⟩ : ∃ x, decide ((32 : Int) ≤ (b.toNat : Int)) = x := ⟨_, rfl⟩
  obtain ⟨b2, e2⟩ : ∃ x, decide ((b.toNat : Int) ≤ 126) = x := ⟨_, rfl⟩
  rw [e1, e2]
  cases b1 <;> cases b2 <;>
  ( go_enter Tryz.func114, Tryz.ntmps114
    go_wp2
    go_ret
    exact ⟨rfl, rfl⟩)
set_option maxRecDepth 100000 in
theorem deqi (a b : Nat) : ((a : Int) == (b : Int)) = decide (a = b) := by
  by_cases h : a = b
  · subst h; simp
  · rw [decide_eq_false h]; simp; omega
set_option maxRecDepth 100000 in
theorem isMarked_any (w : World) (b : UInt8) : Calls Tryz.prog 112 #[.int .u8 (b.toNat : Int)] w fun e w' => e = .returned (.bool (mrkB b)) ∧ w = w' := by
  have e : mrkB b = (((b.toNat : Int) == 34) || ((b.toNat : Int) == 92)) := by rw [mrkB, ← deqi, ← deqi]; rfl
  rw [e]
  obtain ⟨b1, e1⟩ : ∃ x, ((b.toNat : Int) == 34) = x := ⟨_, rfl⟩
  obtain ⟨b2, e2⟩ : ∃ x, ((b.toNat : Int) == 92) = x := ⟨_, rfl⟩
  rw [e1, e2]
  cases b1 <;> cases b2 <;>
  ( go_enter Tryz.func112, Tryz.ntmps112
    go_wp2
    go_ret
    exact ⟨rfl, rfl⟩)
set_option maxRecDepth 100000 in
theorem isInner_any (w : World) (b : UInt8) : Calls Tryz.prog 109 #[.int .u8 (b.toNat : Int)] w fun e w' => e = .returned (.bool (innB b)) ∧ w = w' := by
  have e : innB b = (letB b || (digB b || ((b.toNat : Int) == 95))) := by rw [innB, ← deqi]; rfl
  have H1 := Lib.hid (isLetter_any w b)
  have H2 := Lib.hid (isDigit_any w b)
  rw [e]
  obtain ⟨b1, e1⟩ : ∃ x, letB b = x := ⟨_, rfl⟩
  obtain ⟨b2, e2⟩ : ∃ x, digB b = x := ⟨_, rfl⟩
  obtain ⟨b3, e3⟩ : ∃ x, ((b.toNat : Int) == 95) = x := ⟨_, rfl⟩
  rw [e1] at H1 ⊢
  rw [e2] at H2 ⊢
  rw [e3]
  clear e e1 e2
  go_enter Tryz.func109, Tryz.ntmps109
  go_wp2_with fail
  refine H1.out.mono ?_
  rintro e w' ⟨rfl, rfl⟩
  cases b1
  · go_wp2_with fail
    refine H2.out.mono ?_
    rintro e w' ⟨rfl, rfl⟩
    cases b2 <;> cases b3 <;>
    ( go_wp2_with fail
      go_ret
      exact ⟨rfl, rfl⟩)
  · go_wp2_with fail
    go_ret
    exact ⟨by simp, rfl⟩
set_option maxRecDepth 100000 in
/-- a byte of a text -/
theorem st_get (l : List UInt8) (k : Nat) (h : k < l.length) : (st l)[k]'(by rw [size_st]; exact h) = l[k] := by
  show l.toArray[k] = l[k]
  simp
set_option maxRecDepth 100000 in
theorem run_index_st (w : World) (l : List UInt8) (k : Nat) (c : UInt8) (hc : l[k]? = some c) : (Instr.index 9 (.string (st l)) (.int .i64 (k : Int))).run Tryz.prog w = .ok (.int .u8 (c.toNat : Int)) w := by
  obtain ⟨h, e⟩ := List.getElem?_eq_some_iff.1 hc
  rw [run_index_string (P := Tryz.prog) w 9 (st l) .i64 k Tryz.underlying9, dif_pos ⟨by omega, by rw [size_st]; omega⟩]
  have e2 : (st l)[(k : Int).toNat]'(by rw [size_st]; omega) = c := by
    have := st_get l k h
    rw [← e, ← this]
    rfl
  rw [e2]
set_option maxRecDepth 100000 in
set_option maxHeartbeats 1000000 in
theorem run_any (w : World) (l : List UInt8) (f : FuncId) (p : UInt8 → Bool) (hf : ∀ w b, Calls Tryz.prog f #[.int .u8 (b.toNat : Int)] w fun e w' => e = .returned (.bool (p b)) ∧ w = w') (hen : ∀ args w, (callFunc f args).run Tryz.prog w = .ok (.enter f args) w) (hl : l.length ≤ 1000000) :
    Calls Tryz.prog 108 #[.string (st l), .func (.func f) #[] #[]] w fun e w' => e = .returned (.int .i64 (runN p l : Int)) ∧ w = w' := by
  have HF := Lib.hid hf
  have hsz := size_st l
  have hidx : ∀ (w : World) (k : Nat) (c : UInt8), l[k]? = some c → (Instr.index 9 (.string (st l)) (.int .i64 (k : Int))).run Tryz.prog w = .ok (.int .u8 (c.toNat : Int)) w := fun w k c h => run_index_st w l k c h
  have HI := Lib.hid hidx
  have hle := runN_le p l
  have HAt := Lib.hid (runN_at p l)
  obtain ⟨s, hs⟩ : ∃ s, st l = s := ⟨_, rfl⟩
  rw [hs] at hsz HI ⊢
  obtain ⟨R, hR⟩ : ∃ R, runN p l = R := ⟨_, rfl⟩
  rw [hR] at hle HAt ⊢
  clear hf hidx hs hR
  go_enter Tryz.func108, Tryz.ntmps108
  go_wp2_with fail
  go_loopw [5] (fun i wr => ∃ k : Nat, k ≤ R ∧ i = .int .i64 (k : Int) ∧ w = wr) (fun i _ => l.length - (intOf i).toNat)
  case atStart => exact ⟨0, by omega, rfl, rfl⟩
  case round =>
    obtain ⟨k, hk, rfl, rfl⟩ := hrel
    by_cases hlt : k < l.length
    · have hd : decide ((k : Int) < (l.length : Int)) = true := by simp; omega
      have hat := HAt.out k hk l[k] (List.getElem?_eq_getElem hlt)
      have hix := HI.out w k l[k] (List.getElem?_eq_getElem hlt)
      generalize l[k] = c at *
      have HC := Lib.hid (HF.out w c)
      obtain ⟨b, hb⟩ : ∃ b, p c = b := ⟨_, rfl⟩
      rw [hb] at HC hat
      have HAt2 := Lib.hid hat
      clear hat hb
      go_wp2_with fail
      refine HC.out.mono ?_
      rintro e w' ⟨rfl, rfl⟩
      cases b with
      | true =>
        have hkR := HAt2.out.1 rfl
        go_wp2_with fail
        go_roundw
        case rel => exact ⟨k + 1, by omega, by go_num, by first | rfl | trivial⟩
        case measure => simp [intOf]; omega
      | false =>
        have hkR : k = R := by
          rcases Nat.lt_or_ge k R with h | h
          · have := HAt2.out.2 h; cases this
          · omega
        subst hkR
        go_wp2_with fail
        go_ret
        exact ⟨rfl, rfl⟩
    · have hd : decide ((k : Int) < (l.length : Int)) = false := by simp; omega
      obtain rfl : k = R := by omega
      go_wp2_with fail
      go_ret
      exact ⟨rfl, rfl⟩
end Go.Proofs.YtllgodaphoncnaaGreatDoor
namespace Go.Proofs.YtllgodaphoncnaaGreatDoor
open Go.RowKit

def Tk.cells (t : Tk) : List Value := [.int .i64 t.k, .string (st t.s), .int .i64 t.n]
/-- what calls find at the program's own variables, and the library's -/
structure LexW (w : World) : Prop where
  sig : w.rangeAt 0 0 (signsL.map fun l => Value.string (st l))
  syn : ∃ tp p, w.var? Tryz.prog "strconv.ErrSyntax" = some #[.iface tp p]
  ran : ∃ tp p, w.var? Tryz.prog "strconv.ErrRange" = some #[.iface tp p]
  pow : Lib.TabIs Tryz.prog w "internal/strconv.uint64pow10" .u64 Lib.pow10Tab
set_option maxRecDepth 100000 in
theorem LexW.below {w w' : World} (h : LexW w) (hb : Below w.heap.size w w') : LexW w' := by
  obtain ⟨t1, p1, h1⟩ := h.syn
  obtain ⟨t2, p2, h2⟩ := h.ran
  refine ⟨fun j v hv => ?_, ⟨t1, p1, Joins.var_stays (g := 4) (by kernel_rfl) h1 hb (Nat.le_refl _)⟩, ⟨t2, p2, Joins.var_stays (g := 5) (by kernel_rfl) h2 hb (Nat.le_refl _)⟩, Joins.tab_stays (g := 6) (by kernel_rfl) h.pow hb (Nat.le_refl _)⟩
  have h0 := h.sig j v hv
  rw [hb.cell (by exact block_lt_of_cell h0)]
  exact h0
/-! calls of the library -/
set_option maxRecDepth 100000 in
theorem hasPrefix_any (w : World) (l p : List UInt8) : Calls Tryz.prog 70 #[.string (st l), .string (st p)] w fun e w' => e = .returned (.bool (p.isPrefixOf l)) ∧ w = w' :=
  (Any.strings_HasPrefix lays99 (st l) (st p) w).mono fun _ _ ⟨h1, h2⟩ => ⟨h1, h2.symm⟩
set_option maxRecDepth 100000 in
theorem clone_st (w : World) (l : List UInt8) (hl : l.length ≤ 1000000) : Calls Tryz.prog 110 #[.string (st l)] w fun e w' => e = .returned (.string (st l)) ∧ Below w.heap.size w w' := by
  have HC := Lib.hid (Any.stringslite_Clone laysM316 (st l) w (by rw [size_st]; omega))
  generalize st l = s at *
  go_enter Tryz.func110, Tryz.ntmps110
  go_wp2_with fail
  refine HC.out.mono ?_
  rintro e w' ⟨rfl, hb⟩
  have HB := Lib.hid hb
  clear hb HC
  go_wp2_with fail
  go_ret
  exact ⟨rfl, HB.out⟩
/-- behind the first line feed -/
def cutL : List UInt8 → List UInt8
  | [] => []
  | c :: l => if c.toNat = 10 then l else cutL l
end Go.Proofs.YtllgodaphoncnaaGreatDoor
