/- Whether a token is one; Which sign a text begins with; words, texts, signs. -/
import Derived.Test.YtllgodaphoncnaaGreatDoorJ17
namespace Go.Proofs.YtllgodaphoncnaaGreatDoor
open Go.RowKit

def Tk.cells (t : Tk) : List Value := [.int .i64 t.k, .string (st t.s), .int .i64 t.n]
/-- what calls find at the program's own variables, and the library's -/
structure LexW (w : World) : Prop where
  sig : w.rangeAt 0 0 (signsL.map fun l => Value.string (st l))
  syn : ∃ tp p, w.var? Tryz.prog "strconv.ErrSyntax" = some #[.iface tp p]
  ran : ∃ tp p, w.var? Tryz.prog "strconv.ErrRange" = some #[.iface tp p]
  pow : Lib.TabIs Tryz.prog w "internal/strconv.uint64pow10" .u64 Lib.pow10Tab
set_option maxRecDepth 100000 in
theorem LexW.below {w w' : World} (h : LexW w) (hb : Below w.heap.size w w') : LexW w' := by
  obtain ⟨t1, p1, h1⟩ := h.syn
  obtain ⟨t2, p2, h2⟩ := h.ran
  refine ⟨fun j v hv => ?_, ⟨t1, p1, Joins.var_stays (g := 4) (by kernel_rfl) h1 hb (Nat.le_refl _)⟩, ⟨t2, p2, Joins.var_stays (g := 5) (by kernel_rfl) h2 hb (Nat.le_refl _)⟩, Joins.tab_stays (g := 6) (by kernel_rfl) h.pow hb (Nat.le_refl _)⟩
  have h0 := h.sig j v hv
  rw [hb.cell (by exact block_lt_of_cell h0)]
  exact h0
/-! calls of the library -/
set_option maxRecDepth 100000 in
theorem hasPrefix_any (w : World) (l p : List UInt8) : Calls Tryz.prog 70 #[.string (st l), .string (st p)] w fun e w' => e = .returned (.bool (p.isPrefixOf l)) ∧ w = w' :=
  (Any.strings_HasPrefix lays99 (st l) (st p) w).mono fun _ _ ⟨h1, h2⟩ => ⟨h1, h2.symm⟩
set_option maxRecDepth 100000 in
theorem clone_st (w : World) (l : List UInt8) (hl : l.length ≤ 1000000) : Calls Tryz.prog 110 #[.string (st l)] w fun e w' => e = .returned (.string (st l)) ∧ Below w.heap.size w w' := by
  have HC := Lib.hid (Any.stringslite_Clone laysM316 (st l) w (by rw [size_st]; omega))
  generalize st l = s at *
  go_enter Tryz.func110, Tryz.ntmps110
  go_wp2_with fail
  refine HC.out.mono ?_
  rintro e w' ⟨rfl, hb⟩
  have HB := Lib.hid hb
  clear hb HC
  go_wp2_with fail
  go_ret
  exact ⟨rfl, HB.out⟩
/-- behind the first line feed -/
def cutL : List UInt8 → List UInt8
  | [] => []
  | c :: l => if c.toNat = 10 then l else cutL l
end Go.Proofs.YtllgodaphoncnaaGreatDoor
namespace Go.Proofs.YtllgodaphoncnaaGreatDoor
open Go.RowKit

set_option maxRecDepth 100000 in
theorem find_step (p : List UInt8 → Bool) (k : Nat) (x : List UInt8) (h : signsL[k]? = some x) : (signsL.drop k).find? p = if p x then some x else (signsL.drop (k + 1)).find? p := by
  obtain ⟨hk, e⟩ := List.getElem?_eq_some_iff.1 h
  rw [List.drop_eq_getElem_cons hk, e, List.find?_cons]
  cases p x <;> rfl
set_option maxRecDepth 100000 in
theorem run_index_sign (w : World) (k : Nat) (x : List UInt8) (h : signsL[k]? = some x) : (Instr.index 159 (.agg (signsL.map fun l => Value.string (st l)).toArray) (.int .i64 (k : Int))).run Tryz.prog w = .ok (.string (st x)) w := by
  obtain ⟨hk, e⟩ := List.getElem?_eq_some_iff.1 h
  have hk' : k < 18 := hk
  subst e
  have s1 : ∀ w, (sizeOf 9).run Tryz.prog w = .ok 1 w := fun _ => by kernel_rfl
  have hA : (signsL.map fun l => Value.string (st l)).toArray[k]? = some (.string (st (signsL[k]'hk))) := by
    rw [List.getElem?_toArray, List.getElem?_map, List.getElem?_eq_getElem hk]; rfl
  generalize (signsL.map fun l => Value.string (st l)).toArray = A at *
  generalize signsL[k] = x at *
  have hi : (0 : Int) ≤ k ∧ (k : Int) < 18 := by omega
  simp [Instr.index, asIntOf, run_underlying Tryz.underlying159, run_underlying Tryz.underlying9, part, isAgg, s1, hi, hA]
  intro h18
  omega
set_option maxRecDepth 100000 in
set_option maxHeartbeats 1000000 in
theorem firstSign_any (w : World) (hw : LexW w) (l : List UInt8) :
    Calls Tryz.prog 113 #[.string (st l)] w fun e w' => e = .returned (.string (st (fsign l))) ∧ w = w' := by
  have HS := Lib.hid hw.sig
  have hidx : ∀ (w : World) (k : Nat) (x : List UInt8), signsL[k]? = some x → _ := fun w k x h => run_index_sign w k x h
  have HI := Lib.hid hidx
  have HP := Lib.hid (fun (w : World) (p : List UInt8) => hasPrefix_any w l p)
  have i18 : (Tryz.prog.info? 159).map (·.size) = some 18 := by kernel_rfl
  obtain ⟨X, hX⟩ : ∃ X, (signsL.map fun l => Value.string (st l)) = X := ⟨_, rfl⟩
  have hX18 : X.length = 18 := by rw [← hX]; rfl
  rw [hX] at HS HI
  have HF : Hid (∀ r, (signsL.drop 0).find? (·.isPrefixOf l) = r → fsign l = r.getD []) := Lib.hid fun r h => by rw [← h]; rfl
  obtain ⟨s, hs⟩ : ∃ s, st l = s := ⟨_, rfl⟩
  rw [hs] at HP ⊢
  clear hidx hX hs hw
  go_enter Tryz.func113, Tryz.ntmps113
  go_wp2_with (refine wpList_load_mid rfl 159 (.global 0) rfl 0 0 rfl X _ HS.out Tryz.underlying159 rfl (by rw [hX18]; exact i18) ?_)
  obtain ⟨A, hA⟩ : ∃ A, X.toArray = A := ⟨_, rfl⟩
  rw [hA] at HI ⊢
  clear HS hX18 hA
  go_loopw [4, 6] (fun _ i wr => ∃ k : Nat, k ≤ 18 ∧ i = .int .i64 (k : Int) ∧ Hid ((signsL.drop 0).find? (·.isPrefixOf l) = (signsL.drop k).find? (·.isPrefixOf l)) ∧ w = wr) (fun _ i _ => 18 - (intOf i).toNat)
  case atStart => exact ⟨0, by omega, rfl, Lib.hid rfl, rfl⟩
  case round =>
    obtain ⟨k, hk, rfl, HK, rfl⟩ := hrel
    by_cases hlt : k < 18
    · have hd : decide ((k : Int) < 18) = true := by simp; omega
      obtain ⟨x, hx⟩ : ∃ x, signsL[k]? = some x := ⟨_, List.getElem?_eq_getElem (show k < signsL.length from hlt)⟩
      have hix := HI.out w k x hx
      have HSt := Lib.hid (find_step (·.isPrefixOf l) k x hx)
      have HC := Lib.hid (HP.out w x)
      clear hx
      obtain ⟨b, hb⟩ : ∃ b, x.isPrefixOf l = b := ⟨_, rfl⟩
      rw [hb] at HC
      have HB := Lib.hid hb
      clear hb
      obtain ⟨sx, hsx⟩ : ∃ sx, st x = sx := ⟨_, rfl⟩
      rw [hsx] at HC hix
      have HSx := Lib.hid hsx
      clear hsx
      go_wp2_with fail
      refine HC.out.mono ?_
      rintro e w' ⟨rfl, rfl⟩
      cases b with
      | true =>
        go_wp2_with fail
        go_ret
        refine ⟨?_, by first | rfl | trivial⟩
        have := HF.out _ HK.out
        rw [HSt.out, HB.out] at this
        rw [this, ← HSx.out]
        rfl
      | false =>
        go_wp2_with fail
        go_roundw
        case rel => exact ⟨k + 1, by omega, by go_num, Lib.hid (by rw [HK.out, HSt.out, HB.out]; rfl), by first | rfl | trivial⟩
        case measure => simp [intOf]; omega
    · have hd : decide ((k : Int) < 18) = false := by simp; omega
      obtain rfl : k = 18 := by omega
      go_wp2_with fail
      go_ret
      refine ⟨?_, by first | rfl | trivial⟩
      have := HF.out _ HK.out
      rw [this]
      rfl
end Go.Proofs.YtllgodaphoncnaaGreatDoor
