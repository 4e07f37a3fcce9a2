/- Numbers of 128 bits, as the document has them. -/
import Derived.Test.YtcgbodbjjfngpaaVAdd
import Derived.Test.YtcgbodbjjfngpaaQTail
import Derived.Laws.BitsAllLaws
import Derived.Laws.StructEq
namespace Go.Proofs.Ytcgbodbjjfngpaa
open Go.RowKit

/-- the two words of a number, going round at 128 bits -/
def loW (z : Int) : Int := z % 18446744073709551616
def hiW (z : Int) : Int := wrap64 (z / 18446744073709551616)
abbrev Wd (h l : Int) : Value := .agg #[.int .i64 h, .int .u64 l]

theorem not64 (x : Int) (h0 : 0 ≤ x) (h1 : x < 18446744073709551616) : bits .xor .u64 IntKind.u64.max x = 18446744073709551615 - x := by
  obtain ⟨n, rfl⟩ := Int.eq_ofNat_of_zero_le h0
  have hn : n < 18446744073709551616 := by omega
  rw [show IntKind.u64.max = ((18446744073709551615 : Nat) : Int) by decide, u64_xor_nat _ _ (by decide) hn]
  have e : (18446744073709551615 ^^^ n : Nat) = 18446744073709551615 - n := by
    have h := BitVec.toNat_not (x := BitVec.ofNat 64 n)
    rw [BitVec.not_def, BitVec.toNat_xor, BitVec.toNat_allOnes, BitVec.toNat_ofNat, Nat.mod_eq_of_lt (by simpa using hn)] at h
    simpa using h
  rw [e]; omega
theorem below_set2 {m : Nat} {a w : World} (h : Below m a w) (g : Nat) (hg : m ≤ g) (x y : Value) : Below m a ((w.setCell ⟨g, 0, none⟩ x).setCell ⟨g, 1, none⟩ y) := (h.setCell hg _).setCell hg _

theorem of_any (n : Int) (w : World) (h1 : -9223372036854775808 ≤ n) (h2 : n ≤ 9223372036854775807) :
    Calls Try.prog 46 #[.int .i64 n] w fun e w' => e = .returned (Wd (hiW n) (loW n)) ∧ Below w.heap.size w w' := by
  by_cases hn : n < 0
  · have e1 : hiW n = -1 := by unfold hiW wrap64; omega
    have e2 : loW n = IntKind.u64.wrap n := by rw [IntKind.wrap_u64, loW]
    rw [e1, e2]; clear e1 e2
    go_enter Try.func46, Try.ntmps46
    go_wp2
    exact bodyPost_ret (v := Wd (-1) (IntKind.u64.wrap n)) (by simp [results, Try.results46, go_sem]) rfl ⟨rfl, (Below.refl _ _).alloc (Nat.le_refl _) _⟩
  · have e1 : hiW n = 0 := by unfold hiW wrap64; omega
    have e2 : loW n = n := by unfold loW; omega
    rw [e1, e2]; clear e1 e2
    go_enter Try.func46, Try.ntmps46
    go_wp2
    exact bodyPost_ret (v := Wd 0 n) (by simp [results, Try.results46, go_sem]) rfl ⟨rfl, (Below.refl _ _).alloc (Nat.le_refl _) _⟩
def plusH (h1 l1 h2 l2 : Int) : Int :=
  if IntKind.u64.wrap (l1 + l2) < l1 then wrap64 (IntKind.u64.wrap (IntKind.u64.wrap (wrap64 (IntKind.u64.wrap (IntKind.u64.wrap h1 + IntKind.u64.wrap h2))) + 1)) else wrap64 (IntKind.u64.wrap (IntKind.u64.wrap h1 + IntKind.u64.wrap h2))
theorem plusH_is (x y : Int) : plusH (hiW x) (loW x) (hiW y) (loW y) = hiW (x + y) := by
  unfold plusH hiW loW wrap64
  simp only [IntKind.wrap_u64]
  split <;> omega
theorem loW_plus (x y : Int) : IntKind.u64.wrap (loW x + loW y) = loW (x + y) := by
  unfold loW; rw [IntKind.wrap_u64]; omega
theorem plus_raw (h1 l1 h2 l2 : Int) (w : World) :
    Calls Try.prog 48 #[Wd h1 l1, Wd h2 l2] w fun e w' => e = .returned (Wd (plusH h1 l1 h2 l2) (IntKind.u64.wrap (l1 + l2))) ∧ Below w.heap.size w w' := by
  by_cases hc : IntKind.u64.wrap (l1 + l2) < l1
  · rw [plusH, if_pos hc]
    go_enter Try.func48, Try.ntmps48
    go_wp2
    exact bodyPost_ret (v := Wd _ _) (by simp [results, Try.results48, go_sem]) rfl ⟨rfl, (((Below.refl _ _).alloc (Nat.le_refl _) _).alloc (by simp) _).alloc (by simp; omega) _⟩
  · rw [plusH, if_neg hc]
    go_enter Try.func48, Try.ntmps48
    go_wp2
    exact bodyPost_ret (v := Wd _ _) (by simp [results, Try.results48, go_sem]) rfl ⟨rfl, (((Below.refl _ _).alloc (Nat.le_refl _) _).alloc (by simp) _).alloc (by simp; omega) _⟩
theorem plus_any (x y : Int) (w : World) :
    Calls Try.prog 48 #[Wd (hiW x) (loW x), Wd (hiW y) (loW y)] w fun e w' => e = .returned (Wd (hiW (x + y)) (loW (x + y))) ∧ Below w.heap.size w w' := by
  have h := plus_raw (hiW x) (loW x) (hiW y) (loW y) w
  rwa [plusH_is, loW_plus] at h
theorem minus_args (x : Int) : wrap64 (bits BinOp.xor IntKind.u64 IntKind.u64.max (IntKind.u64.wrap (hiW x))) = hiW (-1 - x) ∧ bits BinOp.xor IntKind.u64 IntKind.u64.max (loW x) = loW (-1 - x) := by
  constructor
  · rw [IntKind.wrap_u64, not64 _ (by omega) (by omega)]; unfold hiW wrap64; omega
  · rw [not64 _ (by unfold loW; omega) (by unfold loW; omega)]; unfold loW; omega
theorem minus_any (x : Int) (w : World) :
    Calls Try.prog 47 #[Wd (hiW x) (loW x)] w fun e w' => e = .returned (Wd (hiW (-x)) (loW (-x))) ∧ Below w.heap.size w w' := by
  have ha := (minus_args x).1
  have hb := (minus_args x).2
  have F : Hid (∀ W, Calls Try.prog 48 #[Wd (hiW (-1 - x)) (loW (-1 - x)), Wd 0 1] W fun e w' => e = .returned (Wd (hiW (-x)) (loW (-x))) ∧ Below W.heap.size W w') := Lib.hid (by
    intro W
    have h := plus_any (-1 - x) 1 W
    rwa [show -1 - x + 1 = -x by omega, show hiW 1 = 0 by unfold hiW wrap64; omega, show loW 1 = 1 by unfold loW; omega] at h)
  generalize hiW (-x) = H at *
  generalize loW (-x) = L at *
  go_enter Try.func47, Try.ntmps47
  go_wp2_with fail
  refine (F.out _).mono ?_
  rintro e w' ⟨rfl, hbw⟩
  obtain ⟨hc, hf⟩ := bcell hbw
  go_wp2
  exact bodyPost_ret (v := Wd H L) (by simp [results, Try.results47, go_sem, hc]) rfl ⟨rfl, below_set2 ((((Below.refl _ _).alloc (Nat.le_refl _) _).alloc (by simp) _).trans (hbw.mono (by simp; omega))) _ (by omega) _ _⟩

theorem eqlWd (a b c d : Int) (w : World) : (binOp .eql 41 (Wd a b) (Wd c d)).run Try.prog w = .ok (.bool (a == c && b == d)) w := by
  have ht : Try.prog.underlying 41 = some (.struct (Try.prog.fieldsOf 41)) := by kernel_rfl
  have hp : Try.prog.stoodInHeld 41 = false := by kernel_rfl
  rw [run_eql_struct, run_equalIn_agg w 9999 41 _ _ ht hp]
  simp [go_sem, Try.underlying41, Try.underlying2, Try.underlying39]
  by_cases h1 : a = c <;> by_cases h2 : b = d <;> simp [h1, h2]
theorem guardWd (a b c d : Int) (x y : Operand) (w : World) : (eqGuard .eql 41 x y (Wd a b) (Wd c d)).run Try.prog w = .ok () w :=
  run_eqGuard_agg w .eql 41 x y _ _ (by kernel_rfl)
theorem wrap64_bd (n : Int) : -9223372036854775808 ≤ wrap64 n ∧ wrap64 n ≤ 9223372036854775807 := by unfold wrap64; omega
set_option maxHeartbeats 400000 in
theorem fits_any (z : Int) (w : World) :
    Calls Try.prog 24 #[Wd (hiW z) (loW z)] w fun e w' => e = .returned (.tuple #[.int .i64 (wrap64 (loW z)), .bool (hiW (wrap64 (loW z)) == hiW z && loW (wrap64 (loW z)) == loW z)]) ∧ Below w.heap.size w w' := by
  have F := Lib.hid (fun W => of_any (wrap64 (loW z)) W (wrap64_bd _).1 (wrap64_bd _).2)
  generalize hiW (wrap64 (loW z)) = H at *
  generalize loW (wrap64 (loW z)) = L at *
  generalize hiW z = H1 at *
  generalize loW z = L1 at *
  go_enter Try.func24, Try.ntmps24
  go_wp2_with fail
  generalize hW : World.alloc _ _ = W
  have hb0 : Below w.heap.size w W := by rw [← hW]; exact (Below.refl _ _).alloc (Nat.le_refl _) _
  have hblk : W.heap[w.heap.size]? = some (.cells #[.int .i64 H1, .int .u64 L1] 41 (0, 0)) := by rw [← hW]; exact heap_alloc_new _ _
  have p0 := fun m : Bl W => cell_of_row m.wr w.heap.size 0 _ _ _ ((m.below.block _ (by rw [← hW]; simp)).trans hblk)
  have p1 := fun m : Bl W => cell_of_row m.wr w.heap.size 1 _ _ _ ((m.below.block _ (by rw [← hW]; simp)).trans hblk)
  simp only [List.getElem?_toArray, List.getElem?_cons_zero, List.getElem?_cons_succ] at p0 p1
  have HB := Lib.hid hb0
  clear hW hblk hb0
  have heq := fun w => eqlWd H L H1 L1 w
  have hgu := fun x y w => guardWd H L H1 L1 x y w
  refine wp_region_quietB (by kernel_rfl) (by kernel_rfl) ?_
  iterate 7 (go_big_quiet_step ((go_at_call 46; with_reducible exact Calls.quiet_b (F.out _))))
  refine wpQuiet_nil ?_
  intro m
  have HBM := Lib.hid (HB.out.trans (m.below.mono HB.out.size))
  clear p0 p1 heq hgu
  go_wp2_with fail
  go_ret2
  exact ⟨rfl, HBM.out⟩
end Go.Proofs.Ytcgbodbjjfngpaa
