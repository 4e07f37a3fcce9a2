/- CheckUses: the walk. -/
import Derived.Test.YtkhbpndbknpecaaHNow
namespace Go.Proofs.Ytkhbpndbknpecaa
open Go.RowKit

set_option maxRecDepth 100000 in
theorem own : ownKnob Try.prog.godebug = none := by kernel_rfl
set_option maxRecDepth 100000 in
theorem laidOut : laidOutB Try.prog = true := by kernel_rfl
set_option maxRecDepth 100000 in
theorem u8_of {a : Int} (h : (Lit.int .u8 a).wf = true) : ∃ c : UInt8, a = (c.toNat : Int) := by
  have h1 : IntKind.u8.min ≤ a ∧ a ≤ IntKind.u8.max := by simpa [Lit.wf] using h
  have h2 : 0 ≤ a ∧ a ≤ 255 := h1
  exact ⟨UInt8.ofNat a.toNat, by simp [UInt8.toNat_ofNat']; omega⟩
def usesV : List Value := [.string ⟨#[100, 101, 110, 121, 95, 111, 118, 101, 114, 114, 105, 100, 101, 115]⟩, .string ⟨#[112, 101, 114, 109, 105, 116, 95, 111, 118, 101, 114, 114, 105, 100, 101, 115]⟩, .string ⟨#[102, 105, 114, 115, 116]⟩, .string ⟨#[111, 110, 108, 121, 95, 111, 110, 101]⟩, .string ⟨#[100, 101, 110, 121, 95, 117, 110, 108, 101, 115, 115, 95, 112, 101, 114, 109, 105, 116]⟩, .string ⟨#[112, 101, 114, 109, 105, 116, 95, 117, 110, 108, 101, 115, 115, 95, 100, 101, 110, 121]⟩]
set_option maxRecDepth 100000 in
theorem usesV_at (n : Nat) (h : n < 6) : ∃ S, usesV[n]? = some (.string S) := by
  rcases n with _ | _ | _ | _ | _ | _ | n
  all_goals first | exact ⟨_, rfl⟩ | omega
set_option maxRecDepth 100000 in
theorem uses_any (w : World) : Calls Try.prog 4 #[] w fun e w' => e = .returned (.slice (some ⟨w.heap.size, 0, none⟩) 6 6) ∧ w'.heap[w.heap.size]? = some (.cells usesV.toArray 9 (0, 0)) ∧ Below w.heap.size w w' := by
  go_enter Try.func4, Try.ntmps4
  go_wp2_with fail
  go_ret
  exact ⟨rfl, heap_alloc_new _ _, (Below.refl _ _).alloc (Nat.le_refl _) _⟩
set_option maxRecDepth 100000 in
theorem refUses_any (w : World) : Calls Try.prog 5 #[] w fun e w' => e = .returned (.slice (some ⟨w.heap.size, 0, none⟩) 6 6) ∧ w'.heap[w.heap.size]? = some (.cells usesV.toArray 9 (0, 0)) ∧ Below w.heap.size w w' := by
  go_enter Try.func5, Try.ntmps5
  go_wp2_with fail
  go_ret
  exact ⟨rfl, heap_alloc_new _ _, (Below.refl _ _).alloc (Nat.le_refl _) _⟩
set_option maxRecDepth 100000 in
theorem hawake_any (w : World) : Calls Try.prog 6 #[] w fun e w' => e = .returned (.bool true) ∧ Below w.heap.size w w' := by
  have HT := Lib.hid (fun W => typeNow_any W)
  have HU := Lib.hid (fun W => uses_any W)
  go_enter Try.func6, Try.ntmps6
  go_wp2_with fail
  refine (HT.out _).mono ?_
  rintro e w1 ⟨rfl, hb1⟩
  have HB1 := Lib.hid hb1
  clear hb1
  go_wp2_with fail
  refine (HU.out _).mono ?_
  rintro e w2 ⟨rfl, -, hb2⟩
  have HB2 := Lib.hid (HB1.out.trans (hb2.mono HB1.out.size))
  clear hb2
  go_wp2_with fail
  go_ret
  exact ⟨rfl, HB2.out⟩
set_option maxRecDepth 100000 in
theorem checkUses_walk (w : World) (k : UInt8) : Calls Try.prog 3 #[.int .u8 k.toNat] w fun e w' => e = .returned (.bool true) ∧ Below w.heap.size w w' := by
  have HA := Lib.hid (fun W => hawake_any W)
  have HU := Lib.hid (fun W => uses_any W)
  have HR := Lib.hid (fun W => refUses_any W)
  obtain ⟨n, hn⟩ : ∃ n, k.toNat % 6 = n := ⟨_, rfl⟩
  have hk := k.toNat_lt
  have hn6 : n < 6 := by omega
  have hmod : Int.tmod (k.toNat : Int) 6 = n := by rw [Int.tmod_eq_emod_of_nonneg (by omega), ← hn]; rfl
  obtain ⟨S, hS⟩ := usesV_at n hn6
  go_enter Try.func3, Try.ntmps3
  go_wp2_with fail
  refine (HU.out _).mono ?_
  rintro e w1 ⟨rfl, hg1, hb1⟩
  have HG1 := Lib.hid hg1
  have HB1 := Lib.hid hb1
  clear hg1 hb1
  go_wp2_with fail
  refine (HR.out _).mono ?_
  rintro e w2 ⟨rfl, hg2, hb2⟩
  have hq1 := (hb2.block _ (lt_block HG1.out)).trans HG1.out
  have HB2 := Lib.hid (HB1.out.trans (hb2.mono HB1.out.size))
  go_wp2_with fail
  refine wp_region_quietB (by kernel_rfl) (by kernel_rfl) ?_
  have c1 : ∀ m : Bl w2, m.wr.cell? ⟨w.heap.size, n, none⟩ = some (.string S) := fun m => by rw [cell_block ((m.below.block _ (lt_block hq1)).trans hq1)]; simpa using hS
  have c2 : ∀ m : Bl w2, m.wr.cell? ⟨w1.heap.size, n, none⟩ = some (.string S) := fun m => by rw [cell_block ((m.below.block _ (lt_block hg2)).trans hg2)]; simpa using hS
  repeat (go_big_quiet_step ((go_at_call 6; with_reducible exact Calls.quiet_b (HA.out _))))
  refine wpQuiet_nil ?_
  intro m
  have HBM := Lib.hid (HB2.out.trans (m.below.mono HB2.out.size))
  clear c1 c2
  go_wp2_with fail
  go_ret
  exact ⟨rfl, HBM.out⟩
end Go.Proofs.Ytkhbpndbknpecaa
