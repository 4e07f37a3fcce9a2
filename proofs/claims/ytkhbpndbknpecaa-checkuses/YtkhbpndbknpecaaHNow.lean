/- The type of "now", by no facts: what a program that does nothing doesn't answer. -/
import Derived.Test.YtkhbpndbknpecaaProg
import Derived.Test.YtkhbpndbknpecaaMem
import Derived.Test.YtkhbpndbknpecaaQTail
namespace Go.Proofs.Ytkhbpndbknpecaa
open Go.RowKit

set_option maxRecDepth 100000 in
theorem partsNow_any (w : World) : Calls Try.prog 12 #[.string ⟨#[110, 111, 119]⟩] w fun e w' => e = .returned (.int .i64 0) ∧ w' = w := by
  go_enter Try.func12, Try.ntmps12
  go_wp2_with fail
  go_ret
  exact ⟨rfl, rfl⟩
set_option maxRecDepth 100000 in
set_option maxHeartbeats 1000000 in
theorem tellAloneNow_any (w : World) (t : Value) (b : Nat) (h0 : w.cell? ⟨b, 0, none⟩ = some (.string ⟨#[110, 111, 119]⟩)) :
    Calls Try.prog 13 #[t, .pointer (some ⟨b, 0, none⟩)] w fun e w' => e = .returned (.tuple #[.int .i64 4, .int .i64 0]) ∧ w' = w := by
  go_enter Try.func13, Try.ntmps13
  go_wp2_with fail
  exact bodyPost_ret (v := .tuple #[.int .i64 4, .int .i64 0]) (by simp [results, Try.results13, go_sem]) rfl ⟨rfl, rfl⟩
set_option maxRecDepth 100000 in
set_option maxHeartbeats 1000000 in
theorem tellNow_any (w : World) (t : Value) (b : Nat) (hb : b < w.heap.size) (h0 : w.cell? ⟨b, 0, none⟩ = some (.string ⟨#[110, 111, 119]⟩)) (h7 : w.cell? ⟨b, 7, none⟩ = some (.slice none 0 0)) :
    Calls Try.prog 11 #[t, .pointer (some ⟨b, 0, none⟩), .int .i64 12] w fun e w' => e = .returned (.tuple #[.int .i64 4, .int .i64 0]) ∧ Below w.heap.size w w' := by
  have HP := Lib.hid (fun W => partsNow_any W)
  have HT := Lib.hid (fun W => tellAloneNow_any W t b)
  go_enter Try.func11, Try.ntmps11
  go_wp2_with fail
  refine wp_region_quietB (by kernel_rfl) (by kernel_rfl) ?_
  have c0 : ∀ m : Bl w, m.wr.cell? ⟨b, 0, none⟩ = some (.string ⟨#[110, 111, 119]⟩) := fun m => (m.below.cell hb).trans h0
  have c7 : ∀ m : Bl w, m.wr.cell? ⟨b, 7, none⟩ = some (.slice none 0 0) := fun m => (m.below.cell hb).trans h7
  repeat (go_big_quiet_step ((go_at_call 12; with_reducible exact Calls.quiet_b ((HP.out _).mono (fun e w' h => ⟨h.1, h.2 ▸ Below.refl _ _⟩)))))
  refine wpQuiet_nil ?_
  intro m
  have HBM := Lib.hid m.below
  have C0 := c0 m
  have C7 := c7 m
  clear c0 c7
  generalize m.wr = wm at *
  go_wp2_with fail
  refine (HT.out _ C0).mono ?_
  rintro e w2 ⟨rfl, rfl⟩
  go_wp2_with fail
  exact bodyPost_ret (v := .tuple #[.int .i64 4, .int .i64 0]) (by simp [results, Try.results11, go_sem]) rfl ⟨rfl, HBM.out⟩
set_option maxRecDepth 100000 in
set_option maxHeartbeats 1000000 in
theorem wholeNow_any (w : World) (t : Value) (b : Nat) (hb : b < w.heap.size) (h0 : w.cell? ⟨b, 0, none⟩ = some (.string ⟨#[110, 111, 119]⟩)) (h7 : w.cell? ⟨b, 7, none⟩ = some (.slice none 0 0)) :
    Calls Try.prog 9 #[t, .pointer (some ⟨b, 0, none⟩)] w fun e w' => e = .returned (.tuple #[.int .i64 4, .int .i64 0]) ∧ Below w.heap.size w w' := by
  have HT := Lib.hid (fun W h1 h2 h3 => tellNow_any W t b h1 h2 h3)
  have HB := Lib.hid hb
  have H0 := Lib.hid h0
  have H7 := Lib.hid h7
  clear hb h0 h7
  go_enter Try.func9, Try.ntmps9
  go_wp2_with fail
  generalize hW : World.alloc _ _ = W0 at *
  have hb0 : Below w.heap.size w W0 := by rw [← hW]; exact (Below.refl _ _).alloc (Nat.le_refl _) _
  have HB0 := Lib.hid hb0
  have hg : W0.heap[w.heap.size]? = some (.cells #[.pointer (some ⟨b, 0, none⟩)] 38 (0, 0)) := by rw [← hW]; exact heap_alloc_new _ _
  have hc : W0.cell? ⟨w.heap.size, 0, none⟩ = some (.pointer (some ⟨b, 0, none⟩)) := by rw [cell_block hg]; rfl
  clear hb0 hW hg
  go_loopw [6] (fun v6 wr => v6 = .slice (some ⟨w.heap.size, 0, none⟩) 1 1 ∧ wr = W0) (fun _ _ => 0)
  case atStart => exact ⟨rfl, rfl⟩
  case round =>
    obtain ⟨rfl, rfl⟩ := hrel
    go_wp2_with fail
    refine (HT.out _ (by have := HB0.out.size; have := HB.out; omega) ((HB0.out.cell HB.out).trans H0.out) ((HB0.out.cell HB.out).trans H7.out)).mono ?_
    rintro e w2 ⟨rfl, hb2⟩
    have HB2 := Lib.hid (HB0.out.trans (hb2.mono HB0.out.size))
    clear hb2 hc
    go_wp2_with fail
    exact bodyPost_ret (v := .tuple #[.int .i64 4, .int .i64 0]) (by simp [results, Try.results9, go_sem]) rfl ⟨rfl, HB2.out⟩
set_option maxRecDepth 100000 in
set_option maxHeartbeats 1000000 in
theorem newTyper_nil (w : World) : Calls Try.prog 8 #[.slice none 0 0] w fun e w' => (∃ m1 m2, e = .returned (.agg #[.map (some m1), .map (some m2), .pointer none])) ∧ Below w.heap.size w w' := by
  have hmm := @run_makeMap Try.prog
  go_enter Try.func8, Try.ntmps8
  go_wp2_with fail
  generalize hW : World.alloc _ _ = W0 at *
  have hb0 : Below w.heap.size w W0 := by rw [← hW]; exact ((((Below.refl _ _).alloc (Nat.le_refl _) _).alloc (by simp) _).alloc (by simp; omega) _).alloc (by simp; omega) _
  have h3 : W0.heap[w.heap.size + 1 + 1 + 1]? = some (.cells #[.map (some (w.heap.size + 1)), .map (some (w.heap.size + 1 + 1)), .pointer none] 40 (0, 0)) := by
    rw [← hW]; have := heap_alloc_new (((w.alloc (.cells #[.map none, .map none, .pointer none] 40)).alloc (.map #[] 0)).alloc (.map #[] 0)) (.cells #[.map (some (w.heap.size + 1)), .map (some (w.heap.size + 1 + 1)), .pointer none] 40 (0, 0))
    simpa using this
  have hs : W0.heap.size = w.heap.size + 1 + 1 + 1 + 1 := by rw [← hW]; simp
  have h2 : W0.heap[w.heap.size]? = some (.cells #[.map none, .map none, .pointer none] 40 (0, 0)) := by
    rw [← hW]
    have e1 := (((Below.refl (w.heap.size + 1) (w.alloc (.cells #[.map none, .map none, .pointer none] 40))).alloc (by simp) (.map #[] 0)).alloc (by simp) (.map #[] 0)).alloc (by simp) (.cells #[.map (some (w.heap.size + 1)), .map (some (w.heap.size + 1 + 1)), .pointer none] 40 (0, 0))
    exact (e1.block _ (Nat.lt_succ_self _)).trans (heap_alloc_new _ _)
  obtain ⟨G, hG⟩ : ∃ G, w.heap.size + 1 + 1 + 1 = G := ⟨_, rfl⟩
  have hGn : w.heap.size ≠ G := by omega
  rw [hG] at h3 ⊢
  have HB0 := Lib.hid hb0
  clear hW hb0 hG hs hmm
  go_loopw [14] (fun v14 wr => v14 = .int .i64 0 ∧ wr = W0) (fun _ _ => 0)
  case atStart => exact ⟨rfl, rfl⟩
  case round =>
    obtain ⟨rfl, rfl⟩ := hrel
    have c0 : wr.cell? ⟨G, 0, none⟩ = some (.map (some (w.heap.size + 1))) := by rw [cell_block h3]; rfl
    have c1 : wr.cell? ⟨G, 1, none⟩ = some (.map (some (w.heap.size + 1 + 1))) := by rw [cell_block h3]; rfl
    have c2 : wr.cell? ⟨G, 2, none⟩ = some (.pointer none) := by rw [cell_block h3]; rfl
    have z0 : wr.cell? ⟨w.heap.size, 0, none⟩ = some (.map none) := by rw [cell_block h2]; rfl
    have z1 : wr.cell? ⟨w.heap.size, 1, none⟩ = some (.map none) := by rw [cell_block h2]; rfl
    have z2 : wr.cell? ⟨w.heap.size, 2, none⟩ = some (.pointer none) := by rw [cell_block h2]; rfl
    have f0 := frozen_of_row wr w.heap.size 0 _ _ h2
    have f1 := frozen_of_row wr w.heap.size 1 _ _ h2
    have f2 := frozen_of_row wr w.heap.size 2 _ _ h2
    obtain ⟨WE, hWE⟩ : ∃ WE, ((wr.setCell ⟨w.heap.size, 0, none⟩ (.map (some (w.heap.size + 1)))).setCell ⟨w.heap.size, 1, none⟩ (.map (some (w.heap.size + 1 + 1)))).setCell ⟨w.heap.size, 2, none⟩ (.pointer none) = WE := ⟨_, rfl⟩
    have g1 : (wr.setCell ⟨w.heap.size, 0, none⟩ (.map (some (w.heap.size + 1)))).heap[w.heap.size]? = some (.cells #[.map (some (w.heap.size + 1)), .map none, .pointer none] 40 (0, 0)) := by rw [heap_setCell_same _ _ 0 _ _ _ h2]; rfl
    have g2 : ((wr.setCell ⟨w.heap.size, 0, none⟩ (.map (some (w.heap.size + 1)))).setCell ⟨w.heap.size, 1, none⟩ (.map (some (w.heap.size + 1 + 1)))).heap[w.heap.size]? = some (.cells #[.map (some (w.heap.size + 1)), .map (some (w.heap.size + 1 + 1)), .pointer none] 40 (0, 0)) := by rw [heap_setCell_same _ _ 1 _ _ _ g1]; rfl
    have g3 : WE.heap[w.heap.size]? = some (.cells #[.map (some (w.heap.size + 1)), .map (some (w.heap.size + 1 + 1)), .pointer none] 40 (0, 0)) := by rw [← hWE]; rw [heap_setCell_same _ _ 2 _ _ _ g2]; rfl
    have HE := Lib.hid g3
    have HBE : Hid (Below w.heap.size w WE) := Lib.hid (by
      rw [← hWE]
      exact ((((Kept1.of_below (b := w.heap.size) HB0.out).setCell ⟨w.heap.size, 0, none⟩ (Or.inl rfl) _).setCell ⟨w.heap.size, 1, none⟩ (Or.inl rfl) _).setCell ⟨w.heap.size, 2, none⟩ (Or.inl rfl) _).below (Nat.le_refl _))
    have HWE := Lib.hid hWE
    clear h3 h2 g1 g2 g3 hWE
    go_wp2_with fail
    rw [HWE.out]
    exact bodyPost_ret (v := .agg #[.map (some (w.heap.size + 1)), .map (some (w.heap.size + 1 + 1)), .pointer none]) (results_cell_row Try.results8 _ _ w.heap.size 40 _ (0, 0) _ rfl HE.out Try.underlying40 rfl (by kernel_rfl)) rfl ⟨⟨_, _, rfl⟩, HBE.out⟩
set_option maxRecDepth 100000 in
theorem typeNow_any (w : World) : Calls Try.prog 7 #[.slice none 0 0, .agg #[.string ⟨#[110, 111, 119]⟩, .int .i64 0, .int .i64 0, .string ⟨#[]⟩, .slice none 0 0, .string ⟨#[]⟩, .string ⟨#[]⟩, .slice none 0 0]] w fun e w' => e = .returned (.tuple #[.int .i64 4, .int .i64 0]) ∧ Below w.heap.size w w' := by
  go_enter Try.func7, Try.ntmps7
  go_wp2_with fail
  have hb0 : Below w.heap.size w (w.alloc (.cells #[.string ⟨#[110, 111, 119]⟩, .int .i64 0, .int .i64 0, .string ⟨#[]⟩, .slice none 0 0, .string ⟨#[]⟩, .string ⟨#[]⟩, .slice none 0 0] 34)) := (Below.refl _ _).alloc (Nat.le_refl _) _
  have hg := heap_alloc_new w (.cells #[.string ⟨#[110, 111, 119]⟩, .int .i64 0, .int .i64 0, .string ⟨#[]⟩, .slice none 0 0, .string ⟨#[]⟩, .string ⟨#[]⟩, .slice none 0 0] 34)
  generalize World.alloc _ _ = W0 at *
  refine (newTyper_nil W0).mono ?_
  rintro e w1 ⟨⟨m1, m2, rfl⟩, hb1⟩
  have hlt := lt_block hg
  have hg1 := (hb1.block _ hlt).trans hg
  have h0 : w1.cell? ⟨w.heap.size, 0, none⟩ = some (.string ⟨#[110, 111, 119]⟩) := by rw [cell_block hg1]; rfl
  have h7 : w1.cell? ⟨w.heap.size, 7, none⟩ = some (.slice none 0 0) := by rw [cell_block hg1]; rfl
  have hlt1 := lt_block hg1
  have HT := Lib.hid (fun W (hb : Below w1.heap.size w1 W) (t : Value) => wholeNow_any W t w.heap.size (Nat.lt_of_lt_of_le hlt1 hb.size) ((hb.cell hlt1).trans h0) ((hb.cell hlt1).trans h7))
  have HB1 := Lib.hid (hb0.trans (hb1.mono hb0.size))
  clear hg hg1 h0 h7 hb0 hb1 hlt hlt1
  go_wp2_with fail
  refine (HT.out _ (Below.alloc (Below.refl _ _) (Nat.le_refl _) _) _).mono ?_
  rintro e w2 ⟨rfl, hb2⟩
  have HB2 := Lib.hid ((HB1.out.alloc (Nat.le_trans HB1.out.size (Nat.le_refl _)) _).trans (hb2.mono (by have := HB1.out.size; simp; omega)))
  clear hb2
  go_wp2_with fail
  exact bodyPost_ret (v := .tuple #[.int .i64 4, .int .i64 0]) (by simp [results, Try.results7, go_sem]) rfl ⟨rfl, HB2.out⟩
end Go.Proofs.Ytkhbpndbknpecaa
