/- P2.1, the bags: the reference's Bag. -/
import Derived.Test.YtgfnbbclopdapaaVBagR
namespace Go.Proofs.Ytgfnbbclopdapaa
open Go.RowKit

structure RefBagIs (w : World) (l : List Val) (e : Int) (y : Val) (ly : List Val) : Prop where
  full : Full w y ly
  good : e = 0 → y.k = 5 ∧ y.i = 0 ∧ y.s = ⟨#[]⟩ ∧ ly = refTo l
  bad : e ≠ 0 → y = ⟨0, 0, ⟨#[]⟩, none, 0, 0⟩ ∧ ly = []
theorem refBagIs_bad {w : World} {l : List Val} {e : Int} (h : e ≠ 0) : RefBagIs w l e ⟨0, 0, ⟨#[]⟩, none, 0, 0⟩ [] :=
  ⟨(bagIs_bad (w := w) (l := l) h).full, fun h0 => absurd h0 h, fun _ => ⟨rfl, rfl⟩⟩

set_option maxRecDepth 100000 in
set_option maxHeartbeats 2000000 in
theorem refbag_bad (w : World) (l : List Val) (ad : Option Addr) (g o cp : Nat) (hl : ListAt w ad g o l) (hm : l.length ≤ 1000) (j0 : Nat) (hj0 : j0 < l.length) (hbad : kindOk l[0]! l[j0]! = false) :
    Calls Try.prog 18 #[.slice ad l.length cp] w fun e w' => ∃ y ly, e = .returned (.tuple #[y.v, .int .i64 (refE l)]) ∧ RefBagIs w' l (refE l) y ly ∧ Below w.heap.size w w' := by
  have HL := Lib.hid hl
  have HJ := Lib.hid hbad
  clear hl hbad
  go_enter Try.func18, Try.ntmps18
  go_wp2_with fail
  generalize hW0 : World.alloc _ _ = W0
  have h0 : Below w.heap.size w W0 := by rw [← hW0]; exact (Below.refl _ _).alloc (Nat.le_refl _) _
  have hz : W0.heap[w.heap.size]? = some (.cells #[.int .i64 0, .int .i64 0, .string ⟨#[]⟩, .slice none 0 0] 24 (0, 0)) := by rw [← hW0]; exact heap_alloc_new _ _
  have H0 := Lib.hid h0
  have HZ := Lib.hid hz
  have hs0 : w.heap.size < W0.heap.size := lt_block hz
  clear hW0 h0 hz
  go_loopw [4] (fun i wr => ∃ k : Nat, k ≤ j0 ∧ i = .int .i64 k ∧ Hid (Below W0.heap.size W0 wr)) (fun i _ => j0 - (intOf i).toNat)
  case atStart => exact ⟨0, by omega, rfl, Lib.hid (Below.refl _ _)⟩
  case round =>
    obtain ⟨k, hk, rfl, HB⟩ := hrel
    have hsr := HB.out.size
    have hbw : Below w.heap.size w wr := H0.out.trans (HB.out.mono (by omega))
    have HBw := Lib.hid hbw
    have hzr : wr.heap[w.heap.size]? = some (.cells #[.int .i64 0, .int .i64 0, .string ⟨#[]⟩, .slice none 0 0] 24 (0, 0)) := by rw [HB.out.block _ (by omega)]; exact HZ.out
    have HZr := Lib.hid hzr
    clear hbw hzr
    have hlt : k < l.length := by omega
    · obtain rfl := HL.out.at' (by intro e; subst e; simp at hlt)
      obtain ⟨x, hX⟩ : ∃ x, l[k]! = x := ⟨_, rfl⟩
      obtain ⟨h, hH⟩ : ∃ h, l[0]! = h := ⟨_, rfl⟩
      have p0 := fun m : Bl wr => (HL.out.cells HBw.out k hlt m).1
      have q0 := fun m : Bl wr => (HL.out.cells HBw.out 0 (by omega) m).1
      rw [hX] at p0
      rw [hH] at q0
      simp only [Nat.zero_mul, Nat.add_zero] at q0
      have HX := Lib.hid hX
      have HH := Lib.hid hH
      clear hX hH
      have bad : Hid (kindOk h x = false → refE l = 6) := Lib.hid (fun hf => refE_type hlt (by rw [HX.out, HH.out]; exact hf))
      go_wp2_with fail
      cases hx0 : x.k == 0
      case true =>
        refine wp_region_quietB (by kernel_rfl) (by kernel_rfl) ?_
        iterate 26 (go_big_quiet_step (fail))
        refine wpQuiet_nil ?_
        intro m
        have HBM := Lib.hid (HBw.out.trans (m.below.mono HBw.out.size))
        clear p0 q0
        have hzm := HZr.out
        rw [← m.below.block _ (lt_block hzm)] at hzm
        have z0 := cell_block hzm 0
        have z1 := cell_block hzm 1
        have z2 := cell_block hzm 2
        have z3 := cell_block hzm 3
        have zf : ∀ o, m.wr.frozen? ⟨w.heap.size, o, none⟩ = false := fun o => by simp [World.frozen?, hzm]
        simp at z0 z1 z2 z3
        have HE := Lib.hid (bad.out (by simp [kindOk, hx0]))
        clear hzm bad
        go_wp2_with fail
        exact bodyPost_ret (v := .tuple #[(⟨0, 0, ⟨#[]⟩, none, 0, 0⟩ : Val).v, .int .i64 6]) (by simp [results, Try.results18, go_sem, z0, z1, z2, z3, Val.v, V]) rfl ⟨_, _, by rw [HE.out], refBagIs_bad (by rw [HE.out]; decide), below_set4 HBM.out _ (Nat.le_refl _) _ _ _ _⟩
      cases hx5 : x.k == 5
      case true =>
        refine wp_region_quietB (by kernel_rfl) (by kernel_rfl) ?_
        iterate 26 (go_big_quiet_step (fail))
        refine wpQuiet_nil ?_
        intro m
        have HBM := Lib.hid (HBw.out.trans (m.below.mono HBw.out.size))
        clear p0 q0
        have hzm := HZr.out
        rw [← m.below.block _ (lt_block hzm)] at hzm
        have z0 := cell_block hzm 0
        have z1 := cell_block hzm 1
        have z2 := cell_block hzm 2
        have z3 := cell_block hzm 3
        have zf : ∀ o, m.wr.frozen? ⟨w.heap.size, o, none⟩ = false := fun o => by simp [World.frozen?, hzm]
        simp at z0 z1 z2 z3
        have HE := Lib.hid (bad.out (by simp [kindOk, hx5]))
        clear hzm bad
        go_wp2_with fail
        exact bodyPost_ret (v := .tuple #[(⟨0, 0, ⟨#[]⟩, none, 0, 0⟩ : Val).v, .int .i64 6]) (by simp [results, Try.results18, go_sem, z0, z1, z2, z3, Val.v, V]) rfl ⟨_, _, by rw [HE.out], refBagIs_bad (by rw [HE.out]; decide), below_set4 HBM.out _ (Nat.le_refl _) _ _ _ _⟩
      cases hxh : x.k != h.k
      case true =>
        refine wp_region_quietB (by kernel_rfl) (by kernel_rfl) ?_
        iterate 26 (go_big_quiet_step (fail))
        refine wpQuiet_nil ?_
        intro m
        have HBM := Lib.hid (HBw.out.trans (m.below.mono HBw.out.size))
        clear p0 q0
        have hzm := HZr.out
        rw [← m.below.block _ (lt_block hzm)] at hzm
        have z0 := cell_block hzm 0
        have z1 := cell_block hzm 1
        have z2 := cell_block hzm 2
        have z3 := cell_block hzm 3
        have zf : ∀ o, m.wr.frozen? ⟨w.heap.size, o, none⟩ = false := fun o => by simp [World.frozen?, hzm]
        simp at z0 z1 z2 z3
        have HE := Lib.hid (bad.out (by simp [kindOk, show (x.k == h.k) = false by simpa using hxh]))
        clear hzm bad
        go_wp2_with fail
        exact bodyPost_ret (v := .tuple #[(⟨0, 0, ⟨#[]⟩, none, 0, 0⟩ : Val).v, .int .i64 6]) (by simp [results, Try.results18, go_sem, z0, z1, z2, z3, Val.v, V]) rfl ⟨_, _, by rw [HE.out], refBagIs_bad (by rw [HE.out]; decide), below_set4 HBM.out _ (Nat.le_refl _) _ _ _ _⟩
      refine wp_region_quietB (by kernel_rfl) (by kernel_rfl) ?_
      iterate 26 (go_big_quiet_step (fail))
      refine wpQuiet_nil ?_
      intro m
      have HBM := Lib.hid (HB.out.trans (m.below.mono HB.out.size))
      clear p0 q0
      have hkj : k ≠ j0 := by
        intro e
        subst e
        have h1 := HJ.out
        rw [HX.out, HH.out] at h1
        simp [kindOk, hx0, hx5, show (x.k == h.k) = true by simpa using hxh] at h1
      clear bad
      go_wp2_with fail
      go_roundw
      case rel => exact ⟨k + 1, by omega, by go_num, HBM⟩
      case measure => simp [intOf]; omega
end Go.Proofs.Ytgfnbbclopdapaa
