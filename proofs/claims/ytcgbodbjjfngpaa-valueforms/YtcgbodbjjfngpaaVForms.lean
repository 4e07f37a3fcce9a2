/- P2.1, P2.4: whether values are formed; their order, and that it is total: the walk of the law. -/
import Derived.Test.YtcgbodbjjfngpaaVFormMath
import Derived.Test.YtcgbodbjjfngpaaVAwake
import Derived.Test.YtcgbodbjjfngpaaVSums
import Derived.Test.YtcgbodbjjfngpaaVBlks
namespace Go.Proofs.Ytcgbodbjjfngpaa
open Go.RowKit

set_option maxRecDepth 100000 in
set_option maxHeartbeats 1000000 in
theorem forms_big (w : World) (x y z : Val) (lx ly lz : List Val) (hx : Full w x lx) (hy : Full w y ly) (hz : Full w z lz) (hsm : (small x lx && small y ly) = true → (small z lz && small z lz) = false) :
    Calls Try.prog 3 #[x.v, y.v, z.v] w fun e w' => e = .returned (.bool true) ∧ Below w.heap.size w w' := by
  obtain ⟨s1, hs1⟩ : ∃ s, (small x lx && small y ly) = s := ⟨_, rfl⟩
  have HTw : Hid (∀ W, Below w.heap.size w W → Calls Try.prog 10 #[V x.k x.i x.s x.a x.n x.c, V y.k y.i y.s y.a y.n y.c] W fun e w' => e = .returned (.bool s1) ∧ Below W.heap.size W w') := Lib.hid (by
    intro W hW; rw [← hs1]; exact two_any W x y lx ly (hx.below hW) (hy.below hW))
  have HTz : s1 = true → Hid (∀ W, Below w.heap.size w W → Calls Try.prog 10 #[V z.k z.i z.s z.a z.n z.c, V z.k z.i z.s z.a z.n z.c] W fun e w' => e = .returned (.bool false) ∧ Below W.heap.size W w') := fun h => Lib.hid (by
    intro W hW; rw [← hsm (by rw [hs1, h])]; exact two_any W z z lz lz (hz.below hW) (hz.below hW))
  clear hx hy hz hsm hs1
  unfold Val.v
  go_enter Try.func3, Try.ntmps3
  go_wp2_with fail
  generalize hW : World.alloc _ _ = W0
  have HB0 : Hid (Below w.heap.size w W0) := Lib.hid (by rw [← hW]; exact (((Below.refl _ _).alloc (Nat.le_refl _) _).alloc (by simp) _).alloc (by simp; omega) _)
  have HK0 : Hid (Blks W0 [(w.heap.size + 1 + 1, z), (w.heap.size + 1, y), (w.heap.size, x)]) := Lib.hid (by rw [← hW]; exact blks3 w x y z)
  clear hW
  refine (awake_any W0).mono ?_
  rintro e w1 ⟨rfl, hb⟩
  have HB1 := Lib.hid (HB0.out.trans (hb.mono HB0.out.size))
  have HK1 := Lib.hid (HK0.out.below hb)
  clear hb HB0 HK0
  obtain ⟨y0, y1, y2, y3⟩ := HK1.out.at 1 rfl
  obtain ⟨x0, x1, x2, x3⟩ := HK1.out.at 2 rfl
  go_wp2_with fail
  refine (HTw.out _ HB1.out).mono ?_
  rintro e w2 ⟨rfl, hb⟩
  have HB2 := Lib.hid (HB1.out.trans (hb.mono HB1.out.size))
  have HK2 := Lib.hid (HK1.out.below hb)
  clear hb HB1 HK1 x0 x1 x2 x3 y0 y1 y2 y3 HTw
  cases s1
  · clear HTz
    go_wp2_with fail
    refine (awake_any w2).mono ?_
    rintro e w3 ⟨rfl, hb⟩
    have HB3 := Lib.hid (HB2.out.trans (hb.mono HB2.out.size))
    clear hb HB2
    go_wp2_with fail
    go_ret
    exact ⟨rfl, HB3.out⟩
  · have HTz' := HTz rfl
    clear HTz
    obtain ⟨z0, z1, z2, z3⟩ := HK2.out.at 0 rfl
    go_wp2_with fail
    refine (HTz'.out _ HB2.out).mono ?_
    rintro e w3 ⟨rfl, hb⟩
    have HB3 := Lib.hid (HB2.out.trans (hb.mono HB2.out.size))
    clear hb HB2 HK2 z0 z1 z2 z3 HTz'
    go_wp2_with fail
    refine (awake_any w3).mono ?_
    rintro e w4 ⟨rfl, hb⟩
    have HB4 := Lib.hid (HB3.out.trans (hb.mono HB3.out.size))
    clear hb HB3
    go_wp2_with fail
    go_ret
    exact ⟨rfl, HB4.out⟩

set_option maxRecDepth 100000 in
set_option maxHeartbeats 4000000 in
theorem forms_small (w : World) (x y z : Val) (lx ly lz : List Val) (hx : Full w x lx) (hy : Full w y ly) (hz : Full w z lz) (hs1 : (small x lx && small y ly) = true) (hs2 : (small z lz && small z lz) = true) :
    Calls Try.prog 3 #[x.v, y.v, z.v] w fun e w' => e = .returned (.bool true) ∧ Below w.heap.size w w' := by
  have HTw : Hid (∀ W, Below w.heap.size w W → Calls Try.prog 10 #[V x.k x.i x.s x.a x.n x.c, V y.k y.i y.s y.a y.n y.c] W fun e w' => e = .returned (.bool true) ∧ Below W.heap.size W w') := Lib.hid (by
    intro W hW; rw [← hs1]; exact two_any W x y lx ly (hx.below hW) (hy.below hW))
  have HTz : Hid (∀ W, Below w.heap.size w W → Calls Try.prog 10 #[V z.k z.i z.s z.a z.n z.c, V z.k z.i z.s z.a z.n z.c] W fun e w' => e = .returned (.bool true) ∧ Below W.heap.size W w') := Lib.hid (by
    intro W hW; rw [← hs2]; exact two_any W z z lz lz (hz.below hW) (hz.below hW))
  obtain ⟨fa, hfa⟩ : ∃ fa, x.formed lx = fa := ⟨_, rfl⟩
  obtain ⟨fb, hfb⟩ : ∃ fb, y.formed ly = fb := ⟨_, rfl⟩
  obtain ⟨fc, hfc⟩ : ∃ fc, z.formed lz = fc := ⟨_, rfl⟩
  have HFx : Hid (∀ W, Below w.heap.size w W → Calls Try.prog 11 #[V x.k x.i x.s x.a x.n x.c] W fun e w' => e = .returned (.bool fa) ∧ Below W.heap.size W w') := Lib.hid (by
    intro W hW; rw [← hfa]; exact formed_any W x lx (hx.below hW))
  have HRx : Hid (∀ W, Below w.heap.size w W → Calls Try.prog 12 #[V x.k x.i x.s x.a x.n x.c] W fun e w' => e = .returned (.bool fa) ∧ Below W.heap.size W w') := Lib.hid (by
    intro W hW; rw [← hfa]; exact refFormed_any W x lx (hx.below hW))
  have HRy : Hid (∀ W, Below w.heap.size w W → Calls Try.prog 12 #[V y.k y.i y.s y.a y.n y.c] W fun e w' => e = .returned (.bool fb) ∧ Below W.heap.size W w') := Lib.hid (by
    intro W hW; rw [← hfb]; exact refFormed_any W y ly (hy.below hW))
  have HRz : Hid (∀ W, Below w.heap.size w W → Calls Try.prog 12 #[V z.k z.i z.s z.a z.n z.c] W fun e w' => e = .returned (.bool fc) ∧ Below W.heap.size W w') := Lib.hid (by
    intro W hW; rw [← hfc]; exact refFormed_any W z lz (hz.below hW))
  have HX := Lib.hid hx
  have HY := Lib.hid hy
  have HZ := Lib.hid hz
  have Hfa := Lib.hid hfa
  have Hfb := Lib.hid hfb
  have Hfc := Lib.hid hfc
  clear hx hy hz hs1 hs2 hfa hfb hfc
  unfold Val.v
  go_enter Try.func3, Try.ntmps3
  go_wp2_with fail
  generalize hW : World.alloc _ _ = W0
  have HB0 : Hid (Below w.heap.size w W0) := Lib.hid (by rw [← hW]; exact (((Below.refl _ _).alloc (Nat.le_refl _) _).alloc (by simp) _).alloc (by simp; omega) _)
  have HK0 : Hid (Blks W0 [(w.heap.size + 1 + 1, z), (w.heap.size + 1, y), (w.heap.size, x)]) := Lib.hid (by rw [← hW]; exact blks3 w x y z)
  clear hW
  refine (awake_any W0).mono ?_
  rintro e w1 ⟨rfl, hb⟩
  have HB1 := Lib.hid (HB0.out.trans (hb.mono HB0.out.size))
  have HK1 := Lib.hid (HK0.out.below hb)
  clear hb HB0 HK0
  obtain ⟨y0, y1, y2, y3⟩ := HK1.out.at 1 rfl
  obtain ⟨x0, x1, x2, x3⟩ := HK1.out.at 2 rfl
  go_wp2_with fail
  refine (HTw.out _ HB1.out).mono ?_
  rintro e w2 ⟨rfl, hb⟩
  have HB2 := Lib.hid (HB1.out.trans (hb.mono HB1.out.size))
  have HK2 := Lib.hid (HK1.out.below hb)
  clear hb HB1 HK1 x0 x1 x2 x3 y0 y1 y2 y3 HTw
  obtain ⟨z0, z1, z2, z3⟩ := HK2.out.at 0 rfl
  go_wp2_with fail
  refine (HTz.out _ HB2.out).mono ?_
  rintro e w3 ⟨rfl, hb⟩
  have HB3 := Lib.hid (HB2.out.trans (hb.mono HB2.out.size))
  have HK3 := Lib.hid (HK2.out.below hb)
  clear hb HB2 HK2 z0 z1 z2 z3 HTz
  go_wp2_with fail
  have x0 := fun m : Bl w3 => ((HK3.out.below m.below).at 2 rfl).1
  have x1 := fun m : Bl w3 => ((HK3.out.below m.below).at 2 rfl).2.1
  have x2 := fun m : Bl w3 => ((HK3.out.below m.below).at 2 rfl).2.2.1
  have x3 := fun m : Bl w3 => ((HK3.out.below m.below).at 2 rfl).2.2.2
  refine wp_region_quietB (by kernel_rfl) (by kernel_rfl) ?_
  iterate 5 (go_big_quiet_step ((first | (go_at_call 11; with_reducible exact Calls.quiet_b (HFx.out _ (HB3.out.trans ((Bl.below _).mono HB3.out.size)))) | (go_at_call 12; with_reducible exact Calls.quiet_b (HRx.out _ (HB3.out.trans ((Bl.below _).mono HB3.out.size)))))))
  refine wpQuiet_nil ?_
  intro m
  have HB4 := Lib.hid (HB3.out.trans (m.below.mono HB3.out.size))
  have HK4 := Lib.hid (HK3.out.below m.below)
  clear HB3 HK3 x0 x1 x2 x3 HFx
  generalize m.wr = w4 at *
  clear m
  obtain ⟨x0, x1, x2, x3⟩ := HK4.out.at 2 rfl
  go_wp2_with fail
  refine (HRx.out _ HB4.out).mono ?_
  rintro e w5 ⟨rfl, hb⟩
  have HB5 := Lib.hid (HB4.out.trans (hb.mono HB4.out.size))
  have HK5 := Lib.hid (HK4.out.below hb)
  clear hb HB4 HK4 x0 x1 x2 x3 HRx
  cases fa
  · go_wp2_with fail
    go_ret
    exact ⟨rfl, HB5.out⟩
  obtain ⟨y0, y1, y2, y3⟩ := HK5.out.at 1 rfl
  go_wp2_with fail
  refine (HRy.out _ HB5.out).mono ?_
  rintro e w6 ⟨rfl, hb⟩
  have HB6 := Lib.hid (HB5.out.trans (hb.mono HB5.out.size))
  have HK6 := Lib.hid (HK5.out.below hb)
  clear hb HB5 HK5 y0 y1 y2 y3 HRy
  cases fb
  · go_wp2_with fail
    go_ret
    exact ⟨rfl, HB6.out⟩
  obtain ⟨z0, z1, z2, z3⟩ := HK6.out.at 0 rfl
  go_wp2_with fail
  refine (HRz.out _ HB6.out).mono ?_
  rintro e w7 ⟨rfl, hb⟩
  have HB7 := Lib.hid (HB6.out.trans (hb.mono HB6.out.size))
  have HK7 := Lib.hid (HK6.out.below hb)
  clear hb HB6 HK6 z0 z1 z2 z3 HRz
  cases fc
  · go_wp2_with fail
    go_ret
    exact ⟨rfl, HB7.out⟩
  obtain ⟨A, hA⟩ : ∃ A, x.order lx y ly = A := ⟨_, rfl⟩
  obtain ⟨B, hB⟩ : ∃ B, y.order ly z lz = B := ⟨_, rfl⟩
  obtain ⟨C, hC⟩ : ∃ C, x.order lx z lz = C := ⟨_, rfl⟩
  have hra : A = -1 ∨ A = 0 ∨ A = 1 := by rw [← hA]; exact isCmp_P.range (x, lx) (y, ly)
  have htr : A ≤ 0 → B ≤ 0 → C ≤ 0 := by rw [← hA, ← hB, ← hC]; exact isCmp_P.trans (x, lx) (y, ly) (z, lz)
  have hanti : y.order ly x lx = -A := by rw [← hA]; exact isCmp_P.anti (x, lx) (y, ly)
  have HOab : Hid (∀ W, Below w.heap.size w W → Calls Try.prog 13 #[V x.k x.i x.s x.a x.n x.c, V y.k y.i y.s y.a y.n y.c] W fun e w' => e = .returned (.int .i64 A) ∧ Below W.heap.size W w') := Lib.hid (by
    intro W hW; rw [← hA]; exact order_any W x y lx ly (HX.out.below hW) (HY.out.below hW))
  have HObc : Hid (∀ W, Below w.heap.size w W → Calls Try.prog 13 #[V y.k y.i y.s y.a y.n y.c, V z.k z.i z.s z.a z.n z.c] W fun e w' => e = .returned (.int .i64 B) ∧ Below W.heap.size W w') := Lib.hid (by
    intro W hW; rw [← hB]; exact order_any W y z ly lz (HY.out.below hW) (HZ.out.below hW))
  have HOac : Hid (∀ W, Below w.heap.size w W → Calls Try.prog 13 #[V x.k x.i x.s x.a x.n x.c, V z.k z.i z.s z.a z.n z.c] W fun e w' => e = .returned (.int .i64 C) ∧ Below W.heap.size W w') := Lib.hid (by
    intro W hW; rw [← hC]; exact order_any W x z lx lz (HX.out.below hW) (HZ.out.below hW))
  have HOba : Hid (∀ W, Below w.heap.size w W → Calls Try.prog 13 #[V y.k y.i y.s y.a y.n y.c, V x.k x.i x.s x.a x.n x.c] W fun e w' => e = .returned (.int .i64 (-A)) ∧ Below W.heap.size W w') := Lib.hid (by
    intro W hW; rw [← hanti]; exact order_any W y x ly lx (HY.out.below hW) (HX.out.below hW))
  have HRo : Hid (∀ W, Below w.heap.size w W → Calls Try.prog 14 #[V x.k x.i x.s x.a x.n x.c, V y.k y.i y.s y.a y.n y.c] W fun e w' => e = .returned (.int .i64 A) ∧ Below W.heap.size W w') := Lib.hid (by
    intro W hW; rw [← hA, order_is Hfa.out Hfb.out]; exact refOrder_any W x y lx ly (HX.out.below hW) (HY.out.below hW))
  have HSm : Hid (∀ W, Below w.heap.size w W → Calls Try.prog 15 #[V x.k x.i x.s x.a x.n x.c, V y.k y.i y.s y.a y.n y.c] W fun e w' => e = .returned (.bool (A == 0)) ∧ Below W.heap.size W w') := Lib.hid (by
    intro W hW; rw [← hA, zero_same Hfa.out Hfb.out HX.out.len HY.out.len]; exact same_any W x y lx ly (HX.out.below hW) (HY.out.below hW))
  clear hA hB hC hanti
  go_wp2_with fail
  have x0 := fun m : Bl w7 => ((HK7.out.below m.below).at 2 rfl).1
  have x1 := fun m : Bl w7 => ((HK7.out.below m.below).at 2 rfl).2.1
  have x2 := fun m : Bl w7 => ((HK7.out.below m.below).at 2 rfl).2.2.1
  have x3 := fun m : Bl w7 => ((HK7.out.below m.below).at 2 rfl).2.2.2
  have y0 := fun m : Bl w7 => ((HK7.out.below m.below).at 1 rfl).1
  have y1 := fun m : Bl w7 => ((HK7.out.below m.below).at 1 rfl).2.1
  have y2 := fun m : Bl w7 => ((HK7.out.below m.below).at 1 rfl).2.2.1
  have y3 := fun m : Bl w7 => ((HK7.out.below m.below).at 1 rfl).2.2.2
  have z0 := fun m : Bl w7 => ((HK7.out.below m.below).at 0 rfl).1
  have z1 := fun m : Bl w7 => ((HK7.out.below m.below).at 0 rfl).2.1
  have z2 := fun m : Bl w7 => ((HK7.out.below m.below).at 0 rfl).2.2.1
  have z3 := fun m : Bl w7 => ((HK7.out.below m.below).at 0 rfl).2.2.2
  refine wp_region_quietB (by kernel_rfl) (by kernel_rfl) ?_
  iterate 12 (go_big_quiet_step ((go_at_call 13; first | with_reducible exact Calls.quiet_b (HOab.out _ (HB7.out.trans ((Bl.below _).mono HB7.out.size))) | with_reducible exact Calls.quiet_b (HObc.out _ (HB7.out.trans ((Bl.below _).mono HB7.out.size))) | with_reducible exact Calls.quiet_b (HOac.out _ (HB7.out.trans ((Bl.below _).mono HB7.out.size))))))
  refine wpQuiet_nil ?_
  intro m
  have HB8 := Lib.hid (HB7.out.trans (m.below.mono HB7.out.size))
  have HK8 := Lib.hid (HK7.out.below m.below)
  clear HB7 HK7 x0 x1 x2 x3 y0 y1 y2 y3 z0 z1 z2 z3 HOab HObc HOac
  generalize m.wr = w8 at *
  clear m
  have hA1 : -1 ≤ A := by omega
  have hA2 : A ≤ 1 := by omega
  clear hra
  obtain ⟨y0, y1, y2, y3⟩ := HK8.out.at 1 rfl
  obtain ⟨x0, x1, x2, x3⟩ := HK8.out.at 2 rfl
  go_wp2_with fail
  refine (HRo.out _ HB8.out).mono ?_
  rintro e w9 ⟨rfl, hb⟩
  have HB9 := Lib.hid (HB8.out.trans (hb.mono HB8.out.size))
  have HK9 := Lib.hid (HK8.out.below hb)
  clear hb HB8 HK8 x0 x1 x2 x3 y0 y1 y2 y3 HRo
  obtain ⟨y0, y1, y2, y3⟩ := HK9.out.at 1 rfl
  obtain ⟨x0, x1, x2, x3⟩ := HK9.out.at 2 rfl
  go_wp2_with fail
  refine (HOba.out _ HB9.out).mono ?_
  rintro e w10 ⟨rfl, hb⟩
  have HB10 := Lib.hid (HB9.out.trans (hb.mono HB9.out.size))
  have HK10 := Lib.hid (HK9.out.below hb)
  clear hb HB9 HK9 x0 x1 x2 x3 y0 y1 y2 y3 HOba
  obtain ⟨y0, y1, y2, y3⟩ := HK10.out.at 1 rfl
  obtain ⟨x0, x1, x2, x3⟩ := HK10.out.at 2 rfl
  go_wp2_with fail
  refine (HSm.out _ HB10.out).mono ?_
  rintro e w11 ⟨rfl, hb⟩
  have HB11 := Lib.hid (HB10.out.trans (hb.mono HB10.out.size))
  clear hb HB10 HK10 x0 x1 x2 x3 y0 y1 y2 y3 HSm
  by_cases h1 : A ≤ 0
  · by_cases h2 : B ≤ 0
    · have h3 := htr h1 h2
      clear htr
      go_wp2_with fail
      go_ret
      exact ⟨rfl, HB11.out⟩
    · clear htr
      go_wp2_with fail
      go_ret
      exact ⟨rfl, HB11.out⟩
  · clear htr
    go_wp2_with fail
    go_ret
    exact ⟨rfl, HB11.out⟩
end Go.Proofs.Ytcgbodbjjfngpaa
