/- P2.3: how values compare: the walk of the law, op by op. -/
import Derived.Test.YtcgbodbjjfngpaaVCompare
import Derived.Test.YtcgbodbjjfngpaaVAwake
namespace Go.Proofs.Ytcgbodbjjfngpaa
open Go.RowKit

theorem Full.formedIs {w : World} {x : Val} {l : List Val} (h : Full w x l) : FormedIs w x.v (x.formed l) := ⟨fun W hW => formed_any W x l (h.below hW)⟩
set_option maxRecDepth 100000 in
set_option maxHeartbeats 1000000 in
theorem compares_big (w : World) (op : ByteArray) (x y : Val) (lx ly : List Val) (hx : Full w x lx) (hy : Full w y ly) (hsm : (small x lx && small y ly) = false) :
    Calls Try.prog 7 #[.string op, x.v, y.v] w fun e w' => e = .returned (.bool true) ∧ Below w.heap.size w w' := by
  have HTw : Hid (∀ W, Below w.heap.size w W → Calls Try.prog 10 #[V x.k x.i x.s x.a x.n x.c, V y.k y.i y.s y.a y.n y.c] W fun e w' => e = .returned (.bool false) ∧ Below W.heap.size W w') := Lib.hid (by
    intro W hW; rw [← hsm]; exact two_any W x y lx ly (hx.below hW) (hy.below hW))
  clear hx hy hsm
  unfold Val.v
  go_enter Try.func7, Try.ntmps7
  go_wp2_with fail
  generalize hW : World.alloc _ _ = W0
  have HB0 : Hid (Below w.heap.size w W0) := Lib.hid (by rw [← hW]; exact ((Below.refl _ _).alloc (Nat.le_refl _) _).alloc (by simp) _)
  have HK0 : Hid (Blks W0 [(w.heap.size + 1, y), (w.heap.size, x)]) := Lib.hid (by rw [← hW]; exact blks2 w x y)
  clear hW
  refine (awake_any W0).mono ?_
  rintro e w1 ⟨rfl, hb⟩
  have HB1 := Lib.hid (HB0.out.trans (hb.mono HB0.out.size))
  have HK1 := Lib.hid (HK0.out.below hb)
  clear hb HB0 HK0
  obtain ⟨y0, y1, y2, y3⟩ := HK1.out.at 0 rfl
  obtain ⟨x0, x1, x2, x3⟩ := HK1.out.at 1 rfl
  go_wp2_with fail
  refine (HTw.out _ HB1.out).mono ?_
  rintro e w2 ⟨rfl, hb⟩
  have HB2 := Lib.hid (HB1.out.trans (hb.mono HB1.out.size))
  have HK2 := Lib.hid (HK1.out.below hb)
  clear hb HB1 HK1 x0 x1 x2 x3 y0 y1 y2 y3 HTw
  go_wp2_with fail
  refine (awake_any w2).mono ?_
  rintro e w3 ⟨rfl, hb⟩
  have HB3 := Lib.hid (HB2.out.trans (hb.mono HB2.out.size))
  clear hb HB2
  go_wp2_with fail
  go_ret
  exact ⟨rfl, HB3.out⟩
set_option maxRecDepth 100000 in
set_option maxHeartbeats 2000000 in
theorem compares_1 (w : World) (x y : Val) (lx ly : List Val) (hx : Full w x lx) (hy : Full w y ly) (hsm : (small x lx && small y ly) = true) :
    Calls Try.prog 7 #[.string ⟨#[61, 61]⟩, x.v, y.v] w fun e w' => e = .returned (.bool true) ∧ Below w.heap.size w w' := by
  have HTw : Hid (∀ W, Below w.heap.size w W → Calls Try.prog 10 #[V x.k x.i x.s x.a x.n x.c, V y.k y.i y.s y.a y.n y.c] W fun e w' => e = .returned (.bool true) ∧ Below W.heap.size W w') := Lib.hid (by
    intro W hW; rw [← hsm]; exact two_any W x y lx ly (hx.below hW) (hy.below hW))
  obtain ⟨fa, hfa⟩ : ∃ fa, x.formed lx = fa := ⟨_, rfl⟩
  obtain ⟨fb, hfb⟩ : ∃ fb, y.formed ly = fb := ⟨_, rfl⟩
  obtain ⟨o, ho⟩ : ∃ o, x.order lx y ly = o := ⟨_, rfl⟩
  have hro : o = -1 ∨ o = 0 ∨ o = 1 := by rw [← ho]; exact isCmp_P.range (x, lx) (y, ly)
  obtain ⟨r1, r2, hr⟩ : ∃ r1 r2, cmpR fa fb x.k y.k true (o == 0) = (r1, r2) := ⟨_, _, rfl⟩
  have HCm : Hid (∀ W, Below w.heap.size w W → Calls Try.prog 26 #[.string ⟨#[61, 61]⟩, V x.k x.i x.s x.a x.n x.c, V y.k y.i y.s y.a y.n y.c] W fun e w' => e = .returned (.tuple #[.bool r1, .int .i64 r2]) ∧ Below W.heap.size W w') := Lib.hid (by
    intro W hW
    have h := compare_1 x y fa fb o W (hfa ▸ (hx.below hW).formedIs) (hfb ▸ (hy.below hW).formedIs) (fun W' hW' => by rw [← ho]; exact order_any W' x y lx ly ((hx.below hW).below hW') ((hy.below hW).below hW'))
    rw [hr] at h; exact h)
  have HRx : Hid (∀ W, Below w.heap.size w W → Calls Try.prog 12 #[V x.k x.i x.s x.a x.n x.c] W fun e w' => e = .returned (.bool fa) ∧ Below W.heap.size W w') := Lib.hid (by
    intro W hW; rw [← hfa]; exact refFormed_any W x lx (hx.below hW))
  have HRy : Hid (∀ W, Below w.heap.size w W → Calls Try.prog 12 #[V y.k y.i y.s y.a y.n y.c] W fun e w' => e = .returned (.bool fb) ∧ Below W.heap.size W w') := Lib.hid (by
    intro W hW; rw [← hfb]; exact refFormed_any W y ly (hy.below hW))
  have HRc : fa = true → fb = true → Hid (∀ W, Below w.heap.size w W → Calls Try.prog 27 #[.string ⟨#[61, 61]⟩, V x.k x.i x.s x.a x.n x.c, V y.k y.i y.s y.a y.n y.c] W fun e w' => e = .returned (.tuple #[.bool r1, .int .i64 r2]) ∧ Below W.heap.size W w') := fun ha hb => Lib.hid (by
    intro W hW
    have h := refCompare_1 x y o W (fun W' hW' => by rw [← ho, order_is (hfa.trans ha) (hfb.trans hb)]; exact refOrder_any W' x y lx ly ((hx.below hW).below hW') ((hy.below hW).below hW'))
    have ht : (let c := o; (c == 0)) = (o == 0) := by rcases hro with rfl | rfl | rfl <;> rfl
    have ht' : (o == 0) = (o == 0) := ht
    rw [ht'] at h
    rw [ha, hb] at hr
    rw [hr] at h; exact h)
  have Hr := Lib.hid hr
  clear hr ho hro hfa hfb hsm hx hy
  unfold Val.v
  go_enter Try.func7, Try.ntmps7
  go_wp2_with fail
  generalize hW : World.alloc _ _ = W0
  have HB0 : Hid (Below w.heap.size w W0) := Lib.hid (by rw [← hW]; exact ((Below.refl _ _).alloc (Nat.le_refl _) _).alloc (by simp) _)
  have HK0 : Hid (Blks W0 [(w.heap.size + 1, y), (w.heap.size, x)]) := Lib.hid (by rw [← hW]; exact blks2 w x y)
  clear hW
  refine (awake_any W0).mono ?_
  rintro e w1 ⟨rfl, hb⟩
  have HB1 := Lib.hid (HB0.out.trans (hb.mono HB0.out.size))
  have HK1 := Lib.hid (HK0.out.below hb)
  clear hb HB0 HK0
  obtain ⟨y0, y1, y2, y3⟩ := HK1.out.at 0 rfl
  obtain ⟨x0, x1, x2, x3⟩ := HK1.out.at 1 rfl
  go_wp2_with fail
  refine (HTw.out _ HB1.out).mono ?_
  rintro e w2 ⟨rfl, hb⟩
  have HB2 := Lib.hid (HB1.out.trans (hb.mono HB1.out.size))
  have HK2 := Lib.hid (HK1.out.below hb)
  clear hb HB1 HK1 x0 x1 x2 x3 y0 y1 y2 y3 HTw
  obtain ⟨y0, y1, y2, y3⟩ := HK2.out.at 0 rfl
  obtain ⟨x0, x1, x2, x3⟩ := HK2.out.at 1 rfl
  cases fa
  · have hr := Hr.out
    simp only [cmpR, Bool.not_false, Bool.true_or, if_true, Prod.mk.injEq] at hr
    obtain ⟨rfl, rfl⟩ := hr
    clear HRc HRy
    go_wp2_with fail
    refine (HCm.out _ HB2.out).mono ?_
    rintro e w3 ⟨rfl, hb⟩
    have HB3 := Lib.hid (HB2.out.trans (hb.mono HB2.out.size))
    have HK3 := Lib.hid (HK2.out.below hb)
    clear hb HB2 HK2 HCm x0 x1 x2 x3 y0 y1 y2 y3
    obtain ⟨x0, x1, x2, x3⟩ := HK3.out.at 1 rfl
    go_wp2_with fail
    refine (HRx.out _ HB3.out).mono ?_
    rintro e w4 ⟨rfl, hb⟩
    have HB4 := Lib.hid (HB3.out.trans (hb.mono HB3.out.size))
    clear hb HB3 HK3 HRx x0 x1 x2 x3
    go_wp2_with fail
    go_ret
    exact ⟨rfl, HB4.out⟩
  cases fb
  · have hr := Hr.out
    simp only [cmpR, Bool.not_false, Bool.or_true, if_true, Prod.mk.injEq] at hr
    obtain ⟨rfl, rfl⟩ := hr
    clear HRc
    go_wp2_with fail
    refine (HCm.out _ HB2.out).mono ?_
    rintro e w3 ⟨rfl, hb⟩
    have HB3 := Lib.hid (HB2.out.trans (hb.mono HB2.out.size))
    have HK3 := Lib.hid (HK2.out.below hb)
    clear hb HB2 HK2 HCm x0 x1 x2 x3 y0 y1 y2 y3
    obtain ⟨x0, x1, x2, x3⟩ := HK3.out.at 1 rfl
    go_wp2_with fail
    refine (HRx.out _ HB3.out).mono ?_
    rintro e w4 ⟨rfl, hb⟩
    have HB4 := Lib.hid (HB3.out.trans (hb.mono HB3.out.size))
    have HK4 := Lib.hid (HK3.out.below hb)
    clear hb HB3 HK3 HRx x0 x1 x2 x3
    obtain ⟨y0, y1, y2, y3⟩ := HK4.out.at 0 rfl
    go_wp2_with fail
    refine (HRy.out _ HB4.out).mono ?_
    rintro e w5 ⟨rfl, hb⟩
    have HB5 := Lib.hid (HB4.out.trans (hb.mono HB4.out.size))
    clear hb HB4 HK4 HRy y0 y1 y2 y3
    go_wp2_with fail
    go_ret
    exact ⟨rfl, HB5.out⟩
  have HRc' := HRc rfl rfl
  clear HRc Hr
  go_wp2_with fail
  refine (HCm.out _ HB2.out).mono ?_
  rintro e w3 ⟨rfl, hb⟩
  have HB3 := Lib.hid (HB2.out.trans (hb.mono HB2.out.size))
  have HK3 := Lib.hid (HK2.out.below hb)
  clear hb HB2 HK2 HCm x0 x1 x2 x3 y0 y1 y2 y3
  obtain ⟨x0, x1, x2, x3⟩ := HK3.out.at 1 rfl
  go_wp2_with fail
  refine (HRx.out _ HB3.out).mono ?_
  rintro e w4 ⟨rfl, hb⟩
  have HB4 := Lib.hid (HB3.out.trans (hb.mono HB3.out.size))
  have HK4 := Lib.hid (HK3.out.below hb)
  clear hb HB3 HK3 HRx x0 x1 x2 x3
  obtain ⟨y0, y1, y2, y3⟩ := HK4.out.at 0 rfl
  go_wp2_with fail
  refine (HRy.out _ HB4.out).mono ?_
  rintro e w5 ⟨rfl, hb⟩
  have HB5 := Lib.hid (HB4.out.trans (hb.mono HB4.out.size))
  have HK5 := Lib.hid (HK4.out.below hb)
  clear hb HB4 HK4 HRy y0 y1 y2 y3
  obtain ⟨y0, y1, y2, y3⟩ := HK5.out.at 0 rfl
  obtain ⟨x0, x1, x2, x3⟩ := HK5.out.at 1 rfl
  go_wp2_with fail
  refine (HRc'.out _ HB5.out).mono ?_
  rintro e w6 ⟨rfl, hb⟩
  have HB6 := Lib.hid (HB5.out.trans (hb.mono HB5.out.size))
  clear hb HB5 HK5 HRc' x0 x1 x2 x3 y0 y1 y2 y3
  go_wp2_with fail
  go_ret
  exact ⟨rfl, HB6.out⟩
set_option maxRecDepth 100000 in
set_option maxHeartbeats 2000000 in
theorem compares_2 (w : World) (x y : Val) (lx ly : List Val) (hx : Full w x lx) (hy : Full w y ly) (hsm : (small x lx && small y ly) = true) :
    Calls Try.prog 7 #[.string ⟨#[33, 61]⟩, x.v, y.v] w fun e w' => e = .returned (.bool true) ∧ Below w.heap.size w w' := by
  have HTw : Hid (∀ W, Below w.heap.size w W → Calls Try.prog 10 #[V x.k x.i x.s x.a x.n x.c, V y.k y.i y.s y.a y.n y.c] W fun e w' => e = .returned (.bool true) ∧ Below W.heap.size W w') := Lib.hid (by
    intro W hW; rw [← hsm]; exact two_any W x y lx ly (hx.below hW) (hy.below hW))
  obtain ⟨fa, hfa⟩ : ∃ fa, x.formed lx = fa := ⟨_, rfl⟩
  obtain ⟨fb, hfb⟩ : ∃ fb, y.formed ly = fb := ⟨_, rfl⟩
  obtain ⟨o, ho⟩ : ∃ o, x.order lx y ly = o := ⟨_, rfl⟩
  have hro : o = -1 ∨ o = 0 ∨ o = 1 := by rw [← ho]; exact isCmp_P.range (x, lx) (y, ly)
  obtain ⟨r1, r2, hr⟩ : ∃ r1 r2, cmpR fa fb x.k y.k true (o != 0) = (r1, r2) := ⟨_, _, rfl⟩
  have HCm : Hid (∀ W, Below w.heap.size w W → Calls Try.prog 26 #[.string ⟨#[33, 61]⟩, V x.k x.i x.s x.a x.n x.c, V y.k y.i y.s y.a y.n y.c] W fun e w' => e = .returned (.tuple #[.bool r1, .int .i64 r2]) ∧ Below W.heap.size W w') := Lib.hid (by
    intro W hW
    have h := compare_2 x y fa fb o W (hfa ▸ (hx.below hW).formedIs) (hfb ▸ (hy.below hW).formedIs) (fun W' hW' => by rw [← ho]; exact order_any W' x y lx ly ((hx.below hW).below hW') ((hy.below hW).below hW'))
    rw [hr] at h; exact h)
  have HRx : Hid (∀ W, Below w.heap.size w W → Calls Try.prog 12 #[V x.k x.i x.s x.a x.n x.c] W fun e w' => e = .returned (.bool fa) ∧ Below W.heap.size W w') := Lib.hid (by
    intro W hW; rw [← hfa]; exact refFormed_any W x lx (hx.below hW))
  have HRy : Hid (∀ W, Below w.heap.size w W → Calls Try.prog 12 #[V y.k y.i y.s y.a y.n y.c] W fun e w' => e = .returned (.bool fb) ∧ Below W.heap.size W w') := Lib.hid (by
    intro W hW; rw [← hfb]; exact refFormed_any W y ly (hy.below hW))
  have HRc : fa = true → fb = true → Hid (∀ W, Below w.heap.size w W → Calls Try.prog 27 #[.string ⟨#[33, 61]⟩, V x.k x.i x.s x.a x.n x.c, V y.k y.i y.s y.a y.n y.c] W fun e w' => e = .returned (.tuple #[.bool r1, .int .i64 r2]) ∧ Below W.heap.size W w') := fun ha hb => Lib.hid (by
    intro W hW
    have h := refCompare_2 x y o W (fun W' hW' => by rw [← ho, order_is (hfa.trans ha) (hfb.trans hb)]; exact refOrder_any W' x y lx ly ((hx.below hW).below hW') ((hy.below hW).below hW'))
    have ht : (let c := o; (c != 0)) = (o != 0) := by rcases hro with rfl | rfl | rfl <;> rfl
    have ht' : (o != 0) = (o != 0) := ht
    rw [ht'] at h
    rw [ha, hb] at hr
    rw [hr] at h; exact h)
  have Hr := Lib.hid hr
  clear hr ho hro hfa hfb hsm hx hy
  unfold Val.v
  go_enter Try.func7, Try.ntmps7
  go_wp2_with fail
  generalize hW : World.alloc _ _ = W0
  have HB0 : Hid (Below w.heap.size w W0) := Lib.hid (by rw [← hW]; exact ((Below.refl _ _).alloc (Nat.le_refl _) _).alloc (by simp) _)
  have HK0 : Hid (Blks W0 [(w.heap.size + 1, y), (w.heap.size, x)]) := Lib.hid (by rw [← hW]; exact blks2 w x y)
  clear hW
  refine (awake_any W0).mono ?_
  rintro e w1 ⟨rfl, hb⟩
  have HB1 := Lib.hid (HB0.out.trans (hb.mono HB0.out.size))
  have HK1 := Lib.hid (HK0.out.below hb)
  clear hb HB0 HK0
  obtain ⟨y0, y1, y2, y3⟩ := HK1.out.at 0 rfl
  obtain ⟨x0, x1, x2, x3⟩ := HK1.out.at 1 rfl
  go_wp2_with fail
  refine (HTw.out _ HB1.out).mono ?_
  rintro e w2 ⟨rfl, hb⟩
  have HB2 := Lib.hid (HB1.out.trans (hb.mono HB1.out.size))
  have HK2 := Lib.hid (HK1.out.below hb)
  clear hb HB1 HK1 x0 x1 x2 x3 y0 y1 y2 y3 HTw
  obtain ⟨y0, y1, y2, y3⟩ := HK2.out.at 0 rfl
  obtain ⟨x0, x1, x2, x3⟩ := HK2.out.at 1 rfl
  cases fa
  · have hr := Hr.out
    simp only [cmpR, Bool.not_false, Bool.true_or, if_true, Prod.mk.injEq] at hr
    obtain ⟨rfl, rfl⟩ := hr
    clear HRc HRy
    go_wp2_with fail
    refine (HCm.out _ HB2.out).mono ?_
    rintro e w3 ⟨rfl, hb⟩
    have HB3 := Lib.hid (HB2.out.trans (hb.mono HB2.out.size))
    have HK3 := Lib.hid (HK2.out.below hb)
    clear hb HB2 HK2 HCm x0 x1 x2 x3 y0 y1 y2 y3
    obtain ⟨x0, x1, x2, x3⟩ := HK3.out.at 1 rfl
    go_wp2_with fail
    refine (HRx.out _ HB3.out).mono ?_
    rintro e w4 ⟨rfl, hb⟩
    have HB4 := Lib.hid (HB3.out.trans (hb.mono HB3.out.size))
    clear hb HB3 HK3 HRx x0 x1 x2 x3
    go_wp2_with fail
    go_ret
    exact ⟨rfl, HB4.out⟩
  cases fb
  · have hr := Hr.out
    simp only [cmpR, Bool.not_false, Bool.or_true, if_true, Prod.mk.injEq] at hr
    obtain ⟨rfl, rfl⟩ := hr
    clear HRc
    go_wp2_with fail
    refine (HCm.out _ HB2.out).mono ?_
    rintro e w3 ⟨rfl, hb⟩
    have HB3 := Lib.hid (HB2.out.trans (hb.mono HB2.out.size))
    have HK3 := Lib.hid (HK2.out.below hb)
    clear hb HB2 HK2 HCm x0 x1 x2 x3 y0 y1 y2 y3
    obtain ⟨x0, x1, x2, x3⟩ := HK3.out.at 1 rfl
    go_wp2_with fail
    refine (HRx.out _ HB3.out).mono ?_
    rintro e w4 ⟨rfl, hb⟩
    have HB4 := Lib.hid (HB3.out.trans (hb.mono HB3.out.size))
    have HK4 := Lib.hid (HK3.out.below hb)
    clear hb HB3 HK3 HRx x0 x1 x2 x3
    obtain ⟨y0, y1, y2, y3⟩ := HK4.out.at 0 rfl
    go_wp2_with fail
    refine (HRy.out _ HB4.out).mono ?_
    rintro e w5 ⟨rfl, hb⟩
    have HB5 := Lib.hid (HB4.out.trans (hb.mono HB4.out.size))
    clear hb HB4 HK4 HRy y0 y1 y2 y3
    go_wp2_with fail
    go_ret
    exact ⟨rfl, HB5.out⟩
  have HRc' := HRc rfl rfl
  clear HRc Hr
  go_wp2_with fail
  refine (HCm.out _ HB2.out).mono ?_
  rintro e w3 ⟨rfl, hb⟩
  have HB3 := Lib.hid (HB2.out.trans (hb.mono HB2.out.size))
  have HK3 := Lib.hid (HK2.out.below hb)
  clear hb HB2 HK2 HCm x0 x1 x2 x3 y0 y1 y2 y3
  obtain ⟨x0, x1, x2, x3⟩ := HK3.out.at 1 rfl
  go_wp2_with fail
  refine (HRx.out _ HB3.out).mono ?_
  rintro e w4 ⟨rfl, hb⟩
  have HB4 := Lib.hid (HB3.out.trans (hb.mono HB3.out.size))
  have HK4 := Lib.hid (HK3.out.below hb)
  clear hb HB3 HK3 HRx x0 x1 x2 x3
  obtain ⟨y0, y1, y2, y3⟩ := HK4.out.at 0 rfl
  go_wp2_with fail
  refine (HRy.out _ HB4.out).mono ?_
  rintro e w5 ⟨rfl, hb⟩
  have HB5 := Lib.hid (HB4.out.trans (hb.mono HB4.out.size))
  have HK5 := Lib.hid (HK4.out.below hb)
  clear hb HB4 HK4 HRy y0 y1 y2 y3
  obtain ⟨y0, y1, y2, y3⟩ := HK5.out.at 0 rfl
  obtain ⟨x0, x1, x2, x3⟩ := HK5.out.at 1 rfl
  go_wp2_with fail
  refine (HRc'.out _ HB5.out).mono ?_
  rintro e w6 ⟨rfl, hb⟩
  have HB6 := Lib.hid (HB5.out.trans (hb.mono HB5.out.size))
  clear hb HB5 HK5 HRc' x0 x1 x2 x3 y0 y1 y2 y3
  go_wp2_with fail
  go_ret
  exact ⟨rfl, HB6.out⟩
set_option maxRecDepth 100000 in
set_option maxHeartbeats 2000000 in
theorem compares_3 (w : World) (x y : Val) (lx ly : List Val) (hx : Full w x lx) (hy : Full w y ly) (hsm : (small x lx && small y ly) = true) :
    Calls Try.prog 7 #[.string ⟨#[60]⟩, x.v, y.v] w fun e w' => e = .returned (.bool true) ∧ Below w.heap.size w w' := by
  have HTw : Hid (∀ W, Below w.heap.size w W → Calls Try.prog 10 #[V x.k x.i x.s x.a x.n x.c, V y.k y.i y.s y.a y.n y.c] W fun e w' => e = .returned (.bool true) ∧ Below W.heap.size W w') := Lib.hid (by
    intro W hW; rw [← hsm]; exact two_any W x y lx ly (hx.below hW) (hy.below hW))
  obtain ⟨fa, hfa⟩ : ∃ fa, x.formed lx = fa := ⟨_, rfl⟩
  obtain ⟨fb, hfb⟩ : ∃ fb, y.formed ly = fb := ⟨_, rfl⟩
  obtain ⟨o, ho⟩ : ∃ o, x.order lx y ly = o := ⟨_, rfl⟩
  have hro : o = -1 ∨ o = 0 ∨ o = 1 := by rw [← ho]; exact isCmp_P.range (x, lx) (y, ly)
  obtain ⟨r1, r2, hr⟩ : ∃ r1 r2, cmpR fa fb x.k y.k false (decide (o < 0)) = (r1, r2) := ⟨_, _, rfl⟩
  have HCm : Hid (∀ W, Below w.heap.size w W → Calls Try.prog 26 #[.string ⟨#[60]⟩, V x.k x.i x.s x.a x.n x.c, V y.k y.i y.s y.a y.n y.c] W fun e w' => e = .returned (.tuple #[.bool r1, .int .i64 r2]) ∧ Below W.heap.size W w') := Lib.hid (by
    intro W hW
    have h := compare_3 x y fa fb o W (hfa ▸ (hx.below hW).formedIs) (hfb ▸ (hy.below hW).formedIs) (fun W' hW' => by rw [← ho]; exact order_any W' x y lx ly ((hx.below hW).below hW') ((hy.below hW).below hW'))
    rw [hr] at h; exact h)
  have HRx : Hid (∀ W, Below w.heap.size w W → Calls Try.prog 12 #[V x.k x.i x.s x.a x.n x.c] W fun e w' => e = .returned (.bool fa) ∧ Below W.heap.size W w') := Lib.hid (by
    intro W hW; rw [← hfa]; exact refFormed_any W x lx (hx.below hW))
  have HRy : Hid (∀ W, Below w.heap.size w W → Calls Try.prog 12 #[V y.k y.i y.s y.a y.n y.c] W fun e w' => e = .returned (.bool fb) ∧ Below W.heap.size W w') := Lib.hid (by
    intro W hW; rw [← hfb]; exact refFormed_any W y ly (hy.below hW))
  have HRc : fa = true → fb = true → Hid (∀ W, Below w.heap.size w W → Calls Try.prog 27 #[.string ⟨#[60]⟩, V x.k x.i x.s x.a x.n x.c, V y.k y.i y.s y.a y.n y.c] W fun e w' => e = .returned (.tuple #[.bool r1, .int .i64 r2]) ∧ Below W.heap.size W w') := fun ha hb => Lib.hid (by
    intro W hW
    have h := refCompare_3 x y o W (fun W' hW' => by rw [← ho, order_is (hfa.trans ha) (hfb.trans hb)]; exact refOrder_any W' x y lx ly ((hx.below hW).below hW') ((hy.below hW).below hW'))
    have ht : (let c := o; (c == -1)) = (decide (o < 0)) := by rcases hro with rfl | rfl | rfl <;> rfl
    have ht' : (o == -1) = (decide (o < 0)) := ht
    rw [ht'] at h
    rw [ha, hb] at hr
    rw [hr] at h; exact h)
  have Hr := Lib.hid hr
  clear hr ho hro hfa hfb hsm hx hy
  unfold Val.v
  go_enter Try.func7, Try.ntmps7
  go_wp2_with fail
  generalize hW : World.alloc _ _ = W0
  have HB0 : Hid (Below w.heap.size w W0) := Lib.hid (by rw [← hW]; exact ((Below.refl _ _).alloc (Nat.le_refl _) _).alloc (by simp) _)
  have HK0 : Hid (Blks W0 [(w.heap.size + 1, y), (w.heap.size, x)]) := Lib.hid (by rw [← hW]; exact blks2 w x y)
  clear hW
  refine (awake_any W0).mono ?_
  rintro e w1 ⟨rfl, hb⟩
  have HB1 := Lib.hid (HB0.out.trans (hb.mono HB0.out.size))
  have HK1 := Lib.hid (HK0.out.below hb)
  clear hb HB0 HK0
  obtain ⟨y0, y1, y2, y3⟩ := HK1.out.at 0 rfl
  obtain ⟨x0, x1, x2, x3⟩ := HK1.out.at 1 rfl
  go_wp2_with fail
  refine (HTw.out _ HB1.out).mono ?_
  rintro e w2 ⟨rfl, hb⟩
  have HB2 := Lib.hid (HB1.out.trans (hb.mono HB1.out.size))
  have HK2 := Lib.hid (HK1.out.below hb)
  clear hb HB1 HK1 x0 x1 x2 x3 y0 y1 y2 y3 HTw
  obtain ⟨y0, y1, y2, y3⟩ := HK2.out.at 0 rfl
  obtain ⟨x0, x1, x2, x3⟩ := HK2.out.at 1 rfl
  cases fa
  · have hr := Hr.out
    simp only [cmpR, Bool.not_false, Bool.true_or, if_true, Prod.mk.injEq] at hr
    obtain ⟨rfl, rfl⟩ := hr
    clear HRc HRy
    go_wp2_with fail
    refine (HCm.out _ HB2.out).mono ?_
    rintro e w3 ⟨rfl, hb⟩
    have HB3 := Lib.hid (HB2.out.trans (hb.mono HB2.out.size))
    have HK3 := Lib.hid (HK2.out.below hb)
    clear hb HB2 HK2 HCm x0 x1 x2 x3 y0 y1 y2 y3
    obtain ⟨x0, x1, x2, x3⟩ := HK3.out.at 1 rfl
    go_wp2_with fail
    refine (HRx.out _ HB3.out).mono ?_
    rintro e w4 ⟨rfl, hb⟩
    have HB4 := Lib.hid (HB3.out.trans (hb.mono HB3.out.size))
    clear hb HB3 HK3 HRx x0 x1 x2 x3
    go_wp2_with fail
    go_ret
    exact ⟨rfl, HB4.out⟩
  cases fb
  · have hr := Hr.out
    simp only [cmpR, Bool.not_false, Bool.or_true, if_true, Prod.mk.injEq] at hr
    obtain ⟨rfl, rfl⟩ := hr
    clear HRc
    go_wp2_with fail
    refine (HCm.out _ HB2.out).mono ?_
    rintro e w3 ⟨rfl, hb⟩
    have HB3 := Lib.hid (HB2.out.trans (hb.mono HB2.out.size))
    have HK3 := Lib.hid (HK2.out.below hb)
    clear hb HB2 HK2 HCm x0 x1 x2 x3 y0 y1 y2 y3
    obtain ⟨x0, x1, x2, x3⟩ := HK3.out.at 1 rfl
    go_wp2_with fail
    refine (HRx.out _ HB3.out).mono ?_
    rintro e w4 ⟨rfl, hb⟩
    have HB4 := Lib.hid (HB3.out.trans (hb.mono HB3.out.size))
    have HK4 := Lib.hid (HK3.out.below hb)
    clear hb HB3 HK3 HRx x0 x1 x2 x3
    obtain ⟨y0, y1, y2, y3⟩ := HK4.out.at 0 rfl
    go_wp2_with fail
    refine (HRy.out _ HB4.out).mono ?_
    rintro e w5 ⟨rfl, hb⟩
    have HB5 := Lib.hid (HB4.out.trans (hb.mono HB4.out.size))
    clear hb HB4 HK4 HRy y0 y1 y2 y3
    go_wp2_with fail
    go_ret
    exact ⟨rfl, HB5.out⟩
  have HRc' := HRc rfl rfl
  clear HRc Hr
  go_wp2_with fail
  refine (HCm.out _ HB2.out).mono ?_
  rintro e w3 ⟨rfl, hb⟩
  have HB3 := Lib.hid (HB2.out.trans (hb.mono HB2.out.size))
  have HK3 := Lib.hid (HK2.out.below hb)
  clear hb HB2 HK2 HCm x0 x1 x2 x3 y0 y1 y2 y3
  obtain ⟨x0, x1, x2, x3⟩ := HK3.out.at 1 rfl
  go_wp2_with fail
  refine (HRx.out _ HB3.out).mono ?_
  rintro e w4 ⟨rfl, hb⟩
  have HB4 := Lib.hid (HB3.out.trans (hb.mono HB3.out.size))
  have HK4 := Lib.hid (HK3.out.below hb)
  clear hb HB3 HK3 HRx x0 x1 x2 x3
  obtain ⟨y0, y1, y2, y3⟩ := HK4.out.at 0 rfl
  go_wp2_with fail
  refine (HRy.out _ HB4.out).mono ?_
  rintro e w5 ⟨rfl, hb⟩
  have HB5 := Lib.hid (HB4.out.trans (hb.mono HB4.out.size))
  have HK5 := Lib.hid (HK4.out.below hb)
  clear hb HB4 HK4 HRy y0 y1 y2 y3
  obtain ⟨y0, y1, y2, y3⟩ := HK5.out.at 0 rfl
  obtain ⟨x0, x1, x2, x3⟩ := HK5.out.at 1 rfl
  go_wp2_with fail
  refine (HRc'.out _ HB5.out).mono ?_
  rintro e w6 ⟨rfl, hb⟩
  have HB6 := Lib.hid (HB5.out.trans (hb.mono HB5.out.size))
  clear hb HB5 HK5 HRc' x0 x1 x2 x3 y0 y1 y2 y3
  go_wp2_with fail
  go_ret
  exact ⟨rfl, HB6.out⟩
set_option maxRecDepth 100000 in
set_option maxHeartbeats 2000000 in
theorem compares_4 (w : World) (x y : Val) (lx ly : List Val) (hx : Full w x lx) (hy : Full w y ly) (hsm : (small x lx && small y ly) = true) :
    Calls Try.prog 7 #[.string ⟨#[60, 61]⟩, x.v, y.v] w fun e w' => e = .returned (.bool true) ∧ Below w.heap.size w w' := by
  have HTw : Hid (∀ W, Below w.heap.size w W → Calls Try.prog 10 #[V x.k x.i x.s x.a x.n x.c, V y.k y.i y.s y.a y.n y.c] W fun e w' => e = .returned (.bool true) ∧ Below W.heap.size W w') := Lib.hid (by
    intro W hW; rw [← hsm]; exact two_any W x y lx ly (hx.below hW) (hy.below hW))
  obtain ⟨fa, hfa⟩ : ∃ fa, x.formed lx = fa := ⟨_, rfl⟩
  obtain ⟨fb, hfb⟩ : ∃ fb, y.formed ly = fb := ⟨_, rfl⟩
  obtain ⟨o, ho⟩ : ∃ o, x.order lx y ly = o := ⟨_, rfl⟩
  have hro : o = -1 ∨ o = 0 ∨ o = 1 := by rw [← ho]; exact isCmp_P.range (x, lx) (y, ly)
  obtain ⟨r1, r2, hr⟩ : ∃ r1 r2, cmpR fa fb x.k y.k false (decide (o ≤ 0)) = (r1, r2) := ⟨_, _, rfl⟩
  have HCm : Hid (∀ W, Below w.heap.size w W → Calls Try.prog 26 #[.string ⟨#[60, 61]⟩, V x.k x.i x.s x.a x.n x.c, V y.k y.i y.s y.a y.n y.c] W fun e w' => e = .returned (.tuple #[.bool r1, .int .i64 r2]) ∧ Below W.heap.size W w') := Lib.hid (by
    intro W hW
    have h := compare_4 x y fa fb o W (hfa ▸ (hx.below hW).formedIs) (hfb ▸ (hy.below hW).formedIs) (fun W' hW' => by rw [← ho]; exact order_any W' x y lx ly ((hx.below hW).below hW') ((hy.below hW).below hW'))
    rw [hr] at h; exact h)
  have HRx : Hid (∀ W, Below w.heap.size w W → Calls Try.prog 12 #[V x.k x.i x.s x.a x.n x.c] W fun e w' => e = .returned (.bool fa) ∧ Below W.heap.size W w') := Lib.hid (by
    intro W hW; rw [← hfa]; exact refFormed_any W x lx (hx.below hW))
  have HRy : Hid (∀ W, Below w.heap.size w W → Calls Try.prog 12 #[V y.k y.i y.s y.a y.n y.c] W fun e w' => e = .returned (.bool fb) ∧ Below W.heap.size W w') := Lib.hid (by
    intro W hW; rw [← hfb]; exact refFormed_any W y ly (hy.below hW))
  have HRc : fa = true → fb = true → Hid (∀ W, Below w.heap.size w W → Calls Try.prog 27 #[.string ⟨#[60, 61]⟩, V x.k x.i x.s x.a x.n x.c, V y.k y.i y.s y.a y.n y.c] W fun e w' => e = .returned (.tuple #[.bool r1, .int .i64 r2]) ∧ Below W.heap.size W w') := fun ha hb => Lib.hid (by
    intro W hW
    have h := refCompare_4 x y o W (fun W' hW' => by rw [← ho, order_is (hfa.trans ha) (hfb.trans hb)]; exact refOrder_any W' x y lx ly ((hx.below hW).below hW') ((hy.below hW).below hW'))
    have ht : (let c := o; (c != 1)) = (decide (o ≤ 0)) := by rcases hro with rfl | rfl | rfl <;> rfl
    have ht' : (o != 1) = (decide (o ≤ 0)) := ht
    rw [ht'] at h
    rw [ha, hb] at hr
    rw [hr] at h; exact h)
  have Hr := Lib.hid hr
  clear hr ho hro hfa hfb hsm hx hy
  unfold Val.v
  go_enter Try.func7, Try.ntmps7
  go_wp2_with fail
  generalize hW : World.alloc _ _ = W0
  have HB0 : Hid (Below w.heap.size w W0) := Lib.hid (by rw [← hW]; exact ((Below.refl _ _).alloc (Nat.le_refl _) _).alloc (by simp) _)
  have HK0 : Hid (Blks W0 [(w.heap.size + 1, y), (w.heap.size, x)]) := Lib.hid (by rw [← hW]; exact blks2 w x y)
  clear hW
  refine (awake_any W0).mono ?_
  rintro e w1 ⟨rfl, hb⟩
  have HB1 := Lib.hid (HB0.out.trans (hb.mono HB0.out.size))
  have HK1 := Lib.hid (HK0.out.below hb)
  clear hb HB0 HK0
  obtain ⟨y0, y1, y2, y3⟩ := HK1.out.at 0 rfl
  obtain ⟨x0, x1, x2, x3⟩ := HK1.out.at 1 rfl
  go_wp2_with fail
  refine (HTw.out _ HB1.out).mono ?_
  rintro e w2 ⟨rfl, hb⟩
  have HB2 := Lib.hid (HB1.out.trans (hb.mono HB1.out.size))
  have HK2 := Lib.hid (HK1.out.below hb)
  clear hb HB1 HK1 x0 x1 x2 x3 y0 y1 y2 y3 HTw
  obtain ⟨y0, y1, y2, y3⟩ := HK2.out.at 0 rfl
  obtain ⟨x0, x1, x2, x3⟩ := HK2.out.at 1 rfl
  cases fa
  · have hr := Hr.out
    simp only [cmpR, Bool.not_false, Bool.true_or, if_true, Prod.mk.injEq] at hr
    obtain ⟨rfl, rfl⟩ := hr
    clear HRc HRy
    go_wp2_with fail
    refine (HCm.out _ HB2.out).mono ?_
    rintro e w3 ⟨rfl, hb⟩
    have HB3 := Lib.hid (HB2.out.trans (hb.mono HB2.out.size))
    have HK3 := Lib.hid (HK2.out.below hb)
    clear hb HB2 HK2 HCm x0 x1 x2 x3 y0 y1 y2 y3
    obtain ⟨x0, x1, x2, x3⟩ := HK3.out.at 1 rfl
    go_wp2_with fail
    refine (HRx.out _ HB3.out).mono ?_
    rintro e w4 ⟨rfl, hb⟩
    have HB4 := Lib.hid (HB3.out.trans (hb.mono HB3.out.size))
    clear hb HB3 HK3 HRx x0 x1 x2 x3
    go_wp2_with fail
    go_ret
    exact ⟨rfl, HB4.out⟩
  cases fb
  · have hr := Hr.out
    simp only [cmpR, Bool.not_false, Bool.or_true, if_true, Prod.mk.injEq] at hr
    obtain ⟨rfl, rfl⟩ := hr
    clear HRc
    go_wp2_with fail
    refine (HCm.out _ HB2.out).mono ?_
    rintro e w3 ⟨rfl, hb⟩
    have HB3 := Lib.hid (HB2.out.trans (hb.mono HB2.out.size))
    have HK3 := Lib.hid (HK2.out.below hb)
    clear hb HB2 HK2 HCm x0 x1 x2 x3 y0 y1 y2 y3
    obtain ⟨x0, x1, x2, x3⟩ := HK3.out.at 1 rfl
    go_wp2_with fail
    refine (HRx.out _ HB3.out).mono ?_
    rintro e w4 ⟨rfl, hb⟩
    have HB4 := Lib.hid (HB3.out.trans (hb.mono HB3.out.size))
    have HK4 := Lib.hid (HK3.out.below hb)
    clear hb HB3 HK3 HRx x0 x1 x2 x3
    obtain ⟨y0, y1, y2, y3⟩ := HK4.out.at 0 rfl
    go_wp2_with fail
    refine (HRy.out _ HB4.out).mono ?_
    rintro e w5 ⟨rfl, hb⟩
    have HB5 := Lib.hid (HB4.out.trans (hb.mono HB4.out.size))
    clear hb HB4 HK4 HRy y0 y1 y2 y3
    go_wp2_with fail
    go_ret
    exact ⟨rfl, HB5.out⟩
  have HRc' := HRc rfl rfl
  clear HRc Hr
  go_wp2_with fail
  refine (HCm.out _ HB2.out).mono ?_
  rintro e w3 ⟨rfl, hb⟩
  have HB3 := Lib.hid (HB2.out.trans (hb.mono HB2.out.size))
  have HK3 := Lib.hid (HK2.out.below hb)
  clear hb HB2 HK2 HCm x0 x1 x2 x3 y0 y1 y2 y3
  obtain ⟨x0, x1, x2, x3⟩ := HK3.out.at 1 rfl
  go_wp2_with fail
  refine (HRx.out _ HB3.out).mono ?_
  rintro e w4 ⟨rfl, hb⟩
  have HB4 := Lib.hid (HB3.out.trans (hb.mono HB3.out.size))
  have HK4 := Lib.hid (HK3.out.below hb)
  clear hb HB3 HK3 HRx x0 x1 x2 x3
  obtain ⟨y0, y1, y2, y3⟩ := HK4.out.at 0 rfl
  go_wp2_with fail
  refine (HRy.out _ HB4.out).mono ?_
  rintro e w5 ⟨rfl, hb⟩
  have HB5 := Lib.hid (HB4.out.trans (hb.mono HB4.out.size))
  have HK5 := Lib.hid (HK4.out.below hb)
  clear hb HB4 HK4 HRy y0 y1 y2 y3
  obtain ⟨y0, y1, y2, y3⟩ := HK5.out.at 0 rfl
  obtain ⟨x0, x1, x2, x3⟩ := HK5.out.at 1 rfl
  go_wp2_with fail
  refine (HRc'.out _ HB5.out).mono ?_
  rintro e w6 ⟨rfl, hb⟩
  have HB6 := Lib.hid (HB5.out.trans (hb.mono HB5.out.size))
  clear hb HB5 HK5 HRc' x0 x1 x2 x3 y0 y1 y2 y3
  go_wp2_with fail
  go_ret
  exact ⟨rfl, HB6.out⟩
set_option maxRecDepth 100000 in
set_option maxHeartbeats 2000000 in
theorem compares_5 (w : World) (x y : Val) (lx ly : List Val) (hx : Full w x lx) (hy : Full w y ly) (hsm : (small x lx && small y ly) = true) :
    Calls Try.prog 7 #[.string ⟨#[62]⟩, x.v, y.v] w fun e w' => e = .returned (.bool true) ∧ Below w.heap.size w w' := by
  have HTw : Hid (∀ W, Below w.heap.size w W → Calls Try.prog 10 #[V x.k x.i x.s x.a x.n x.c, V y.k y.i y.s y.a y.n y.c] W fun e w' => e = .returned (.bool true) ∧ Below W.heap.size W w') := Lib.hid (by
    intro W hW; rw [← hsm]; exact two_any W x y lx ly (hx.below hW) (hy.below hW))
  obtain ⟨fa, hfa⟩ : ∃ fa, x.formed lx = fa := ⟨_, rfl⟩
  obtain ⟨fb, hfb⟩ : ∃ fb, y.formed ly = fb := ⟨_, rfl⟩
  obtain ⟨o, ho⟩ : ∃ o, x.order lx y ly = o := ⟨_, rfl⟩
  have hro : o = -1 ∨ o = 0 ∨ o = 1 := by rw [← ho]; exact isCmp_P.range (x, lx) (y, ly)
  obtain ⟨r1, r2, hr⟩ : ∃ r1 r2, cmpR fa fb x.k y.k false (decide (0 < o)) = (r1, r2) := ⟨_, _, rfl⟩
  have HCm : Hid (∀ W, Below w.heap.size w W → Calls Try.prog 26 #[.string ⟨#[62]⟩, V x.k x.i x.s x.a x.n x.c, V y.k y.i y.s y.a y.n y.c] W fun e w' => e = .returned (.tuple #[.bool r1, .int .i64 r2]) ∧ Below W.heap.size W w') := Lib.hid (by
    intro W hW
    have h := compare_5 x y fa fb o W (hfa ▸ (hx.below hW).formedIs) (hfb ▸ (hy.below hW).formedIs) (fun W' hW' => by rw [← ho]; exact order_any W' x y lx ly ((hx.below hW).below hW') ((hy.below hW).below hW'))
    rw [hr] at h; exact h)
  have HRx : Hid (∀ W, Below w.heap.size w W → Calls Try.prog 12 #[V x.k x.i x.s x.a x.n x.c] W fun e w' => e = .returned (.bool fa) ∧ Below W.heap.size W w') := Lib.hid (by
    intro W hW; rw [← hfa]; exact refFormed_any W x lx (hx.below hW))
  have HRy : Hid (∀ W, Below w.heap.size w W → Calls Try.prog 12 #[V y.k y.i y.s y.a y.n y.c] W fun e w' => e = .returned (.bool fb) ∧ Below W.heap.size W w') := Lib.hid (by
    intro W hW; rw [← hfb]; exact refFormed_any W y ly (hy.below hW))
  have HRc : fa = true → fb = true → Hid (∀ W, Below w.heap.size w W → Calls Try.prog 27 #[.string ⟨#[62]⟩, V x.k x.i x.s x.a x.n x.c, V y.k y.i y.s y.a y.n y.c] W fun e w' => e = .returned (.tuple #[.bool r1, .int .i64 r2]) ∧ Below W.heap.size W w') := fun ha hb => Lib.hid (by
    intro W hW
    have h := refCompare_5 x y o W (fun W' hW' => by rw [← ho, order_is (hfa.trans ha) (hfb.trans hb)]; exact refOrder_any W' x y lx ly ((hx.below hW).below hW') ((hy.below hW).below hW'))
    have ht : (let c := o; (c == 1)) = (decide (0 < o)) := by rcases hro with rfl | rfl | rfl <;> rfl
    have ht' : (o == 1) = (decide (0 < o)) := ht
    rw [ht'] at h
    rw [ha, hb] at hr
    rw [hr] at h; exact h)
  have Hr := Lib.hid hr
  clear hr ho hro hfa hfb hsm hx hy
  unfold Val.v
  go_enter Try.func7, Try.ntmps7
  go_wp2_with fail
  generalize hW : World.alloc _ _ = W0
  have HB0 : Hid (Below w.heap.size w W0) := Lib.hid (by rw [← hW]; exact ((Below.refl _ _).alloc (Nat.le_refl _) _).alloc (by simp) _)
  have HK0 : Hid (Blks W0 [(w.heap.size + 1, y), (w.heap.size, x)]) := Lib.hid (by rw [← hW]; exact blks2 w x y)
  clear hW
  refine (awake_any W0).mono ?_
  rintro e w1 ⟨rfl, hb⟩
  have HB1 := Lib.hid (HB0.out.trans (hb.mono HB0.out.size))
  have HK1 := Lib.hid (HK0.out.below hb)
  clear hb HB0 HK0
  obtain ⟨y0, y1, y2, y3⟩ := HK1.out.at 0 rfl
  obtain ⟨x0, x1, x2, x3⟩ := HK1.out.at 1 rfl
  go_wp2_with fail
  refine (HTw.out _ HB1.out).mono ?_
  rintro e w2 ⟨rfl, hb⟩
  have HB2 := Lib.hid (HB1.out.trans (hb.mono HB1.out.size))
  have HK2 := Lib.hid (HK1.out.below hb)
  clear hb HB1 HK1 x0 x1 x2 x3 y0 y1 y2 y3 HTw
  obtain ⟨y0, y1, y2, y3⟩ := HK2.out.at 0 rfl
  obtain ⟨x0, x1, x2, x3⟩ := HK2.out.at 1 rfl
  cases fa
  · have hr := Hr.out
    simp only [cmpR, Bool.not_false, Bool.true_or, if_true, Prod.mk.injEq] at hr
    obtain ⟨rfl, rfl⟩ := hr
    clear HRc HRy
    go_wp2_with fail
    refine (HCm.out _ HB2.out).mono ?_
    rintro e w3 ⟨rfl, hb⟩
    have HB3 := Lib.hid (HB2.out.trans (hb.mono HB2.out.size))
    have HK3 := Lib.hid (HK2.out.below hb)
    clear hb HB2 HK2 HCm x0 x1 x2 x3 y0 y1 y2 y3
    obtain ⟨x0, x1, x2, x3⟩ := HK3.out.at 1 rfl
    go_wp2_with fail
    refine (HRx.out _ HB3.out).mono ?_
    rintro e w4 ⟨rfl, hb⟩
    have HB4 := Lib.hid (HB3.out.trans (hb.mono HB3.out.size))
    clear hb HB3 HK3 HRx x0 x1 x2 x3
    go_wp2_with fail
    go_ret
    exact ⟨rfl, HB4.out⟩
  cases fb
  · have hr := Hr.out
    simp only [cmpR, Bool.not_false, Bool.or_true, if_true, Prod.mk.injEq] at hr
    obtain ⟨rfl, rfl⟩ := hr
    clear HRc
    go_wp2_with fail
    refine (HCm.out _ HB2.out).mono ?_
    rintro e w3 ⟨rfl, hb⟩
    have HB3 := Lib.hid (HB2.out.trans (hb.mono HB2.out.size))
    have HK3 := Lib.hid (HK2.out.below hb)
    clear hb HB2 HK2 HCm x0 x1 x2 x3 y0 y1 y2 y3
    obtain ⟨x0, x1, x2, x3⟩ := HK3.out.at 1 rfl
    go_wp2_with fail
    refine (HRx.out _ HB3.out).mono ?_
    rintro e w4 ⟨rfl, hb⟩
    have HB4 := Lib.hid (HB3.out.trans (hb.mono HB3.out.size))
    have HK4 := Lib.hid (HK3.out.below hb)
    clear hb HB3 HK3 HRx x0 x1 x2 x3
    obtain ⟨y0, y1, y2, y3⟩ := HK4.out.at 0 rfl
    go_wp2_with fail
    refine (HRy.out _ HB4.out).mono ?_
    rintro e w5 ⟨rfl, hb⟩
    have HB5 := Lib.hid (HB4.out.trans (hb.mono HB4.out.size))
    clear hb HB4 HK4 HRy y0 y1 y2 y3
    go_wp2_with fail
    go_ret
    exact ⟨rfl, HB5.out⟩
  have HRc' := HRc rfl rfl
  clear HRc Hr
  go_wp2_with fail
  refine (HCm.out _ HB2.out).mono ?_
  rintro e w3 ⟨rfl, hb⟩
  have HB3 := Lib.hid (HB2.out.trans (hb.mono HB2.out.size))
  have HK3 := Lib.hid (HK2.out.below hb)
  clear hb HB2 HK2 HCm x0 x1 x2 x3 y0 y1 y2 y3
  obtain ⟨x0, x1, x2, x3⟩ := HK3.out.at 1 rfl
  go_wp2_with fail
  refine (HRx.out _ HB3.out).mono ?_
  rintro e w4 ⟨rfl, hb⟩
  have HB4 := Lib.hid (HB3.out.trans (hb.mono HB3.out.size))
  have HK4 := Lib.hid (HK3.out.below hb)
  clear hb HB3 HK3 HRx x0 x1 x2 x3
  obtain ⟨y0, y1, y2, y3⟩ := HK4.out.at 0 rfl
  go_wp2_with fail
  refine (HRy.out _ HB4.out).mono ?_
  rintro e w5 ⟨rfl, hb⟩
  have HB5 := Lib.hid (HB4.out.trans (hb.mono HB4.out.size))
  have HK5 := Lib.hid (HK4.out.below hb)
  clear hb HB4 HK4 HRy y0 y1 y2 y3
  obtain ⟨y0, y1, y2, y3⟩ := HK5.out.at 0 rfl
  obtain ⟨x0, x1, x2, x3⟩ := HK5.out.at 1 rfl
  go_wp2_with fail
  refine (HRc'.out _ HB5.out).mono ?_
  rintro e w6 ⟨rfl, hb⟩
  have HB6 := Lib.hid (HB5.out.trans (hb.mono HB5.out.size))
  clear hb HB5 HK5 HRc' x0 x1 x2 x3 y0 y1 y2 y3
  go_wp2_with fail
  go_ret
  exact ⟨rfl, HB6.out⟩
set_option maxRecDepth 100000 in
set_option maxHeartbeats 2000000 in
theorem compares_6 (w : World) (x y : Val) (lx ly : List Val) (hx : Full w x lx) (hy : Full w y ly) (hsm : (small x lx && small y ly) = true) :
    Calls Try.prog 7 #[.string ⟨#[62, 61]⟩, x.v, y.v] w fun e w' => e = .returned (.bool true) ∧ Below w.heap.size w w' := by
  have HTw : Hid (∀ W, Below w.heap.size w W → Calls Try.prog 10 #[V x.k x.i x.s x.a x.n x.c, V y.k y.i y.s y.a y.n y.c] W fun e w' => e = .returned (.bool true) ∧ Below W.heap.size W w') := Lib.hid (by
    intro W hW; rw [← hsm]; exact two_any W x y lx ly (hx.below hW) (hy.below hW))
  obtain ⟨fa, hfa⟩ : ∃ fa, x.formed lx = fa := ⟨_, rfl⟩
  obtain ⟨fb, hfb⟩ : ∃ fb, y.formed ly = fb := ⟨_, rfl⟩
  obtain ⟨o, ho⟩ : ∃ o, x.order lx y ly = o := ⟨_, rfl⟩
  have hro : o = -1 ∨ o = 0 ∨ o = 1 := by rw [← ho]; exact isCmp_P.range (x, lx) (y, ly)
  obtain ⟨r1, r2, hr⟩ : ∃ r1 r2, cmpR fa fb x.k y.k false (decide (0 ≤ o)) = (r1, r2) := ⟨_, _, rfl⟩
  have HCm : Hid (∀ W, Below w.heap.size w W → Calls Try.prog 26 #[.string ⟨#[62, 61]⟩, V x.k x.i x.s x.a x.n x.c, V y.k y.i y.s y.a y.n y.c] W fun e w' => e = .returned (.tuple #[.bool r1, .int .i64 r2]) ∧ Below W.heap.size W w') := Lib.hid (by
    intro W hW
    have h := compare_6 x y fa fb o W (hfa ▸ (hx.below hW).formedIs) (hfb ▸ (hy.below hW).formedIs) (fun W' hW' => by rw [← ho]; exact order_any W' x y lx ly ((hx.below hW).below hW') ((hy.below hW).below hW'))
    rw [hr] at h; exact h)
  have HRx : Hid (∀ W, Below w.heap.size w W → Calls Try.prog 12 #[V x.k x.i x.s x.a x.n x.c] W fun e w' => e = .returned (.bool fa) ∧ Below W.heap.size W w') := Lib.hid (by
    intro W hW; rw [← hfa]; exact refFormed_any W x lx (hx.below hW))
  have HRy : Hid (∀ W, Below w.heap.size w W → Calls Try.prog 12 #[V y.k y.i y.s y.a y.n y.c] W fun e w' => e = .returned (.bool fb) ∧ Below W.heap.size W w') := Lib.hid (by
    intro W hW; rw [← hfb]; exact refFormed_any W y ly (hy.below hW))
  have HRc : fa = true → fb = true → Hid (∀ W, Below w.heap.size w W → Calls Try.prog 27 #[.string ⟨#[62, 61]⟩, V x.k x.i x.s x.a x.n x.c, V y.k y.i y.s y.a y.n y.c] W fun e w' => e = .returned (.tuple #[.bool r1, .int .i64 r2]) ∧ Below W.heap.size W w') := fun ha hb => Lib.hid (by
    intro W hW
    have h := refCompare_6 x y o W (fun W' hW' => by rw [← ho, order_is (hfa.trans ha) (hfb.trans hb)]; exact refOrder_any W' x y lx ly ((hx.below hW).below hW') ((hy.below hW).below hW'))
    have ht : (let c := o; (c != -1)) = (decide (0 ≤ o)) := by rcases hro with rfl | rfl | rfl <;> rfl
    have ht' : (o != -1) = (decide (0 ≤ o)) := ht
    rw [ht'] at h
    rw [ha, hb] at hr
    rw [hr] at h; exact h)
  have Hr := Lib.hid hr
  clear hr ho hro hfa hfb hsm hx hy
  unfold Val.v
  go_enter Try.func7, Try.ntmps7
  go_wp2_with fail
  generalize hW : World.alloc _ _ = W0
  have HB0 : Hid (Below w.heap.size w W0) := Lib.hid (by rw [← hW]; exact ((Below.refl _ _).alloc (Nat.le_refl _) _).alloc (by simp) _)
  have HK0 : Hid (Blks W0 [(w.heap.size + 1, y), (w.heap.size, x)]) := Lib.hid (by rw [← hW]; exact blks2 w x y)
  clear hW
  refine (awake_any W0).mono ?_
  rintro e w1 ⟨rfl, hb⟩
  have HB1 := Lib.hid (HB0.out.trans (hb.mono HB0.out.size))
  have HK1 := Lib.hid (HK0.out.below hb)
  clear hb HB0 HK0
  obtain ⟨y0, y1, y2, y3⟩ := HK1.out.at 0 rfl
  obtain ⟨x0, x1, x2, x3⟩ := HK1.out.at 1 rfl
  go_wp2_with fail
  refine (HTw.out _ HB1.out).mono ?_
  rintro e w2 ⟨rfl, hb⟩
  have HB2 := Lib.hid (HB1.out.trans (hb.mono HB1.out.size))
  have HK2 := Lib.hid (HK1.out.below hb)
  clear hb HB1 HK1 x0 x1 x2 x3 y0 y1 y2 y3 HTw
  obtain ⟨y0, y1, y2, y3⟩ := HK2.out.at 0 rfl
  obtain ⟨x0, x1, x2, x3⟩ := HK2.out.at 1 rfl
  cases fa
  · have hr := Hr.out
    simp only [cmpR, Bool.not_false, Bool.true_or, if_true, Prod.mk.injEq] at hr
    obtain ⟨rfl, rfl⟩ := hr
    clear HRc HRy
    go_wp2_with fail
    refine (HCm.out _ HB2.out).mono ?_
    rintro e w3 ⟨rfl, hb⟩
    have HB3 := Lib.hid (HB2.out.trans (hb.mono HB2.out.size))
    have HK3 := Lib.hid (HK2.out.below hb)
    clear hb HB2 HK2 HCm x0 x1 x2 x3 y0 y1 y2 y3
    obtain ⟨x0, x1, x2, x3⟩ := HK3.out.at 1 rfl
    go_wp2_with fail
    refine (HRx.out _ HB3.out).mono ?_
    rintro e w4 ⟨rfl, hb⟩
    have HB4 := Lib.hid (HB3.out.trans (hb.mono HB3.out.size))
    clear hb HB3 HK3 HRx x0 x1 x2 x3
    go_wp2_with fail
    go_ret
    exact ⟨rfl, HB4.out⟩
  cases fb
  · have hr := Hr.out
    simp only [cmpR, Bool.not_false, Bool.or_true, if_true, Prod.mk.injEq] at hr
    obtain ⟨rfl, rfl⟩ := hr
    clear HRc
    go_wp2_with fail
    refine (HCm.out _ HB2.out).mono ?_
    rintro e w3 ⟨rfl, hb⟩
    have HB3 := Lib.hid (HB2.out.trans (hb.mono HB2.out.size))
    have HK3 := Lib.hid (HK2.out.below hb)
    clear hb HB2 HK2 HCm x0 x1 x2 x3 y0 y1 y2 y3
    obtain ⟨x0, x1, x2, x3⟩ := HK3.out.at 1 rfl
    go_wp2_with fail
    refine (HRx.out _ HB3.out).mono ?_
    rintro e w4 ⟨rfl, hb⟩
    have HB4 := Lib.hid (HB3.out.trans (hb.mono HB3.out.size))
    have HK4 := Lib.hid (HK3.out.below hb)
    clear hb HB3 HK3 HRx x0 x1 x2 x3
    obtain ⟨y0, y1, y2, y3⟩ := HK4.out.at 0 rfl
    go_wp2_with fail
    refine (HRy.out _ HB4.out).mono ?_
    rintro e w5 ⟨rfl, hb⟩
    have HB5 := Lib.hid (HB4.out.trans (hb.mono HB4.out.size))
    clear hb HB4 HK4 HRy y0 y1 y2 y3
    go_wp2_with fail
    go_ret
    exact ⟨rfl, HB5.out⟩
  have HRc' := HRc rfl rfl
  clear HRc Hr
  go_wp2_with fail
  refine (HCm.out _ HB2.out).mono ?_
  rintro e w3 ⟨rfl, hb⟩
  have HB3 := Lib.hid (HB2.out.trans (hb.mono HB2.out.size))
  have HK3 := Lib.hid (HK2.out.below hb)
  clear hb HB2 HK2 HCm x0 x1 x2 x3 y0 y1 y2 y3
  obtain ⟨x0, x1, x2, x3⟩ := HK3.out.at 1 rfl
  go_wp2_with fail
  refine (HRx.out _ HB3.out).mono ?_
  rintro e w4 ⟨rfl, hb⟩
  have HB4 := Lib.hid (HB3.out.trans (hb.mono HB3.out.size))
  have HK4 := Lib.hid (HK3.out.below hb)
  clear hb HB3 HK3 HRx x0 x1 x2 x3
  obtain ⟨y0, y1, y2, y3⟩ := HK4.out.at 0 rfl
  go_wp2_with fail
  refine (HRy.out _ HB4.out).mono ?_
  rintro e w5 ⟨rfl, hb⟩
  have HB5 := Lib.hid (HB4.out.trans (hb.mono HB4.out.size))
  have HK5 := Lib.hid (HK4.out.below hb)
  clear hb HB4 HK4 HRy y0 y1 y2 y3
  obtain ⟨y0, y1, y2, y3⟩ := HK5.out.at 0 rfl
  obtain ⟨x0, x1, x2, x3⟩ := HK5.out.at 1 rfl
  go_wp2_with fail
  refine (HRc'.out _ HB5.out).mono ?_
  rintro e w6 ⟨rfl, hb⟩
  have HB6 := Lib.hid (HB5.out.trans (hb.mono HB5.out.size))
  clear hb HB5 HK5 HRc' x0 x1 x2 x3 y0 y1 y2 y3
  go_wp2_with fail
  go_ret
  exact ⟨rfl, HB6.out⟩
set_option maxRecDepth 100000 in
set_option maxHeartbeats 2000000 in
theorem compares_none (w : World) (op : ByteArray) (x y : Val) (lx ly : List Val) (hx : Full w x lx) (hy : Full w y ly) (hsm : (small x lx && small y ly) = true)
    (h1 : (op.toList == [61, 61]) = false) (h2 : (op.toList == [33, 61]) = false) (h3 : (op.toList == [60]) = false) (h4 : (op.toList == [60, 61]) = false) (h5 : (op.toList == [62]) = false) (h6 : (op.toList == [62, 61]) = false) :
    Calls Try.prog 7 #[.string op, x.v, y.v] w fun e w' => e = .returned (.bool true) ∧ Below w.heap.size w w' := by
  have HTw : Hid (∀ W, Below w.heap.size w W → Calls Try.prog 10 #[V x.k x.i x.s x.a x.n x.c, V y.k y.i y.s y.a y.n y.c] W fun e w' => e = .returned (.bool true) ∧ Below W.heap.size W w') := Lib.hid (by
    intro W hW; rw [← hsm]; exact two_any W x y lx ly (hx.below hW) (hy.below hW))
  have HCm : Hid (∀ W, Below w.heap.size w W → Calls Try.prog 26 #[.string op, V x.k x.i x.s x.a x.n x.c, V y.k y.i y.s y.a y.n y.c] W fun e w' => e = .returned (.tuple #[.bool false, .int .i64 1]) ∧ Below W.heap.size W w') := Lib.hid (by
    intro W hW
    exact compare_none op x y _ _ _ W (hx.below hW).formedIs (hy.below hW).formedIs (fun W' hW' => order_any W' x y lx ly ((hx.below hW).below hW') ((hy.below hW).below hW')) h1 h2 h3 h4 h5 h6)
  clear hsm hx hy
  unfold Val.v
  go_enter Try.func7, Try.ntmps7
  go_wp2_with fail
  generalize hW : World.alloc _ _ = W0
  have HB0 : Hid (Below w.heap.size w W0) := Lib.hid (by rw [← hW]; exact ((Below.refl _ _).alloc (Nat.le_refl _) _).alloc (by simp) _)
  have HK0 : Hid (Blks W0 [(w.heap.size + 1, y), (w.heap.size, x)]) := Lib.hid (by rw [← hW]; exact blks2 w x y)
  clear hW
  refine (awake_any W0).mono ?_
  rintro e w1 ⟨rfl, hb⟩
  have HB1 := Lib.hid (HB0.out.trans (hb.mono HB0.out.size))
  have HK1 := Lib.hid (HK0.out.below hb)
  clear hb HB0 HK0
  obtain ⟨y0, y1, y2, y3⟩ := HK1.out.at 0 rfl
  obtain ⟨x0, x1, x2, x3⟩ := HK1.out.at 1 rfl
  go_wp2_with fail
  refine (HTw.out _ HB1.out).mono ?_
  rintro e w2 ⟨rfl, hb⟩
  have HB2 := Lib.hid (HB1.out.trans (hb.mono HB1.out.size))
  have HK2 := Lib.hid (HK1.out.below hb)
  clear hb HB1 HK1 x0 x1 x2 x3 y0 y1 y2 y3 HTw
  obtain ⟨y0, y1, y2, y3⟩ := HK2.out.at 0 rfl
  obtain ⟨x0, x1, x2, x3⟩ := HK2.out.at 1 rfl
  go_wp2_with fail
  refine (HCm.out _ HB2.out).mono ?_
  rintro e w3 ⟨rfl, hb⟩
  have HB3 := Lib.hid (HB2.out.trans (hb.mono HB2.out.size))
  clear hb HB2 HK2 HCm x0 x1 x2 x3 y0 y1 y2 y3
  go_wp2_with fail
  go_ret
  exact ⟨rfl, HB3.out⟩
theorem op_is {op : ByteArray} {l : List UInt8} (h : (op.toList == l) = true) : op = ⟨l.toArray⟩ := by
  have h' : op.toList = l := by simpa using h
  rw [ByteArray.toList_eq] at h'
  cases op
  rw [← h']
theorem valueCompares_small (w : World) (op : ByteArray) (x y : Val) (lx ly : List Val) (hx : Full w x lx) (hy : Full w y ly) (hsm : (small x lx && small y ly) = true) :
    Calls Try.prog 7 #[.string op, x.v, y.v] w fun e w' => e = .returned (.bool true) ∧ Below w.heap.size w w' := by
  by_cases h1 : (op.toList == [61, 61]) = true
  · obtain rfl : op = ⟨#[61, 61]⟩ := op_is h1
    exact compares_1 w x y lx ly hx hy hsm
  by_cases h2 : (op.toList == [33, 61]) = true
  · obtain rfl : op = ⟨#[33, 61]⟩ := op_is h2
    exact compares_2 w x y lx ly hx hy hsm
  by_cases h3 : (op.toList == [60]) = true
  · obtain rfl : op = ⟨#[60]⟩ := op_is h3
    exact compares_3 w x y lx ly hx hy hsm
  by_cases h4 : (op.toList == [60, 61]) = true
  · obtain rfl : op = ⟨#[60, 61]⟩ := op_is h4
    exact compares_4 w x y lx ly hx hy hsm
  by_cases h5 : (op.toList == [62]) = true
  · obtain rfl : op = ⟨#[62]⟩ := op_is h5
    exact compares_5 w x y lx ly hx hy hsm
  by_cases h6 : (op.toList == [62, 61]) = true
  · obtain rfl : op = ⟨#[62, 61]⟩ := op_is h6
    exact compares_6 w x y lx ly hx hy hsm
  exact compares_none w op x y lx ly hx hy hsm (by simpa using h1) (by simpa using h2) (by simpa using h3) (by simpa using h4) (by simpa using h5) (by simpa using h6)
end Go.Proofs.Ytcgbodbjjfngpaa
