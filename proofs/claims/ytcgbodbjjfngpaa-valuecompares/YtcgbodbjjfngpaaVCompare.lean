/- Comparisons: the program's and the document's, op by op. -/
import Derived.Test.YtcgbodbjjfngpaaVFormMath
import Derived.Test.YtcgbodbjjfngpaaVBlks
import Derived.Test.YtcgbodbjjfngpaaVAdd
namespace Go.Proofs.Ytcgbodbjjfngpaa
open Go.RowKit

/-- what a comparison tells: whether, and the error -/
def cmpR (fa fb : Bool) (k1 k2 : Int) (eq t : Bool) : Bool × Int :=
  if (!fa || !fb) = true then (false, 1) else if (k1 == 0 || k1 != k2) = true then (false, 6) else if ((k1 == 1 || k1 == 5) && !eq) = true then (false, 6) else (t, 0)
theorem cmpR_zero {k1 k2 : Int} {eq t : Bool} (h : (k1 == 0) = true) : cmpR true true k1 k2 eq t = (false, 6) := by simp [cmpR, h]
theorem cmpR_ne {k1 k2 : Int} {eq t : Bool} (h : (k1 != k2) = true) : cmpR true true k1 k2 eq t = (false, 6) := by simp [cmpR, h]
theorem cmpR_type {k1 k2 : Int} {t : Bool} (h : (k1 == 1) = true ∨ (k1 == 5) = true) : cmpR true true k1 k2 false t = (false, 6) := by
  rcases h with h | h <;> simp [cmpR, h]
theorem cmpR_yes {k1 k2 : Int} {t : Bool} (h0 : (k1 == 0) = false) (h : (k1 != k2) = false) (h1 : (k1 == 1) = false) (h5 : (k1 == 5) = false) : cmpR true true k1 k2 false t = (t, 0) := by simp [cmpR, h0, h, h1, h5]
theorem cmpR_eq {k1 k2 : Int} {t : Bool} (h0 : (k1 == 0) = false) (h : (k1 != k2) = false) : cmpR true true k1 k2 true t = (t, 0) := by simp [cmpR, h0, h]
theorem holds_1 (o : Int) (w : World) :
    Calls Try.prog 49 #[.string ⟨#[61, 61]⟩, .int .i64 o] w fun e w' => e = .returned (.tuple #[.bool (o == 0), .bool true]) ∧ w = w' := by
  go_enter Try.func49, Try.ntmps49
  go_wp2
  go_ret2
  exact ⟨rfl, rfl⟩
set_option maxHeartbeats 1000000 in
theorem compare_1 (x y : Val) (fa fb : Bool) (o : Int) (w : World) (hx : FormedIs w x.v fa) (hy : FormedIs w y.v fb) (ho : ∀ W, Below w.heap.size w W → Calls Try.prog 13 #[x.v, y.v] W fun e w' => e = .returned (.int .i64 o) ∧ Below W.heap.size W w') :
    Calls Try.prog 26 #[.string ⟨#[61, 61]⟩, x.v, y.v] w fun e w' => e = .returned (.tuple #[.bool (cmpR fa fb x.k y.k true (o == 0)).1, .int .i64 (cmpR fa fb x.k y.k true (o == 0)).2]) ∧ Below w.heap.size w w' := by
  have HX := Lib.hid hx
  have HY := Lib.hid hy
  have HO := Lib.hid ho
  clear hx hy ho
  unfold Val.v at *
  go_enter Try.func26, Try.ntmps26
  go_wp2_with fail
  generalize hW : World.alloc _ _ = W0
  have HB0 : Hid (Below w.heap.size w W0) := Lib.hid (by rw [← hW]; exact ((Below.refl _ _).alloc (Nat.le_refl _) _).alloc (by simp) _)
  have HK0 : Hid (Blks W0 [(w.heap.size + 1, y), (w.heap.size, x)]) := Lib.hid (by rw [← hW]; exact blks2 w x y)
  clear hW
  refine (HX.out.call _ HB0.out).mono ?_
  rintro e w1 ⟨rfl, hb⟩
  have HB1 := Lib.hid (HB0.out.trans (hb.mono HB0.out.size))
  have HK1 := Lib.hid (HK0.out.below hb)
  clear hb HB0 HK0 HX
  cases fa
  · go_wp2_with fail
    go_ret2
    exact ⟨rfl, HB1.out⟩
  obtain ⟨y0, y1, y2, y3⟩ := HK1.out.at 0 rfl
  go_wp2_with fail
  refine (HY.out.call _ HB1.out).mono ?_
  rintro e w2 ⟨rfl, hb⟩
  have HB2 := Lib.hid (HB1.out.trans (hb.mono HB1.out.size))
  have HK2 := Lib.hid (HK1.out.below hb)
  clear hb HB1 HK1 HY y0 y1 y2 y3
  cases fb
  · go_wp2_with fail
    go_ret2
    exact ⟨rfl, HB2.out⟩
  obtain ⟨y0, y1, y2, y3⟩ := HK2.out.at 0 rfl
  obtain ⟨x0, x1, x2, x3⟩ := HK2.out.at 1 rfl
  go_wp2_with fail
  refine (HO.out _ HB2.out).mono ?_
  rintro e w3 ⟨rfl, hb⟩
  have HB3 := Lib.hid (HB2.out.trans (hb.mono HB2.out.size))
  have HK3 := Lib.hid (HK2.out.below hb)
  clear hb HB2 HK2 HO x0 x1 x2 x3 y0 y1 y2 y3
  obtain ⟨y0, y1, y2, y3⟩ := HK3.out.at 0 rfl
  obtain ⟨x0, x1, x2, x3⟩ := HK3.out.at 1 rfl
  go_wp2_with fail
  refine (holds_1 _ _).mono ?_
  rintro e w' ⟨rfl, rfl⟩
  by_cases h0 : x.k = 0
  · have h0' : (x.k == 0) = true := by simpa using h0
    have HZ := Lib.hid (cmpR_zero (k2 := y.k) (eq := true) (t := (o == 0)) h0')
    clear h0
    go_wp2_with fail
    go_ret2
    exact ⟨by rw [HZ.out]; rfl, HB3.out⟩
  have h0' : (x.k == 0) = false := by simpa using h0
  by_cases hn : x.k = y.k
  case neg =>
    have hn' : (x.k != y.k) = true := by simpa using hn
    have HZ := Lib.hid (cmpR_ne (eq := true) (t := (o == 0)) hn')
    clear h0 hn
    go_wp2_with fail
    go_ret2
    exact ⟨by rw [HZ.out]; rfl, HB3.out⟩
  have hn' : (x.k != y.k) = false := by simpa using hn
  have HZ := Lib.hid (cmpR_eq (t := (o == 0)) h0' hn')
  clear h0 hn
  by_cases h1 : x.k = 1
  · have h1' : (x.k == 1) = true := by simpa using h1
    clear h1
    go_wp2_with fail
    go_ret2
    exact ⟨by rw [HZ.out]; rfl, HB3.out⟩
  have h1' : (x.k == 1) = false := by simpa using h1
  by_cases h5 : x.k = 5
  · have h5' : (x.k == 5) = true := by simpa using h5
    clear h1 h5
    go_wp2_with fail
    go_ret2
    exact ⟨by rw [HZ.out]; rfl, HB3.out⟩
  have h5' : (x.k == 5) = false := by simpa using h5
  clear h1 h5
  go_wp2_with fail
  go_ret2
  exact ⟨by rw [HZ.out]; rfl, HB3.out⟩
set_option maxHeartbeats 1000000 in
theorem refCompare_1 (x y : Val) (c : Int) (w : World) (ho : ∀ W, Below w.heap.size w W → Calls Try.prog 14 #[x.v, y.v] W fun e w' => e = .returned (.int .i64 c) ∧ Below W.heap.size W w') :
    Calls Try.prog 27 #[.string ⟨#[61, 61]⟩, x.v, y.v] w fun e w' => e = .returned (.tuple #[.bool (cmpR true true x.k y.k true (c == 0)).1, .int .i64 (cmpR true true x.k y.k true (c == 0)).2]) ∧ Below w.heap.size w w' := by
  have HO := Lib.hid ho
  clear ho
  unfold Val.v at *
  by_cases h0 : x.k = 0
  · have h0' : (x.k == 0) = true := by simpa using h0
    have HZ := Lib.hid (cmpR_zero (k2 := y.k) (eq := true) (t := (c == 0)) h0')
    clear h0
    go_enter Try.func27, Try.ntmps27
    go_wp2_with fail
    go_ret2
    exact ⟨by rw [HZ.out]; rfl, ((Below.refl _ _).alloc (Nat.le_refl _) _).alloc (by simp) _⟩
  have h0' : (x.k == 0) = false := by simpa using h0
  by_cases hn : x.k = y.k
  case neg =>
    have hn' : (x.k != y.k) = true := by simpa using hn
    have HZ := Lib.hid (cmpR_ne (eq := true) (t := (c == 0)) hn')
    clear h0 hn
    go_enter Try.func27, Try.ntmps27
    go_wp2_with fail
    go_ret2
    exact ⟨by rw [HZ.out]; rfl, ((Below.refl _ _).alloc (Nat.le_refl _) _).alloc (by simp) _⟩
  have hn' : (x.k != y.k) = false := by simpa using hn
  have HZ := Lib.hid (cmpR_eq (t := (c == 0)) h0' hn')
  clear h0 hn
  by_cases h1 : x.k = 1
  · have h1' : (x.k == 1) = true := by simpa using h1
    clear h1
    go_enter Try.func27, Try.ntmps27
    go_wp2_with fail
    refine (HO.out _ (((Below.refl _ _).alloc (Nat.le_refl _) _).alloc (by simp) _)).mono ?_
    rintro e w1 ⟨rfl, hb⟩
    have HB := Lib.hid ((((Below.refl w.heap.size w).alloc (Nat.le_refl _) _).alloc (by simp) _).trans (hb.mono (by simp; omega)))
    clear hb HO
    go_wp2_with fail
    go_ret2
    exact ⟨by rw [HZ.out]; rfl, HB.out⟩
  have h1' : (x.k == 1) = false := by simpa using h1
  by_cases h5 : x.k = 5
  · have h5' : (x.k == 5) = true := by simpa using h5
    clear h1 h5
    go_enter Try.func27, Try.ntmps27
    go_wp2_with fail
    refine (HO.out _ (((Below.refl _ _).alloc (Nat.le_refl _) _).alloc (by simp) _)).mono ?_
    rintro e w1 ⟨rfl, hb⟩
    have HB := Lib.hid ((((Below.refl w.heap.size w).alloc (Nat.le_refl _) _).alloc (by simp) _).trans (hb.mono (by simp; omega)))
    clear hb HO
    go_wp2_with fail
    go_ret2
    exact ⟨by rw [HZ.out]; rfl, HB.out⟩
  have h5' : (x.k == 5) = false := by simpa using h5
  clear h1 h5
  go_enter Try.func27, Try.ntmps27
  go_wp2_with fail
  refine (HO.out _ (((Below.refl _ _).alloc (Nat.le_refl _) _).alloc (by simp) _)).mono ?_
  rintro e w1 ⟨rfl, hb⟩
  have HB := Lib.hid ((((Below.refl w.heap.size w).alloc (Nat.le_refl _) _).alloc (by simp) _).trans (hb.mono (by simp; omega)))
  clear hb HO
  go_wp2_with fail
  go_ret2
  exact ⟨by rw [HZ.out]; rfl, HB.out⟩
theorem holds_2 (o : Int) (w : World) :
    Calls Try.prog 49 #[.string ⟨#[33, 61]⟩, .int .i64 o] w fun e w' => e = .returned (.tuple #[.bool (o != 0), .bool true]) ∧ w = w' := by
  go_enter Try.func49, Try.ntmps49
  go_wp2
  go_ret2
  exact ⟨rfl, rfl⟩
set_option maxHeartbeats 1000000 in
theorem compare_2 (x y : Val) (fa fb : Bool) (o : Int) (w : World) (hx : FormedIs w x.v fa) (hy : FormedIs w y.v fb) (ho : ∀ W, Below w.heap.size w W → Calls Try.prog 13 #[x.v, y.v] W fun e w' => e = .returned (.int .i64 o) ∧ Below W.heap.size W w') :
    Calls Try.prog 26 #[.string ⟨#[33, 61]⟩, x.v, y.v] w fun e w' => e = .returned (.tuple #[.bool (cmpR fa fb x.k y.k true (o != 0)).1, .int .i64 (cmpR fa fb x.k y.k true (o != 0)).2]) ∧ Below w.heap.size w w' := by
  have HX := Lib.hid hx
  have HY := Lib.hid hy
  have HO := Lib.hid ho
  clear hx hy ho
  unfold Val.v at *
  go_enter Try.func26, Try.ntmps26
  go_wp2_with fail
  generalize hW : World.alloc _ _ = W0
  have HB0 : Hid (Below w.heap.size w W0) := Lib.hid (by rw [← hW]; exact ((Below.refl _ _).alloc (Nat.le_refl _) _).alloc (by simp) _)
  have HK0 : Hid (Blks W0 [(w.heap.size + 1, y), (w.heap.size, x)]) := Lib.hid (by rw [← hW]; exact blks2 w x y)
  clear hW
  refine (HX.out.call _ HB0.out).mono ?_
  rintro e w1 ⟨rfl, hb⟩
  have HB1 := Lib.hid (HB0.out.trans (hb.mono HB0.out.size))
  have HK1 := Lib.hid (HK0.out.below hb)
  clear hb HB0 HK0 HX
  cases fa
  · go_wp2_with fail
    go_ret2
    exact ⟨rfl, HB1.out⟩
  obtain ⟨y0, y1, y2, y3⟩ := HK1.out.at 0 rfl
  go_wp2_with fail
  refine (HY.out.call _ HB1.out).mono ?_
  rintro e w2 ⟨rfl, hb⟩
  have HB2 := Lib.hid (HB1.out.trans (hb.mono HB1.out.size))
  have HK2 := Lib.hid (HK1.out.below hb)
  clear hb HB1 HK1 HY y0 y1 y2 y3
  cases fb
  · go_wp2_with fail
    go_ret2
    exact ⟨rfl, HB2.out⟩
  obtain ⟨y0, y1, y2, y3⟩ := HK2.out.at 0 rfl
  obtain ⟨x0, x1, x2, x3⟩ := HK2.out.at 1 rfl
  go_wp2_with fail
  refine (HO.out _ HB2.out).mono ?_
  rintro e w3 ⟨rfl, hb⟩
  have HB3 := Lib.hid (HB2.out.trans (hb.mono HB2.out.size))
  have HK3 := Lib.hid (HK2.out.below hb)
  clear hb HB2 HK2 HO x0 x1 x2 x3 y0 y1 y2 y3
  obtain ⟨y0, y1, y2, y3⟩ := HK3.out.at 0 rfl
  obtain ⟨x0, x1, x2, x3⟩ := HK3.out.at 1 rfl
  go_wp2_with fail
  refine (holds_2 _ _).mono ?_
  rintro e w' ⟨rfl, rfl⟩
  by_cases h0 : x.k = 0
  · have h0' : (x.k == 0) = true := by simpa using h0
    have HZ := Lib.hid (cmpR_zero (k2 := y.k) (eq := true) (t := (o != 0)) h0')
    clear h0
    go_wp2_with fail
    go_ret2
    exact ⟨by rw [HZ.out]; rfl, HB3.out⟩
  have h0' : (x.k == 0) = false := by simpa using h0
  by_cases hn : x.k = y.k
  case neg =>
    have hn' : (x.k != y.k) = true := by simpa using hn
    have HZ := Lib.hid (cmpR_ne (eq := true) (t := (o != 0)) hn')
    clear h0 hn
    go_wp2_with fail
    go_ret2
    exact ⟨by rw [HZ.out]; rfl, HB3.out⟩
  have hn' : (x.k != y.k) = false := by simpa using hn
  have HZ := Lib.hid (cmpR_eq (t := (o != 0)) h0' hn')
  clear h0 hn
  by_cases h1 : x.k = 1
  · have h1' : (x.k == 1) = true := by simpa using h1
    clear h1
    go_wp2_with fail
    go_ret2
    exact ⟨by rw [HZ.out]; rfl, HB3.out⟩
  have h1' : (x.k == 1) = false := by simpa using h1
  by_cases h5 : x.k = 5
  · have h5' : (x.k == 5) = true := by simpa using h5
    clear h1 h5
    go_wp2_with fail
    go_ret2
    exact ⟨by rw [HZ.out]; rfl, HB3.out⟩
  have h5' : (x.k == 5) = false := by simpa using h5
  clear h1 h5
  go_wp2_with fail
  go_ret2
  exact ⟨by rw [HZ.out]; rfl, HB3.out⟩
set_option maxHeartbeats 1000000 in
theorem refCompare_2 (x y : Val) (c : Int) (w : World) (ho : ∀ W, Below w.heap.size w W → Calls Try.prog 14 #[x.v, y.v] W fun e w' => e = .returned (.int .i64 c) ∧ Below W.heap.size W w') :
    Calls Try.prog 27 #[.string ⟨#[33, 61]⟩, x.v, y.v] w fun e w' => e = .returned (.tuple #[.bool (cmpR true true x.k y.k true (c != 0)).1, .int .i64 (cmpR true true x.k y.k true (c != 0)).2]) ∧ Below w.heap.size w w' := by
  have HO := Lib.hid ho
  clear ho
  unfold Val.v at *
  by_cases h0 : x.k = 0
  · have h0' : (x.k == 0) = true := by simpa using h0
    have HZ := Lib.hid (cmpR_zero (k2 := y.k) (eq := true) (t := (c != 0)) h0')
    clear h0
    go_enter Try.func27, Try.ntmps27
    go_wp2_with fail
    go_ret2
    exact ⟨by rw [HZ.out]; rfl, ((Below.refl _ _).alloc (Nat.le_refl _) _).alloc (by simp) _⟩
  have h0' : (x.k == 0) = false := by simpa using h0
  by_cases hn : x.k = y.k
  case neg =>
    have hn' : (x.k != y.k) = true := by simpa using hn
    have HZ := Lib.hid (cmpR_ne (eq := true) (t := (c != 0)) hn')
    clear h0 hn
    go_enter Try.func27, Try.ntmps27
    go_wp2_with fail
    go_ret2
    exact ⟨by rw [HZ.out]; rfl, ((Below.refl _ _).alloc (Nat.le_refl _) _).alloc (by simp) _⟩
  have hn' : (x.k != y.k) = false := by simpa using hn
  have HZ := Lib.hid (cmpR_eq (t := (c != 0)) h0' hn')
  clear h0 hn
  by_cases h1 : x.k = 1
  · have h1' : (x.k == 1) = true := by simpa using h1
    clear h1
    go_enter Try.func27, Try.ntmps27
    go_wp2_with fail
    refine (HO.out _ (((Below.refl _ _).alloc (Nat.le_refl _) _).alloc (by simp) _)).mono ?_
    rintro e w1 ⟨rfl, hb⟩
    have HB := Lib.hid ((((Below.refl w.heap.size w).alloc (Nat.le_refl _) _).alloc (by simp) _).trans (hb.mono (by simp; omega)))
    clear hb HO
    go_wp2_with fail
    go_ret2
    exact ⟨by rw [HZ.out]; rfl, HB.out⟩
  have h1' : (x.k == 1) = false := by simpa using h1
  by_cases h5 : x.k = 5
  · have h5' : (x.k == 5) = true := by simpa using h5
    clear h1 h5
    go_enter Try.func27, Try.ntmps27
    go_wp2_with fail
    refine (HO.out _ (((Below.refl _ _).alloc (Nat.le_refl _) _).alloc (by simp) _)).mono ?_
    rintro e w1 ⟨rfl, hb⟩
    have HB := Lib.hid ((((Below.refl w.heap.size w).alloc (Nat.le_refl _) _).alloc (by simp) _).trans (hb.mono (by simp; omega)))
    clear hb HO
    go_wp2_with fail
    go_ret2
    exact ⟨by rw [HZ.out]; rfl, HB.out⟩
  have h5' : (x.k == 5) = false := by simpa using h5
  clear h1 h5
  go_enter Try.func27, Try.ntmps27
  go_wp2_with fail
  refine (HO.out _ (((Below.refl _ _).alloc (Nat.le_refl _) _).alloc (by simp) _)).mono ?_
  rintro e w1 ⟨rfl, hb⟩
  have HB := Lib.hid ((((Below.refl w.heap.size w).alloc (Nat.le_refl _) _).alloc (by simp) _).trans (hb.mono (by simp; omega)))
  clear hb HO
  go_wp2_with fail
  go_ret2
  exact ⟨by rw [HZ.out]; rfl, HB.out⟩
theorem holds_3 (o : Int) (w : World) :
    Calls Try.prog 49 #[.string ⟨#[60]⟩, .int .i64 o] w fun e w' => e = .returned (.tuple #[.bool (decide (o < 0)), .bool true]) ∧ w = w' := by
  go_enter Try.func49, Try.ntmps49
  go_wp2
  go_ret2
  exact ⟨rfl, rfl⟩
set_option maxHeartbeats 1000000 in
theorem compare_3 (x y : Val) (fa fb : Bool) (o : Int) (w : World) (hx : FormedIs w x.v fa) (hy : FormedIs w y.v fb) (ho : ∀ W, Below w.heap.size w W → Calls Try.prog 13 #[x.v, y.v] W fun e w' => e = .returned (.int .i64 o) ∧ Below W.heap.size W w') :
    Calls Try.prog 26 #[.string ⟨#[60]⟩, x.v, y.v] w fun e w' => e = .returned (.tuple #[.bool (cmpR fa fb x.k y.k false (decide (o < 0))).1, .int .i64 (cmpR fa fb x.k y.k false (decide (o < 0))).2]) ∧ Below w.heap.size w w' := by
  have HX := Lib.hid hx
  have HY := Lib.hid hy
  have HO := Lib.hid ho
  clear hx hy ho
  unfold Val.v at *
  go_enter Try.func26, Try.ntmps26
  go_wp2_with fail
  generalize hW : World.alloc _ _ = W0
  have HB0 : Hid (Below w.heap.size w W0) := Lib.hid (by rw [← hW]; exact ((Below.refl _ _).alloc (Nat.le_refl _) _).alloc (by simp) _)
  have HK0 : Hid (Blks W0 [(w.heap.size + 1, y), (w.heap.size, x)]) := Lib.hid (by rw [← hW]; exact blks2 w x y)
  clear hW
  refine (HX.out.call _ HB0.out).mono ?_
  rintro e w1 ⟨rfl, hb⟩
  have HB1 := Lib.hid (HB0.out.trans (hb.mono HB0.out.size))
  have HK1 := Lib.hid (HK0.out.below hb)
  clear hb HB0 HK0 HX
  cases fa
  · go_wp2_with fail
    go_ret2
    exact ⟨rfl, HB1.out⟩
  obtain ⟨y0, y1, y2, y3⟩ := HK1.out.at 0 rfl
  go_wp2_with fail
  refine (HY.out.call _ HB1.out).mono ?_
  rintro e w2 ⟨rfl, hb⟩
  have HB2 := Lib.hid (HB1.out.trans (hb.mono HB1.out.size))
  have HK2 := Lib.hid (HK1.out.below hb)
  clear hb HB1 HK1 HY y0 y1 y2 y3
  cases fb
  · go_wp2_with fail
    go_ret2
    exact ⟨rfl, HB2.out⟩
  obtain ⟨y0, y1, y2, y3⟩ := HK2.out.at 0 rfl
  obtain ⟨x0, x1, x2, x3⟩ := HK2.out.at 1 rfl
  go_wp2_with fail
  refine (HO.out _ HB2.out).mono ?_
  rintro e w3 ⟨rfl, hb⟩
  have HB3 := Lib.hid (HB2.out.trans (hb.mono HB2.out.size))
  have HK3 := Lib.hid (HK2.out.below hb)
  clear hb HB2 HK2 HO x0 x1 x2 x3 y0 y1 y2 y3
  obtain ⟨y0, y1, y2, y3⟩ := HK3.out.at 0 rfl
  obtain ⟨x0, x1, x2, x3⟩ := HK3.out.at 1 rfl
  go_wp2_with fail
  refine (holds_3 _ _).mono ?_
  rintro e w' ⟨rfl, rfl⟩
  by_cases h0 : x.k = 0
  · have h0' : (x.k == 0) = true := by simpa using h0
    have HZ := Lib.hid (cmpR_zero (k2 := y.k) (eq := false) (t := (decide (o < 0))) h0')
    clear h0
    go_wp2_with fail
    go_ret2
    exact ⟨by rw [HZ.out]; rfl, HB3.out⟩
  have h0' : (x.k == 0) = false := by simpa using h0
  by_cases hn : x.k = y.k
  case neg =>
    have hn' : (x.k != y.k) = true := by simpa using hn
    have HZ := Lib.hid (cmpR_ne (eq := false) (t := (decide (o < 0))) hn')
    clear h0 hn
    go_wp2_with fail
    go_ret2
    exact ⟨by rw [HZ.out]; rfl, HB3.out⟩
  have hn' : (x.k != y.k) = false := by simpa using hn
  by_cases h1 : x.k = 1
  · have h1' : (x.k == 1) = true := by simpa using h1
    have HZ := Lib.hid (cmpR_type (k2 := y.k) (t := (decide (o < 0))) (.inl h1'))
    clear h0 hn h1
    go_wp2_with fail
    go_ret2
    exact ⟨by rw [HZ.out]; rfl, HB3.out⟩
  have h1' : (x.k == 1) = false := by simpa using h1
  by_cases h5 : x.k = 5
  · have h5' : (x.k == 5) = true := by simpa using h5
    have HZ := Lib.hid (cmpR_type (k2 := y.k) (t := (decide (o < 0))) (.inr h5'))
    clear h0 hn h1 h5
    go_wp2_with fail
    go_ret2
    exact ⟨by rw [HZ.out]; rfl, HB3.out⟩
  have h5' : (x.k == 5) = false := by simpa using h5
  have HZ := Lib.hid (cmpR_yes (t := (decide (o < 0))) h0' hn' h1' h5')
  clear h0 hn h1 h5
  go_wp2_with fail
  go_ret2
  exact ⟨by rw [HZ.out]; rfl, HB3.out⟩
set_option maxHeartbeats 1000000 in
theorem refCompare_3 (x y : Val) (c : Int) (w : World) (ho : ∀ W, Below w.heap.size w W → Calls Try.prog 14 #[x.v, y.v] W fun e w' => e = .returned (.int .i64 c) ∧ Below W.heap.size W w') :
    Calls Try.prog 27 #[.string ⟨#[60]⟩, x.v, y.v] w fun e w' => e = .returned (.tuple #[.bool (cmpR true true x.k y.k false (c == -1)).1, .int .i64 (cmpR true true x.k y.k false (c == -1)).2]) ∧ Below w.heap.size w w' := by
  have HO := Lib.hid ho
  clear ho
  unfold Val.v at *
  by_cases h0 : x.k = 0
  · have h0' : (x.k == 0) = true := by simpa using h0
    have HZ := Lib.hid (cmpR_zero (k2 := y.k) (eq := false) (t := (c == -1)) h0')
    clear h0
    go_enter Try.func27, Try.ntmps27
    go_wp2_with fail
    go_ret2
    exact ⟨by rw [HZ.out]; rfl, ((Below.refl _ _).alloc (Nat.le_refl _) _).alloc (by simp) _⟩
  have h0' : (x.k == 0) = false := by simpa using h0
  by_cases hn : x.k = y.k
  case neg =>
    have hn' : (x.k != y.k) = true := by simpa using hn
    have HZ := Lib.hid (cmpR_ne (eq := false) (t := (c == -1)) hn')
    clear h0 hn
    go_enter Try.func27, Try.ntmps27
    go_wp2_with fail
    go_ret2
    exact ⟨by rw [HZ.out]; rfl, ((Below.refl _ _).alloc (Nat.le_refl _) _).alloc (by simp) _⟩
  have hn' : (x.k != y.k) = false := by simpa using hn
  by_cases h1 : x.k = 1
  · have h1' : (x.k == 1) = true := by simpa using h1
    have HZ := Lib.hid (cmpR_type (k2 := y.k) (t := (c == -1)) (.inl h1'))
    clear h0 hn h1
    go_enter Try.func27, Try.ntmps27
    go_wp2_with fail
    go_ret2
    exact ⟨by rw [HZ.out]; rfl, ((Below.refl _ _).alloc (Nat.le_refl _) _).alloc (by simp) _⟩
  have h1' : (x.k == 1) = false := by simpa using h1
  by_cases h5 : x.k = 5
  · have h5' : (x.k == 5) = true := by simpa using h5
    have HZ := Lib.hid (cmpR_type (k2 := y.k) (t := (c == -1)) (.inr h5'))
    clear h0 hn h1 h5
    go_enter Try.func27, Try.ntmps27
    go_wp2_with fail
    go_ret2
    exact ⟨by rw [HZ.out]; rfl, ((Below.refl _ _).alloc (Nat.le_refl _) _).alloc (by simp) _⟩
  have h5' : (x.k == 5) = false := by simpa using h5
  have HZ := Lib.hid (cmpR_yes (t := (c == -1)) h0' hn' h1' h5')
  clear h0 hn h1 h5
  go_enter Try.func27, Try.ntmps27
  go_wp2_with fail
  refine (HO.out _ (((Below.refl _ _).alloc (Nat.le_refl _) _).alloc (by simp) _)).mono ?_
  rintro e w1 ⟨rfl, hb⟩
  have HB := Lib.hid ((((Below.refl w.heap.size w).alloc (Nat.le_refl _) _).alloc (by simp) _).trans (hb.mono (by simp; omega)))
  clear hb HO
  go_wp2_with fail
  go_ret2
  exact ⟨by rw [HZ.out]; rfl, HB.out⟩
theorem holds_4 (o : Int) (w : World) :
    Calls Try.prog 49 #[.string ⟨#[60, 61]⟩, .int .i64 o] w fun e w' => e = .returned (.tuple #[.bool (decide (o ≤ 0)), .bool true]) ∧ w = w' := by
  go_enter Try.func49, Try.ntmps49
  go_wp2
  go_ret2
  exact ⟨rfl, rfl⟩
set_option maxHeartbeats 1000000 in
theorem compare_4 (x y : Val) (fa fb : Bool) (o : Int) (w : World) (hx : FormedIs w x.v fa) (hy : FormedIs w y.v fb) (ho : ∀ W, Below w.heap.size w W → Calls Try.prog 13 #[x.v, y.v] W fun e w' => e = .returned (.int .i64 o) ∧ Below W.heap.size W w') :
    Calls Try.prog 26 #[.string ⟨#[60, 61]⟩, x.v, y.v] w fun e w' => e = .returned (.tuple #[.bool (cmpR fa fb x.k y.k false (decide (o ≤ 0))).1, .int .i64 (cmpR fa fb x.k y.k false (decide (o ≤ 0))).2]) ∧ Below w.heap.size w w' := by
  have HX := Lib.hid hx
  have HY := Lib.hid hy
  have HO := Lib.hid ho
  clear hx hy ho
  unfold Val.v at *
  go_enter Try.func26, Try.ntmps26
  go_wp2_with fail
  generalize hW : World.alloc _ _ = W0
  have HB0 : Hid (Below w.heap.size w W0) := Lib.hid (by rw [← hW]; exact ((Below.refl _ _).alloc (Nat.le_refl _) _).alloc (by simp) _)
  have HK0 : Hid (Blks W0 [(w.heap.size + 1, y), (w.heap.size, x)]) := Lib.hid (by rw [← hW]; exact blks2 w x y)
  clear hW
  refine (HX.out.call _ HB0.out).mono ?_
  rintro e w1 ⟨rfl, hb⟩
  have HB1 := Lib.hid (HB0.out.trans (hb.mono HB0.out.size))
  have HK1 := Lib.hid (HK0.out.below hb)
  clear hb HB0 HK0 HX
  cases fa
  · go_wp2_with fail
    go_ret2
    exact ⟨rfl, HB1.out⟩
  obtain ⟨y0, y1, y2, y3⟩ := HK1.out.at 0 rfl
  go_wp2_with fail
  refine (HY.out.call _ HB1.out).mono ?_
  rintro e w2 ⟨rfl, hb⟩
  have HB2 := Lib.hid (HB1.out.trans (hb.mono HB1.out.size))
  have HK2 := Lib.hid (HK1.out.below hb)
  clear hb HB1 HK1 HY y0 y1 y2 y3
  cases fb
  · go_wp2_with fail
    go_ret2
    exact ⟨rfl, HB2.out⟩
  obtain ⟨y0, y1, y2, y3⟩ := HK2.out.at 0 rfl
  obtain ⟨x0, x1, x2, x3⟩ := HK2.out.at 1 rfl
  go_wp2_with fail
  refine (HO.out _ HB2.out).mono ?_
  rintro e w3 ⟨rfl, hb⟩
  have HB3 := Lib.hid (HB2.out.trans (hb.mono HB2.out.size))
  have HK3 := Lib.hid (HK2.out.below hb)
  clear hb HB2 HK2 HO x0 x1 x2 x3 y0 y1 y2 y3
  obtain ⟨y0, y1, y2, y3⟩ := HK3.out.at 0 rfl
  obtain ⟨x0, x1, x2, x3⟩ := HK3.out.at 1 rfl
  go_wp2_with fail
  refine (holds_4 _ _).mono ?_
  rintro e w' ⟨rfl, rfl⟩
  by_cases h0 : x.k = 0
  · have h0' : (x.k == 0) = true := by simpa using h0
    have HZ := Lib.hid (cmpR_zero (k2 := y.k) (eq := false) (t := (decide (o ≤ 0))) h0')
    clear h0
    go_wp2_with fail
    go_ret2
    exact ⟨by rw [HZ.out]; rfl, HB3.out⟩
  have h0' : (x.k == 0) = false := by simpa using h0
  by_cases hn : x.k = y.k
  case neg =>
    have hn' : (x.k != y.k) = true := by simpa using hn
    have HZ := Lib.hid (cmpR_ne (eq := false) (t := (decide (o ≤ 0))) hn')
    clear h0 hn
    go_wp2_with fail
    go_ret2
    exact ⟨by rw [HZ.out]; rfl, HB3.out⟩
  have hn' : (x.k != y.k) = false := by simpa using hn
  by_cases h1 : x.k = 1
  · have h1' : (x.k == 1) = true := by simpa using h1
    have HZ := Lib.hid (cmpR_type (k2 := y.k) (t := (decide (o ≤ 0))) (.inl h1'))
    clear h0 hn h1
    go_wp2_with fail
    go_ret2
    exact ⟨by rw [HZ.out]; rfl, HB3.out⟩
  have h1' : (x.k == 1) = false := by simpa using h1
  by_cases h5 : x.k = 5
  · have h5' : (x.k == 5) = true := by simpa using h5
    have HZ := Lib.hid (cmpR_type (k2 := y.k) (t := (decide (o ≤ 0))) (.inr h5'))
    clear h0 hn h1 h5
    go_wp2_with fail
    go_ret2
    exact ⟨by rw [HZ.out]; rfl, HB3.out⟩
  have h5' : (x.k == 5) = false := by simpa using h5
  have HZ := Lib.hid (cmpR_yes (t := (decide (o ≤ 0))) h0' hn' h1' h5')
  clear h0 hn h1 h5
  go_wp2_with fail
  go_ret2
  exact ⟨by rw [HZ.out]; rfl, HB3.out⟩
set_option maxHeartbeats 1000000 in
theorem refCompare_4 (x y : Val) (c : Int) (w : World) (ho : ∀ W, Below w.heap.size w W → Calls Try.prog 14 #[x.v, y.v] W fun e w' => e = .returned (.int .i64 c) ∧ Below W.heap.size W w') :
    Calls Try.prog 27 #[.string ⟨#[60, 61]⟩, x.v, y.v] w fun e w' => e = .returned (.tuple #[.bool (cmpR true true x.k y.k false (c != 1)).1, .int .i64 (cmpR true true x.k y.k false (c != 1)).2]) ∧ Below w.heap.size w w' := by
  have HO := Lib.hid ho
  clear ho
  unfold Val.v at *
  by_cases h0 : x.k = 0
  · have h0' : (x.k == 0) = true := by simpa using h0
    have HZ := Lib.hid (cmpR_zero (k2 := y.k) (eq := false) (t := (c != 1)) h0')
    clear h0
    go_enter Try.func27, Try.ntmps27
    go_wp2_with fail
    go_ret2
    exact ⟨by rw [HZ.out]; rfl, ((Below.refl _ _).alloc (Nat.le_refl _) _).alloc (by simp) _⟩
  have h0' : (x.k == 0) = false := by simpa using h0
  by_cases hn : x.k = y.k
  case neg =>
    have hn' : (x.k != y.k) = true := by simpa using hn
    have HZ := Lib.hid (cmpR_ne (eq := false) (t := (c != 1)) hn')
    clear h0 hn
    go_enter Try.func27, Try.ntmps27
    go_wp2_with fail
    go_ret2
    exact ⟨by rw [HZ.out]; rfl, ((Below.refl _ _).alloc (Nat.le_refl _) _).alloc (by simp) _⟩
  have hn' : (x.k != y.k) = false := by simpa using hn
  by_cases h1 : x.k = 1
  · have h1' : (x.k == 1) = true := by simpa using h1
    have HZ := Lib.hid (cmpR_type (k2 := y.k) (t := (c != 1)) (.inl h1'))
    clear h0 hn h1
    go_enter Try.func27, Try.ntmps27
    go_wp2_with fail
    go_ret2
    exact ⟨by rw [HZ.out]; rfl, ((Below.refl _ _).alloc (Nat.le_refl _) _).alloc (by simp) _⟩
  have h1' : (x.k == 1) = false := by simpa using h1
  by_cases h5 : x.k = 5
  · have h5' : (x.k == 5) = true := by simpa using h5
    have HZ := Lib.hid (cmpR_type (k2 := y.k) (t := (c != 1)) (.inr h5'))
    clear h0 hn h1 h5
    go_enter Try.func27, Try.ntmps27
    go_wp2_with fail
    go_ret2
    exact ⟨by rw [HZ.out]; rfl, ((Below.refl _ _).alloc (Nat.le_refl _) _).alloc (by simp) _⟩
  have h5' : (x.k == 5) = false := by simpa using h5
  have HZ := Lib.hid (cmpR_yes (t := (c != 1)) h0' hn' h1' h5')
  clear h0 hn h1 h5
  go_enter Try.func27, Try.ntmps27
  go_wp2_with fail
  refine (HO.out _ (((Below.refl _ _).alloc (Nat.le_refl _) _).alloc (by simp) _)).mono ?_
  rintro e w1 ⟨rfl, hb⟩
  have HB := Lib.hid ((((Below.refl w.heap.size w).alloc (Nat.le_refl _) _).alloc (by simp) _).trans (hb.mono (by simp; omega)))
  clear hb HO
  go_wp2_with fail
  go_ret2
  exact ⟨by rw [HZ.out]; rfl, HB.out⟩
theorem holds_5 (o : Int) (w : World) :
    Calls Try.prog 49 #[.string ⟨#[62]⟩, .int .i64 o] w fun e w' => e = .returned (.tuple #[.bool (decide (0 < o)), .bool true]) ∧ w = w' := by
  go_enter Try.func49, Try.ntmps49
  go_wp2
  go_ret2
  exact ⟨rfl, rfl⟩
set_option maxHeartbeats 1000000 in
theorem compare_5 (x y : Val) (fa fb : Bool) (o : Int) (w : World) (hx : FormedIs w x.v fa) (hy : FormedIs w y.v fb) (ho : ∀ W, Below w.heap.size w W → Calls Try.prog 13 #[x.v, y.v] W fun e w' => e = .returned (.int .i64 o) ∧ Below W.heap.size W w') :
    Calls Try.prog 26 #[.string ⟨#[62]⟩, x.v, y.v] w fun e w' => e = .returned (.tuple #[.bool (cmpR fa fb x.k y.k false (decide (0 < o))).1, .int .i64 (cmpR fa fb x.k y.k false (decide (0 < o))).2]) ∧ Below w.heap.size w w' := by
  have HX := Lib.hid hx
  have HY := Lib.hid hy
  have HO := Lib.hid ho
  clear hx hy ho
  unfold Val.v at *
  go_enter Try.func26, Try.ntmps26
  go_wp2_with fail
  generalize hW : World.alloc _ _ = W0
  have HB0 : Hid (Below w.heap.size w W0) := Lib.hid (by rw [← hW]; exact ((Below.refl _ _).alloc (Nat.le_refl _) _).alloc (by simp) _)
  have HK0 : Hid (Blks W0 [(w.heap.size + 1, y), (w.heap.size, x)]) := Lib.hid (by rw [← hW]; exact blks2 w x y)
  clear hW
  refine (HX.out.call _ HB0.out).mono ?_
  rintro e w1 ⟨rfl, hb⟩
  have HB1 := Lib.hid (HB0.out.trans (hb.mono HB0.out.size))
  have HK1 := Lib.hid (HK0.out.below hb)
  clear hb HB0 HK0 HX
  cases fa
  · go_wp2_with fail
    go_ret2
    exact ⟨rfl, HB1.out⟩
  obtain ⟨y0, y1, y2, y3⟩ := HK1.out.at 0 rfl
  go_wp2_with fail
  refine (HY.out.call _ HB1.out).mono ?_
  rintro e w2 ⟨rfl, hb⟩
  have HB2 := Lib.hid (HB1.out.trans (hb.mono HB1.out.size))
  have HK2 := Lib.hid (HK1.out.below hb)
  clear hb HB1 HK1 HY y0 y1 y2 y3
  cases fb
  · go_wp2_with fail
    go_ret2
    exact ⟨rfl, HB2.out⟩
  obtain ⟨y0, y1, y2, y3⟩ := HK2.out.at 0 rfl
  obtain ⟨x0, x1, x2, x3⟩ := HK2.out.at 1 rfl
  go_wp2_with fail
  refine (HO.out _ HB2.out).mono ?_
  rintro e w3 ⟨rfl, hb⟩
  have HB3 := Lib.hid (HB2.out.trans (hb.mono HB2.out.size))
  have HK3 := Lib.hid (HK2.out.below hb)
  clear hb HB2 HK2 HO x0 x1 x2 x3 y0 y1 y2 y3
  obtain ⟨y0, y1, y2, y3⟩ := HK3.out.at 0 rfl
  obtain ⟨x0, x1, x2, x3⟩ := HK3.out.at 1 rfl
  go_wp2_with fail
  refine (holds_5 _ _).mono ?_
  rintro e w' ⟨rfl, rfl⟩
  by_cases h0 : x.k = 0
  · have h0' : (x.k == 0) = true := by simpa using h0
    have HZ := Lib.hid (cmpR_zero (k2 := y.k) (eq := false) (t := (decide (0 < o))) h0')
    clear h0
    go_wp2_with fail
    go_ret2
    exact ⟨by rw [HZ.out]; rfl, HB3.out⟩
  have h0' : (x.k == 0) = false := by simpa using h0
  by_cases hn : x.k = y.k
  case neg =>
    have hn' : (x.k != y.k) = true := by simpa using hn
    have HZ := Lib.hid (cmpR_ne (eq := false) (t := (decide (0 < o))) hn')
    clear h0 hn
    go_wp2_with fail
    go_ret2
    exact ⟨by rw [HZ.out]; rfl, HB3.out⟩
  have hn' : (x.k != y.k) = false := by simpa using hn
  by_cases h1 : x.k = 1
  · have h1' : (x.k == 1) = true := by simpa using h1
    have HZ := Lib.hid (cmpR_type (k2 := y.k) (t := (decide (0 < o))) (.inl h1'))
    clear h0 hn h1
    go_wp2_with fail
    go_ret2
    exact ⟨by rw [HZ.out]; rfl, HB3.out⟩
  have h1' : (x.k == 1) = false := by simpa using h1
  by_cases h5 : x.k = 5
  · have h5' : (x.k == 5) = true := by simpa using h5
    have HZ := Lib.hid (cmpR_type (k2 := y.k) (t := (decide (0 < o))) (.inr h5'))
    clear h0 hn h1 h5
    go_wp2_with fail
    go_ret2
    exact ⟨by rw [HZ.out]; rfl, HB3.out⟩
  have h5' : (x.k == 5) = false := by simpa using h5
  have HZ := Lib.hid (cmpR_yes (t := (decide (0 < o))) h0' hn' h1' h5')
  clear h0 hn h1 h5
  go_wp2_with fail
  go_ret2
  exact ⟨by rw [HZ.out]; rfl, HB3.out⟩
set_option maxHeartbeats 1000000 in
theorem refCompare_5 (x y : Val) (c : Int) (w : World) (ho : ∀ W, Below w.heap.size w W → Calls Try.prog 14 #[x.v, y.v] W fun e w' => e = .returned (.int .i64 c) ∧ Below W.heap.size W w') :
    Calls Try.prog 27 #[.string ⟨#[62]⟩, x.v, y.v] w fun e w' => e = .returned (.tuple #[.bool (cmpR true true x.k y.k false (c == 1)).1, .int .i64 (cmpR true true x.k y.k false (c == 1)).2]) ∧ Below w.heap.size w w' := by
  have HO := Lib.hid ho
  clear ho
  unfold Val.v at *
  by_cases h0 : x.k = 0
  · have h0' : (x.k == 0) = true := by simpa using h0
    have HZ := Lib.hid (cmpR_zero (k2 := y.k) (eq := false) (t := (c == 1)) h0')
    clear h0
    go_enter Try.func27, Try.ntmps27
    go_wp2_with fail
    go_ret2
    exact ⟨by rw [HZ.out]; rfl, ((Below.refl _ _).alloc (Nat.le_refl _) _).alloc (by simp) _⟩
  have h0' : (x.k == 0) = false := by simpa using h0
  by_cases hn : x.k = y.k
  case neg =>
    have hn' : (x.k != y.k) = true := by simpa using hn
    have HZ := Lib.hid (cmpR_ne (eq := false) (t := (c == 1)) hn')
    clear h0 hn
    go_enter Try.func27, Try.ntmps27
    go_wp2_with fail
    go_ret2
    exact ⟨by rw [HZ.out]; rfl, ((Below.refl _ _).alloc (Nat.le_refl _) _).alloc (by simp) _⟩
  have hn' : (x.k != y.k) = false := by simpa using hn
  by_cases h1 : x.k = 1
  · have h1' : (x.k == 1) = true := by simpa using h1
    have HZ := Lib.hid (cmpR_type (k2 := y.k) (t := (c == 1)) (.inl h1'))
    clear h0 hn h1
    go_enter Try.func27, Try.ntmps27
    go_wp2_with fail
    go_ret2
    exact ⟨by rw [HZ.out]; rfl, ((Below.refl _ _).alloc (Nat.le_refl _) _).alloc (by simp) _⟩
  have h1' : (x.k == 1) = false := by simpa using h1
  by_cases h5 : x.k = 5
  · have h5' : (x.k == 5) = true := by simpa using h5
    have HZ := Lib.hid (cmpR_type (k2 := y.k) (t := (c == 1)) (.inr h5'))
    clear h0 hn h1 h5
    go_enter Try.func27, Try.ntmps27
    go_wp2_with fail
    go_ret2
    exact ⟨by rw [HZ.out]; rfl, ((Below.refl _ _).alloc (Nat.le_refl _) _).alloc (by simp) _⟩
  have h5' : (x.k == 5) = false := by simpa using h5
  have HZ := Lib.hid (cmpR_yes (t := (c == 1)) h0' hn' h1' h5')
  clear h0 hn h1 h5
  go_enter Try.func27, Try.ntmps27
  go_wp2_with fail
  refine (HO.out _ (((Below.refl _ _).alloc (Nat.le_refl _) _).alloc (by simp) _)).mono ?_
  rintro e w1 ⟨rfl, hb⟩
  have HB := Lib.hid ((((Below.refl w.heap.size w).alloc (Nat.le_refl _) _).alloc (by simp) _).trans (hb.mono (by simp; omega)))
  clear hb HO
  go_wp2_with fail
  go_ret2
  exact ⟨by rw [HZ.out]; rfl, HB.out⟩
theorem holds_6 (o : Int) (w : World) :
    Calls Try.prog 49 #[.string ⟨#[62, 61]⟩, .int .i64 o] w fun e w' => e = .returned (.tuple #[.bool (decide (0 ≤ o)), .bool true]) ∧ w = w' := by
  go_enter Try.func49, Try.ntmps49
  go_wp2
  go_ret2
  exact ⟨rfl, rfl⟩
set_option maxHeartbeats 1000000 in
theorem compare_6 (x y : Val) (fa fb : Bool) (o : Int) (w : World) (hx : FormedIs w x.v fa) (hy : FormedIs w y.v fb) (ho : ∀ W, Below w.heap.size w W → Calls Try.prog 13 #[x.v, y.v] W fun e w' => e = .returned (.int .i64 o) ∧ Below W.heap.size W w') :
    Calls Try.prog 26 #[.string ⟨#[62, 61]⟩, x.v, y.v] w fun e w' => e = .returned (.tuple #[.bool (cmpR fa fb x.k y.k false (decide (0 ≤ o))).1, .int .i64 (cmpR fa fb x.k y.k false (decide (0 ≤ o))).2]) ∧ Below w.heap.size w w' := by
  have HX := Lib.hid hx
  have HY := Lib.hid hy
  have HO := Lib.hid ho
  clear hx hy ho
  unfold Val.v at *
  go_enter Try.func26, Try.ntmps26
  go_wp2_with fail
  generalize hW : World.alloc _ _ = W0
  have HB0 : Hid (Below w.heap.size w W0) := Lib.hid (by rw [← hW]; exact ((Below.refl _ _).alloc (Nat.le_refl _) _).alloc (by simp) _)
  have HK0 : Hid (Blks W0 [(w.heap.size + 1, y), (w.heap.size, x)]) := Lib.hid (by rw [← hW]; exact blks2 w x y)
  clear hW
  refine (HX.out.call _ HB0.out).mono ?_
  rintro e w1 ⟨rfl, hb⟩
  have HB1 := Lib.hid (HB0.out.trans (hb.mono HB0.out.size))
  have HK1 := Lib.hid (HK0.out.below hb)
  clear hb HB0 HK0 HX
  cases fa
  · go_wp2_with fail
    go_ret2
    exact ⟨rfl, HB1.out⟩
  obtain ⟨y0, y1, y2, y3⟩ := HK1.out.at 0 rfl
  go_wp2_with fail
  refine (HY.out.call _ HB1.out).mono ?_
  rintro e w2 ⟨rfl, hb⟩
  have HB2 := Lib.hid (HB1.out.trans (hb.mono HB1.out.size))
  have HK2 := Lib.hid (HK1.out.below hb)
  clear hb HB1 HK1 HY y0 y1 y2 y3
  cases fb
  · go_wp2_with fail
    go_ret2
    exact ⟨rfl, HB2.out⟩
  obtain ⟨y0, y1, y2, y3⟩ := HK2.out.at 0 rfl
  obtain ⟨x0, x1, x2, x3⟩ := HK2.out.at 1 rfl
  go_wp2_with fail
  refine (HO.out _ HB2.out).mono ?_
  rintro e w3 ⟨rfl, hb⟩
  have HB3 := Lib.hid (HB2.out.trans (hb.mono HB2.out.size))
  have HK3 := Lib.hid (HK2.out.below hb)
  clear hb HB2 HK2 HO x0 x1 x2 x3 y0 y1 y2 y3
  obtain ⟨y0, y1, y2, y3⟩ := HK3.out.at 0 rfl
  obtain ⟨x0, x1, x2, x3⟩ := HK3.out.at 1 rfl
  go_wp2_with fail
  refine (holds_6 _ _).mono ?_
  rintro e w' ⟨rfl, rfl⟩
  by_cases h0 : x.k = 0
  · have h0' : (x.k == 0) = true := by simpa using h0
    have HZ := Lib.hid (cmpR_zero (k2 := y.k) (eq := false) (t := (decide (0 ≤ o))) h0')
    clear h0
    go_wp2_with fail
    go_ret2
    exact ⟨by rw [HZ.out]; rfl, HB3.out⟩
  have h0' : (x.k == 0) = false := by simpa using h0
  by_cases hn : x.k = y.k
  case neg =>
    have hn' : (x.k != y.k) = true := by simpa using hn
    have HZ := Lib.hid (cmpR_ne (eq := false) (t := (decide (0 ≤ o))) hn')
    clear h0 hn
    go_wp2_with fail
    go_ret2
    exact ⟨by rw [HZ.out]; rfl, HB3.out⟩
  have hn' : (x.k != y.k) = false := by simpa using hn
  by_cases h1 : x.k = 1
  · have h1' : (x.k == 1) = true := by simpa using h1
    have HZ := Lib.hid (cmpR_type (k2 := y.k) (t := (decide (0 ≤ o))) (.inl h1'))
    clear h0 hn h1
    go_wp2_with fail
    go_ret2
    exact ⟨by rw [HZ.out]; rfl, HB3.out⟩
  have h1' : (x.k == 1) = false := by simpa using h1
  by_cases h5 : x.k = 5
  · have h5' : (x.k == 5) = true := by simpa using h5
    have HZ := Lib.hid (cmpR_type (k2 := y.k) (t := (decide (0 ≤ o))) (.inr h5'))
    clear h0 hn h1 h5
    go_wp2_with fail
    go_ret2
    exact ⟨by rw [HZ.out]; rfl, HB3.out⟩
  have h5' : (x.k == 5) = false := by simpa using h5
  have HZ := Lib.hid (cmpR_yes (t := (decide (0 ≤ o))) h0' hn' h1' h5')
  clear h0 hn h1 h5
  go_wp2_with fail
  go_ret2
  exact ⟨by rw [HZ.out]; rfl, HB3.out⟩
set_option maxHeartbeats 1000000 in
theorem refCompare_6 (x y : Val) (c : Int) (w : World) (ho : ∀ W, Below w.heap.size w W → Calls Try.prog 14 #[x.v, y.v] W fun e w' => e = .returned (.int .i64 c) ∧ Below W.heap.size W w') :
    Calls Try.prog 27 #[.string ⟨#[62, 61]⟩, x.v, y.v] w fun e w' => e = .returned (.tuple #[.bool (cmpR true true x.k y.k false (c != -1)).1, .int .i64 (cmpR true true x.k y.k false (c != -1)).2]) ∧ Below w.heap.size w w' := by
  have HO := Lib.hid ho
  clear ho
  unfold Val.v at *
  by_cases h0 : x.k = 0
  · have h0' : (x.k == 0) = true := by simpa using h0
    have HZ := Lib.hid (cmpR_zero (k2 := y.k) (eq := false) (t := (c != -1)) h0')
    clear h0
    go_enter Try.func27, Try.ntmps27
    go_wp2_with fail
    go_ret2
    exact ⟨by rw [HZ.out]; rfl, ((Below.refl _ _).alloc (Nat.le_refl _) _).alloc (by simp) _⟩
  have h0' : (x.k == 0) = false := by simpa using h0
  by_cases hn : x.k = y.k
  case neg =>
    have hn' : (x.k != y.k) = true := by simpa using hn
    have HZ := Lib.hid (cmpR_ne (eq := false) (t := (c != -1)) hn')
    clear h0 hn
    go_enter Try.func27, Try.ntmps27
    go_wp2_with fail
    go_ret2
    exact ⟨by rw [HZ.out]; rfl, ((Below.refl _ _).alloc (Nat.le_refl _) _).alloc (by simp) _⟩
  have hn' : (x.k != y.k) = false := by simpa using hn
  by_cases h1 : x.k = 1
  · have h1' : (x.k == 1) = true := by simpa using h1
    have HZ := Lib.hid (cmpR_type (k2 := y.k) (t := (c != -1)) (.inl h1'))
    clear h0 hn h1
    go_enter Try.func27, Try.ntmps27
    go_wp2_with fail
    go_ret2
    exact ⟨by rw [HZ.out]; rfl, ((Below.refl _ _).alloc (Nat.le_refl _) _).alloc (by simp) _⟩
  have h1' : (x.k == 1) = false := by simpa using h1
  by_cases h5 : x.k = 5
  · have h5' : (x.k == 5) = true := by simpa using h5
    have HZ := Lib.hid (cmpR_type (k2 := y.k) (t := (c != -1)) (.inr h5'))
    clear h0 hn h1 h5
    go_enter Try.func27, Try.ntmps27
    go_wp2_with fail
    go_ret2
    exact ⟨by rw [HZ.out]; rfl, ((Below.refl _ _).alloc (Nat.le_refl _) _).alloc (by simp) _⟩
  have h5' : (x.k == 5) = false := by simpa using h5
  have HZ := Lib.hid (cmpR_yes (t := (c != -1)) h0' hn' h1' h5')
  clear h0 hn h1 h5
  go_enter Try.func27, Try.ntmps27
  go_wp2_with fail
  refine (HO.out _ (((Below.refl _ _).alloc (Nat.le_refl _) _).alloc (by simp) _)).mono ?_
  rintro e w1 ⟨rfl, hb⟩
  have HB := Lib.hid ((((Below.refl w.heap.size w).alloc (Nat.le_refl _) _).alloc (by simp) _).trans (hb.mono (by simp; omega)))
  clear hb HO
  go_wp2_with fail
  go_ret2
  exact ⟨by rw [HZ.out]; rfl, HB.out⟩
theorem holds_none (op : ByteArray) (o : Int) (w : World) (h1 : (op.toList == [61, 61]) = false) (h2 : (op.toList == [33, 61]) = false) (h3 : (op.toList == [60]) = false) (h4 : (op.toList == [60, 61]) = false) (h5 : (op.toList == [62]) = false) (h6 : (op.toList == [62, 61]) = false) :
    Calls Try.prog 49 #[.string op, .int .i64 o] w fun e w' => e = .returned (.tuple #[.bool false, .bool false]) ∧ w = w' := by
  go_enter Try.func49, Try.ntmps49
  go_wp2
  go_ret2
  exact ⟨rfl, rfl⟩
set_option maxHeartbeats 1000000 in
theorem compare_none (op : ByteArray) (x y : Val) (fa fb : Bool) (o : Int) (w : World) (hx : FormedIs w x.v fa) (hy : FormedIs w y.v fb) (ho : ∀ W, Below w.heap.size w W → Calls Try.prog 13 #[x.v, y.v] W fun e w' => e = .returned (.int .i64 o) ∧ Below W.heap.size W w')
    (h1 : (op.toList == [61, 61]) = false) (h2 : (op.toList == [33, 61]) = false) (h3 : (op.toList == [60]) = false) (h4 : (op.toList == [60, 61]) = false) (h5 : (op.toList == [62]) = false) (h6 : (op.toList == [62, 61]) = false) :
    Calls Try.prog 26 #[.string op, x.v, y.v] w fun e w' => e = .returned (.tuple #[.bool false, .int .i64 1]) ∧ Below w.heap.size w w' := by
  have HX := Lib.hid hx
  have HY := Lib.hid hy
  have HO := Lib.hid ho
  have HH := Lib.hid (fun o W => holds_none op o W h1 h2 h3 h4 h5 h6)
  clear hx hy ho h1 h2 h3 h4 h5 h6
  unfold Val.v at *
  go_enter Try.func26, Try.ntmps26
  go_wp2_with fail
  generalize hW : World.alloc _ _ = W0
  have HB0 : Hid (Below w.heap.size w W0) := Lib.hid (by rw [← hW]; exact ((Below.refl _ _).alloc (Nat.le_refl _) _).alloc (by simp) _)
  have HK0 : Hid (Blks W0 [(w.heap.size + 1, y), (w.heap.size, x)]) := Lib.hid (by rw [← hW]; exact blks2 w x y)
  clear hW
  refine (HX.out.call _ HB0.out).mono ?_
  rintro e w1 ⟨rfl, hb⟩
  have HB1 := Lib.hid (HB0.out.trans (hb.mono HB0.out.size))
  have HK1 := Lib.hid (HK0.out.below hb)
  clear hb HB0 HK0 HX
  cases fa
  · go_wp2_with fail
    go_ret2
    exact ⟨rfl, HB1.out⟩
  obtain ⟨y0, y1, y2, y3⟩ := HK1.out.at 0 rfl
  go_wp2_with fail
  refine (HY.out.call _ HB1.out).mono ?_
  rintro e w2 ⟨rfl, hb⟩
  have HB2 := Lib.hid (HB1.out.trans (hb.mono HB1.out.size))
  have HK2 := Lib.hid (HK1.out.below hb)
  clear hb HB1 HK1 HY y0 y1 y2 y3
  cases fb
  · go_wp2_with fail
    go_ret2
    exact ⟨rfl, HB2.out⟩
  obtain ⟨y0, y1, y2, y3⟩ := HK2.out.at 0 rfl
  obtain ⟨x0, x1, x2, x3⟩ := HK2.out.at 1 rfl
  go_wp2_with fail
  refine (HO.out _ HB2.out).mono ?_
  rintro e w3 ⟨rfl, hb⟩
  have HB3 := Lib.hid (HB2.out.trans (hb.mono HB2.out.size))
  have HK3 := Lib.hid (HK2.out.below hb)
  clear hb HB2 HK2 HO x0 x1 x2 x3 y0 y1 y2 y3
  obtain ⟨y0, y1, y2, y3⟩ := HK3.out.at 0 rfl
  obtain ⟨x0, x1, x2, x3⟩ := HK3.out.at 1 rfl
  go_wp2_with fail
  refine (HH.out _ _).mono ?_
  rintro e w' ⟨rfl, rfl⟩
  clear HH x0 x1 x2 x3 y0 y1 y2 y3
  go_wp2_with fail
  go_ret2
  exact ⟨rfl, HB3.out⟩
end Go.Proofs.Ytcgbodbjjfngpaa
