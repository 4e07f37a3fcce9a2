/- Whether a value is one of a bag's. -/
import Derived.Test.YtcgbodbjjfngpaaVSearch
import Derived.Test.YtcgbodbjjfngpaaVBlks
import Derived.Test.YtcgbodbjjfngpaaVAdd
namespace Go.Proofs.Ytcgbodbjjfngpaa
open Go.RowKit

/-- in it, or an error: as the program tells -/
def inR (fa fb : Bool) (x y : Val) (l : List Val) : Bool × Int :=
  if (!fa || !fb) = true then (false, 1) else if (y.k != 5 || (x.k == 0 || x.k == 5)) = true then (false, 6) else if (decide (0 < l.length) && l[0]!.k != x.k) = true then (false, 6) else (l.any (fun e => e.ord x == 0), 0)
theorem inR_bag {x y : Val} {l : List Val} (h : (y.k != 5) = true) : inR true true x y l = (false, 6) := by simp [inR, h]
theorem inR_zero {x y : Val} {l : List Val} (h : (x.k == 0) = true) : inR true true x y l = (false, 6) := by simp [inR, h]
theorem inR_five {x y : Val} {l : List Val} (h : (x.k == 5) = true) : inR true true x y l = (false, 6) := by simp [inR, h]
theorem inR_kind {x y : Val} {l : List Val} (h : 0 < l.length) (h' : (l[0]!.k != x.k) = true) : inR true true x y l = (false, 6) := by
  unfold inR; rw [decide_eq_true h, h']; simp
theorem inR_yes {x y : Val} {l : List Val} (h1 : (y.k != 5) = false) (h2 : (x.k == 0) = false) (h3 : (x.k == 5) = false) (h : ¬ 0 < l.length ∨ (l[0]!.k != x.k) = false) : inR true true x y l = (l.any (fun e => e.ord x == 0), 0) := by
  unfold inR
  rw [h1, h2, h3]
  rcases h with h | h
  · rw [decide_eq_false h]; simp
  · rw [h]; simp
set_option maxHeartbeats 2000000 in
theorem in_any (x y : Val) (ly : List Val) (fa fb : Bool) (w : World) (hx : FormedIs w x.v fa) (hy : FormedIs w y.v fb) (hl : Full w y ly) (hr : fb = true → y.k = 5 → Rising ly ∧ ly.length ≤ 16) :
    Calls Try.prog 25 #[x.v, y.v] w fun e w' => e = .returned (.tuple #[.bool (inR fa fb x y ly).1, .int .i64 (inR fa fb x y ly).2]) ∧ Below w.heap.size w w' := by
  have HX := Lib.hid hx
  have HY := Lib.hid hy
  have HL := Lib.hid hl
  have HR := Lib.hid hr
  have hmy := hl.most
  unfold maxLen at hmy
  clear hx hy hl hr
  unfold Val.v at *
  go_enter Try.func25, Try.ntmps25
  go_wp2_with fail
  generalize hW : World.alloc _ _ = W0
  have HB0 : Hid (Below w.heap.size w W0) := Lib.hid (by rw [← hW]; exact ((Below.refl _ _).alloc (Nat.le_refl _) _).alloc (by simp) _)
  have HK0 : Hid (Blks W0 [(w.heap.size + 1, y), (w.heap.size, x)]) := Lib.hid (by rw [← hW]; exact blks2 w x y)
  clear hW
  refine (HX.out.call _ HB0.out).mono ?_
  rintro e w1 ⟨rfl, hb⟩
  have HB1 := Lib.hid (HB0.out.trans (hb.mono HB0.out.size))
  have HK1 := Lib.hid (HK0.out.below hb)
  clear hb HB0 HK0 HX
  cases fa
  · go_wp2_with fail
    go_ret2
    exact ⟨rfl, HB1.out⟩
  obtain ⟨y0, y1, y2, y3⟩ := HK1.out.at 0 rfl
  go_wp2_with fail
  refine (HY.out.call _ HB1.out).mono ?_
  rintro e w2 ⟨rfl, hb⟩
  have HB2 := Lib.hid (HB1.out.trans (hb.mono HB1.out.size))
  have HK2 := Lib.hid (HK1.out.below hb)
  clear hb HB1 HK1 HY y0 y1 y2 y3
  cases fb
  · go_wp2_with fail
    go_ret2
    exact ⟨rfl, HB2.out⟩
  obtain ⟨y0, y1, y2, y3⟩ := HK2.out.at 0 rfl
  obtain ⟨x0, x1, x2, x3⟩ := HK2.out.at 1 rfl
  by_cases h5 : y.k = 5
  case neg =>
    have h5' : (y.k != 5) = true := by simpa using h5
    have HZ := Lib.hid (inR_bag (x := x) (l := ly) h5')
    clear h5
    go_wp2_with fail
    go_ret2
    exact ⟨by rw [HZ.out]; rfl, HB2.out⟩
  have hr := HR.out rfl h5
  have HRi := Lib.hid hr.1
  have H16 := Lib.hid hr.2
  have h5' : (y.k != 5) = false := by simpa using h5
  clear h5 HR hr
  by_cases k0 : x.k = 0
  · have k0' : (x.k == 0) = true := by simpa using k0
    have HZ := Lib.hid (inR_zero (y := y) (l := ly) k0')
    clear k0
    go_wp2_with fail
    go_ret2
    exact ⟨by rw [HZ.out]; rfl, HB2.out⟩
  have k0' : (x.k == 0) = false := by simpa using k0
  by_cases k5 : x.k = 5
  · have k5' : (x.k == 5) = true := by simpa using k5
    have HZ := Lib.hid (inR_five (y := y) (l := ly) k5')
    clear k0 k5
    go_wp2_with fail
    go_ret2
    exact ⟨by rw [HZ.out]; rfl, HB2.out⟩
  have k5' : (x.k == 5) = false := by simpa using k5
  clear k0 k5
  go_wp2_with fail
  clear x0 x1 x2 x3 y0 y1 y2 y3
  have x0 := fun m : Bl w2 => ((HK2.out.below m.below).at 1 rfl).1
  have y3 := fun m : Bl w2 => ((HK2.out.below m.below).at 0 rfl).2.2.2
  by_cases hne : 0 < ly.length
  · have hn : 0 < y.n := by have := HL.out.len; omega
    obtain ⟨g, o, hlist⟩ := HL.out.list
    have had := hlist.at' (by intro e; subst e; simp at hne)
    rw [had] at y3
    have z0 := fun m : Bl w2 => ((hlist.below HB2.out).below m.below).c0 0 hne
    simp only [Nat.zero_mul, Nat.add_zero] at z0
    rw [← getElem!_pos ly 0 hne] at z0
    obtain ⟨k1, hk1⟩ : ∃ k1, ly[0]!.k = k1 := ⟨_, rfl⟩
    rw [hk1] at z0
    have HK1 := Lib.hid hk1
    have HLI := Lib.hid hlist
    clear hk1 hlist had
    by_cases hkk : k1 = x.k
    case neg =>
      have hkk' : (k1 != x.k) = true := by simpa using hkk
      have HZ := Lib.hid (inR_kind (x := x) (y := y) hne (by rw [HK1.out]; exact hkk'))
      clear hkk
      refine wp_region_quiet_tailB 13 (by kernel_rfl) (by kernel_rfl) ?_
      simp only [List.take_succ_cons, List.take_zero, List.drop_succ_cons, List.drop_zero]
      iterate 13 (go_big_quiet_step (fail))
      refine wpQuiet_nil ?_
      intro m
      have HBM := Lib.hid (HB2.out.trans (m.below.mono HB2.out.size))
      clear x0 y3 z0
      go_wp2_with fail
      go_ret2
      exact ⟨by rw [HZ.out]; rfl, HBM.out⟩
    have hkk' : (k1 != x.k) = false := by simpa using hkk
    obtain ⟨p, hsp⟩ := spot_exists ly x HRi.out
    have HZ := Lib.hid ((inR_yes (x := x) h5' k0' k5' (.inr (by rw [HK1.out]; exact hkk'))).trans (by rw [← found_any HRi.out hsp]))
    have F : Hid (∀ W, Below w.heap.size w W → Calls Try.prog 39 #[.slice y.a y.n y.c, V x.k x.i x.s x.a x.n x.c, .func (.func 36) #[] #[]] W
      fun e w' => e = .returned (.tuple #[.int .i64 (p : Int), .bool (foundAt ly x p)]) ∧ Below W.heap.size W w') := Lib.hid (by
      intro W hW
      rw [← HL.out.len]
      exact search_any W ly y.a g o y.c x p (HLI.out.below hW) hsp (by have := H16.out; omega))
    clear hkk hsp
    refine wp_region_quiet_tailB 13 (by kernel_rfl) (by kernel_rfl) ?_
    simp only [List.take_succ_cons, List.take_zero, List.drop_succ_cons, List.drop_zero]
    iterate 13 (go_big_quiet_step (fail))
    refine wpQuiet_nil ?_
    intro m
    have HBM := Lib.hid (HB2.out.trans (m.below.mono HB2.out.size))
    have HKM := Lib.hid (HK2.out.below m.below)
    clear x0 y3 z0 HB2 HK2
    generalize m.wr = w3 at *
    obtain ⟨y0, y1, y2, y3⟩ := HKM.out.at 0 rfl
    obtain ⟨x0, x1, x2, x3⟩ := HKM.out.at 1 rfl
    go_wp2_with fail
    refine (F.out _ HBM.out).mono ?_
    rintro e w4 ⟨rfl, hb⟩
    have HB4 := Lib.hid (HBM.out.trans (hb.mono HBM.out.size))
    clear hb HBM HKM F x0 x1 x2 x3 y0 y1 y2 y3
    go_wp2_with fail
    go_ret2
    exact ⟨by rw [HZ.out]; rfl, HB4.out⟩
  · have hn : ¬ 0 < y.n := by have := HL.out.len; omega
    have hnil : ly = [] := by cases ly with | nil => rfl | cons a b => simp at hne
    have hsp : Spot ly x 0 := ⟨Nat.zero_le _, (fun j h _ => absurd h (by omega)), (fun j h _ => absurd h (by omega))⟩
    have HZ := Lib.hid ((inR_yes (x := x) h5' k0' k5' (.inl hne)).trans (by rw [← found_any HRi.out hsp]))
    obtain ⟨g, o, hlist⟩ := HL.out.list
    have F : Hid (∀ W, Below w.heap.size w W → Calls Try.prog 39 #[.slice y.a y.n y.c, V x.k x.i x.s x.a x.n x.c, .func (.func 36) #[] #[]] W
      fun e w' => e = .returned (.tuple #[.int .i64 ((0 : Nat) : Int), .bool (foundAt ly x 0)]) ∧ Below W.heap.size W w') := Lib.hid (by
      intro W hW
      rw [← HL.out.len]
      exact search_any W ly y.a g o y.c x 0 (hlist.below hW) hsp (by omega))
    clear hlist hsp hnil
    refine wp_region_quiet_tailB 13 (by kernel_rfl) (by kernel_rfl) ?_
    simp only [List.take_succ_cons, List.take_zero, List.drop_succ_cons, List.drop_zero]
    iterate 13 (go_big_quiet_step (fail))
    refine wpQuiet_nil ?_
    intro m
    have HBM := Lib.hid (HB2.out.trans (m.below.mono HB2.out.size))
    have HKM := Lib.hid (HK2.out.below m.below)
    clear x0 y3 HB2 HK2
    generalize m.wr = w3 at *
    obtain ⟨y0, y1, y2, y3⟩ := HKM.out.at 0 rfl
    obtain ⟨x0, x1, x2, x3⟩ := HKM.out.at 1 rfl
    go_wp2_with fail
    refine (F.out _ HBM.out).mono ?_
    rintro e w4 ⟨rfl, hb⟩
    have HB4 := Lib.hid (HBM.out.trans (hb.mono HBM.out.size))
    clear hb HBM HKM F x0 x1 x2 x3 y0 y1 y2 y3
    go_wp2_with fail
    go_ret2
    exact ⟨by rw [HZ.out]; rfl, HB4.out⟩
end Go.Proofs.Ytcgbodbjjfngpaa
