/- P2.2: whether one value is in a bag: the walk of the law. -/
import Derived.Test.YtcgbodbjjfngpaaVIn
import Derived.Test.YtcgbodbjjfngpaaVAwake
namespace Go.Proofs.Ytcgbodbjjfngpaa
open Go.RowKit

theorem Full.formedIs {w : World} {x : Val} {l : List Val} (h : Full w x l) : FormedIs w x.v (x.formed l) := ⟨fun W hW => formed_any W x l (h.below hW)⟩
theorem full_alone {w : World} {x : Val} (h : x.alone = true) (hs : x.s.size ≤ maxLen) : Full w x [] :=
  ⟨⟨0, 0, fun h => absurd rfl h, (fun j hj => absurd hj (by simp)), (fun j hj => absurd hj (by simp)), (fun j hj => absurd hj (by simp)), (fun j hj => absurd hj (by simp)), (fun x hx => by cases hx)⟩, by rw [(alone_parts h).1]; rfl, hs, by rw [(alone_parts h).1]; exact Nat.zero_le _⟩
theorem any_snoc {α : Type} (f : α → Bool) (l : List α) (k : Nat) (hk : k < l.length) : (l.take (k + 1)).any f = ((l.take k).any f || f l[k]) := by
  rw [List.take_succ_eq_append_getElem hk, List.any_append]; simp
set_option maxRecDepth 100000 in
set_option maxHeartbeats 4000000 in
theorem in_small (w : World) (x y : Val) (lx ly : List Val) (hx : Full w x lx) (hy : Full w y ly) (hsm : (small x lx && small y ly) = true) :
    Calls Try.prog 6 #[x.v, y.v] w fun e w' => e = .returned (.bool true) ∧ Below w.heap.size w w' := by
  have HTw : Hid (∀ W, Below w.heap.size w W → Calls Try.prog 10 #[V x.k x.i x.s x.a x.n x.c, V y.k y.i y.s y.a y.n y.c] W fun e w' => e = .returned (.bool true) ∧ Below W.heap.size W w') := Lib.hid (by
    intro W hW; rw [← hsm]; exact two_any W x y lx ly (hx.below hW) (hy.below hW))
  obtain ⟨fa, hfa⟩ : ∃ fa, x.formed lx = fa := ⟨_, rfl⟩
  obtain ⟨fb, hfb⟩ : ∃ fb, y.formed ly = fb := ⟨_, rfl⟩
  have hbag : fb = true → y.k = 5 → listB ly = true := fun h1 h2 => by
    rcases formed_cases (hfb.trans h1) with ⟨_, _, _, h⟩ | ⟨h, _⟩
    · exact h
    · exact absurd h2 h
  obtain ⟨r1, r2, hr⟩ : ∃ r1 r2, inR fa fb x y ly = (r1, r2) := ⟨_, _, rfl⟩
  have HIn : Hid (∀ W, Below w.heap.size w W → Calls Try.prog 25 #[V x.k x.i x.s x.a x.n x.c, V y.k y.i y.s y.a y.n y.c] W fun e w' => e = .returned (.tuple #[.bool r1, .int .i64 r2]) ∧ Below W.heap.size W w') := Lib.hid (by
    intro W hW
    have h := in_any x y ly fa fb W (hfa ▸ (hx.below hW).formedIs) (hfb ▸ (hy.below hW).formedIs) (hy.below hW) (fun h1 h2 => ⟨rising_bag (hbag h1 h2), by have := hbag h1 h2; unfold listB at this; rw [Bool.and_eq_true] at this; exact of_decide_eq_true this.1⟩)
    rw [hr] at h; exact h)
  have HRx : Hid (∀ W, Below w.heap.size w W → Calls Try.prog 12 #[V x.k x.i x.s x.a x.n x.c] W fun e w' => e = .returned (.bool fa) ∧ Below W.heap.size W w') := Lib.hid (by
    intro W hW; rw [← hfa]; exact refFormed_any W x lx (hx.below hW))
  have HRy : Hid (∀ W, Below w.heap.size w W → Calls Try.prog 12 #[V y.k y.i y.s y.a y.n y.c] W fun e w' => e = .returned (.bool fb) ∧ Below W.heap.size W w') := Lib.hid (by
    intro W hW; rw [← hfb]; exact refFormed_any W y ly (hy.below hW))
  have Hr := Lib.hid hr
  have HX := Lib.hid hx
  have HY := Lib.hid hy
  have Hfa := Lib.hid hfa
  have Hbag := Lib.hid hbag
  have hmy := hy.most
  unfold maxLen at hmy
  clear hr hx hy hfa hfb hbag hsm
  unfold Val.v
  go_enter Try.func6, Try.ntmps6
  go_wp2_with fail
  generalize hW : World.alloc _ _ = W0
  have HB0 : Hid (Below w.heap.size w W0) := Lib.hid (by rw [← hW]; exact ((Below.refl _ _).alloc (Nat.le_refl _) _).alloc (by simp) _)
  have HK0 : Hid (Blks W0 [(w.heap.size + 1, y), (w.heap.size, x)]) := Lib.hid (by rw [← hW]; exact blks2 w x y)
  clear hW
  refine (awake_any W0).mono ?_
  rintro e w1 ⟨rfl, hb⟩
  have HB1 := Lib.hid (HB0.out.trans (hb.mono HB0.out.size))
  have HK1 := Lib.hid (HK0.out.below hb)
  clear hb HB0 HK0
  obtain ⟨y0, y1, y2, y3⟩ := HK1.out.at 0 rfl
  obtain ⟨x0, x1, x2, x3⟩ := HK1.out.at 1 rfl
  go_wp2_with fail
  refine (HTw.out _ HB1.out).mono ?_
  rintro e w2 ⟨rfl, hb⟩
  have HB2 := Lib.hid (HB1.out.trans (hb.mono HB1.out.size))
  have HK2 := Lib.hid (HK1.out.below hb)
  clear hb HB1 HK1 x0 x1 x2 x3 y0 y1 y2 y3 HTw
  obtain ⟨y0, y1, y2, y3⟩ := HK2.out.at 0 rfl
  obtain ⟨x0, x1, x2, x3⟩ := HK2.out.at 1 rfl
  go_wp2_with fail
  refine (HIn.out _ HB2.out).mono ?_
  rintro e w3 ⟨rfl, hb⟩
  have HB3 := Lib.hid (HB2.out.trans (hb.mono HB2.out.size))
  have HK3 := Lib.hid (HK2.out.below hb)
  clear hb HB2 HK2 HIn x0 x1 x2 x3 y0 y1 y2 y3
  obtain ⟨x0, x1, x2, x3⟩ := HK3.out.at 1 rfl
  go_wp2_with fail
  refine (HRx.out _ HB3.out).mono ?_
  rintro e w4 ⟨rfl, hb⟩
  have HB4 := Lib.hid (HB3.out.trans (hb.mono HB3.out.size))
  have HK4 := Lib.hid (HK3.out.below hb)
  clear hb HB3 HK3 HRx x0 x1 x2 x3
  cases fa
  · have hr := Hr.out
    simp only [inR, Bool.not_false, Bool.true_or, if_true, Prod.mk.injEq] at hr
    obtain ⟨rfl, rfl⟩ := hr
    go_wp2_with fail
    go_ret
    exact ⟨rfl, HB4.out⟩
  obtain ⟨y0, y1, y2, y3⟩ := HK4.out.at 0 rfl
  go_wp2_with fail
  refine (HRy.out _ HB4.out).mono ?_
  rintro e w5 ⟨rfl, hb⟩
  have HB5 := Lib.hid (HB4.out.trans (hb.mono HB4.out.size))
  have HK5 := Lib.hid (HK4.out.below hb)
  clear hb HB4 HK4 HRy y0 y1 y2 y3
  cases fb
  · have hr := Hr.out
    simp only [inR, Bool.not_false, Bool.or_true, if_true, Prod.mk.injEq] at hr
    obtain ⟨rfl, rfl⟩ := hr
    go_wp2_with fail
    go_ret
    exact ⟨rfl, HB5.out⟩
  go_wp2_with fail
  have x0 := fun m : Bl w5 => ((HK5.out.below m.below).at 1 rfl).1
  have y0 := fun m : Bl w5 => ((HK5.out.below m.below).at 0 rfl).1
  have y3 := fun m : Bl w5 => ((HK5.out.below m.below).at 0 rfl).2.2.2
  by_cases h5 : y.k = 5
  case neg =>
    have h5' : (y.k != 5) = true := by simpa using h5
    have hr := Hr.out
    rw [inR_bag h5', Prod.mk.injEq] at hr
    obtain ⟨rfl, rfl⟩ := hr
    clear h5
    refine wp_region_quietB (by kernel_rfl) (by kernel_rfl) ?_
    iterate 29 (go_big_quiet_step (fail))
    refine wpQuiet_nil ?_
    intro m
    have HBM := Lib.hid (HB5.out.trans (m.below.mono HB5.out.size))
    clear x0 y0 y3
    go_wp2_with fail
    go_ret
    exact ⟨rfl, HBM.out⟩
  have h5' : (y.k != 5) = false := by simpa using h5
  have HBG := Lib.hid (Hbag.out (by first | rfl | trivial) h5)
  clear h5 Hbag
  by_cases k0 : x.k = 0
  · have k0' : (x.k == 0) = true := by simpa using k0
    have hr := Hr.out
    rw [inR_zero k0', Prod.mk.injEq] at hr
    obtain ⟨rfl, rfl⟩ := hr
    clear k0
    refine wp_region_quietB (by kernel_rfl) (by kernel_rfl) ?_
    iterate 29 (go_big_quiet_step (fail))
    refine wpQuiet_nil ?_
    intro m
    have HBM := Lib.hid (HB5.out.trans (m.below.mono HB5.out.size))
    clear x0 y0 y3
    go_wp2_with fail
    go_ret
    exact ⟨rfl, HBM.out⟩
  have k0' : (x.k == 0) = false := by simpa using k0
  by_cases k5 : x.k = 5
  · have k5' : (x.k == 5) = true := by simpa using k5
    have hr := Hr.out
    rw [inR_five k5', Prod.mk.injEq] at hr
    obtain ⟨rfl, rfl⟩ := hr
    clear k0 k5
    refine wp_region_quietB (by kernel_rfl) (by kernel_rfl) ?_
    iterate 29 (go_big_quiet_step (fail))
    refine wpQuiet_nil ?_
    intro m
    have HBM := Lib.hid (HB5.out.trans (m.below.mono HB5.out.size))
    clear x0 y0 y3
    go_wp2_with fail
    go_ret
    exact ⟨rfl, HBM.out⟩
  have k5' : (x.k == 5) = false := by simpa using k5
  have hxal : x.alone = true := by
    rcases formed_cases Hfa.out with ⟨h, _⟩ | ⟨_, h⟩
    · exact absurd h k5
    · exact h
  have HXal := Lib.hid hxal
  have hxk := Lib.hid k5
  clear k0 k5 hxal
  obtain ⟨g, o, hlist⟩ := HY.out.list
  have HLI := Lib.hid hlist
  clear hlist
  have hny := HY.out.len
  have HNY := Lib.hid hny
  have hcase : (0 < ly.length ∧ (ly[0]!.k != x.k) = true) ∨ (¬ 0 < ly.length ∨ (0 < ly.length ∧ (ly[0]!.k != x.k) = false)) := by
    by_cases h1 : 0 < ly.length
    · cases h2 : (ly[0]!.k != x.k)
      · exact .inr (.inr ⟨h1, rfl⟩)
      · exact .inl ⟨h1, rfl⟩
    · exact .inr (.inl h1)
  rcases hcase with ⟨hne, hkk⟩ | hcase
  · have hr := Hr.out
    rw [inR_kind hne hkk, Prod.mk.injEq] at hr
    obtain ⟨rfl, rfl⟩ := hr
    have hn : 0 < y.n := by omega
    have had := HLI.out.at' (by intro e; subst e; simp at hne)
    rw [had] at y3
    have z0 := fun m : Bl w5 => ((HLI.out.below HB5.out).below m.below).c0 0 hne
    simp only [Nat.zero_mul, Nat.add_zero] at z0
    rw [← getElem!_pos ly 0 hne] at z0
    generalize ly[0]!.k = k1 at *
    clear had hny
    refine wp_region_quietB (by kernel_rfl) (by kernel_rfl) ?_
    iterate 29 (go_big_quiet_step (fail))
    refine wpQuiet_nil ?_
    intro m
    have HBM := Lib.hid (HB5.out.trans (m.below.mono HB5.out.size))
    clear x0 y0 y3 z0
    go_wp2_with fail
    go_ret
    exact ⟨rfl, HBM.out⟩
  have hr := Hr.out
  rw [inR_yes h5' k0' k5' (hcase.imp id And.right), Prod.mk.injEq] at hr
  obtain ⟨hr1, rfl⟩ := hr
  have HR1 := Lib.hid hr1
  clear hr1 Hr
  rcases hcase with hne | ⟨hne, hkk⟩
  · have hn : ¬ 0 < y.n := by omega
    refine wp_region_quietB (by kernel_rfl) (by kernel_rfl) ?_
    iterate 29 (go_big_quiet_step (fail))
    refine wpQuiet_nil ?_
    intro m
    have HB6 := Lib.hid (HB5.out.trans (m.below.mono HB5.out.size))
    have HK6 := Lib.hid (HK5.out.below m.below)
    clear HB5 HK5 x0 y0 y3 hny
    generalize m.wr = w6 at *
    clear m
    go_wp2_with fail
    go_loopw [7, 8] (fun f i wr => ∃ k : Nat, k ≤ ly.length ∧ i = .int .i64 k ∧ f = .bool ((ly.take k).any (fun e => e.ord x == 0)) ∧ Hid (Below w6.heap.size w6 wr)) (fun _ i _ => ly.length - (intOf i).toNat)
    case atStart => exact ⟨0, by omega, rfl, rfl, Lib.hid (Below.refl _ _)⟩
    case round =>
      obtain ⟨k, hk, rfl, rfl, HB⟩ := hrel
      have HBw := Lib.hid (HB6.out.trans (HB.out.mono HB6.out.size))
      have HKw := Lib.hid (HK6.out.below HB.out)
      obtain ⟨y0, y1, y2, y3⟩ := HKw.out.at 0 rfl
      by_cases hlt : k < ly.length
      · exact absurd hlt (by omega)
      · have hltn : ¬ k < y.n := by have := HNY.out; omega
        have hall : ly.take k = ly := List.take_of_length_le (by omega)
        rw [hall, HR1.out]
        clear hall
        go_wp2_with fail
        go_ret
        exact ⟨by cases r1 <;> rfl, HBw.out⟩
  · have hn : 0 < y.n := by omega
    have had := HLI.out.at' (by intro e; subst e; simp at hne)
    rw [had] at y3
    have z0 := fun m : Bl w5 => ((HLI.out.below HB5.out).below m.below).c0 0 hne
    simp only [Nat.zero_mul, Nat.add_zero] at z0
    rw [← getElem!_pos ly 0 hne] at z0
    obtain ⟨k1, hk1⟩ : ∃ k1, ly[0]!.k = k1 := ⟨_, rfl⟩
    rw [hk1] at z0 hkk
    clear had hk1
    refine wp_region_quietB (by kernel_rfl) (by kernel_rfl) ?_
    iterate 29 (go_big_quiet_step (fail))
    clear z0
    refine wpQuiet_nil ?_
    intro m
    have HB6 := Lib.hid (HB5.out.trans (m.below.mono HB5.out.size))
    have HK6 := Lib.hid (HK5.out.below m.below)
    clear HB5 HK5 x0 y0 y3 hny
    generalize m.wr = w6 at *
    clear m
    go_wp2_with fail
    go_loopw [7, 8] (fun f i wr => ∃ k : Nat, k ≤ ly.length ∧ i = .int .i64 k ∧ f = .bool ((ly.take k).any (fun e => e.ord x == 0)) ∧ Hid (Below w6.heap.size w6 wr)) (fun _ i _ => ly.length - (intOf i).toNat)
    case atStart => exact ⟨0, by omega, rfl, rfl, Lib.hid (Below.refl _ _)⟩
    case round =>
      obtain ⟨k, hk, rfl, rfl, HB⟩ := hrel
      have HBw := Lib.hid (HB6.out.trans (HB.out.mono HB6.out.size))
      have HKw := Lib.hid (HK6.out.below HB.out)
      obtain ⟨y0, y1, y2, y3⟩ := HKw.out.at 0 rfl
      by_cases hlt : k < ly.length
      · have hltn : k < y.n := by have := HNY.out; omega
        have had := HLI.out.at' (by intro e; subst e; simp at hlt)
        have hsn := any_snoc (fun e : Val => e.ord x == 0) ly k hlt
        have hal := (listB_all HBG.out ly[k] (List.getElem_mem _))
        have hsz := HLI.out.size ly[k] (List.getElem_mem _)
        go_wp2_with fail
        clear y0 y1 y2 y3
        have x0 := fun m : Bl wr => ((HKw.out.below m.below).at 1 rfl).1
        have x1 := fun m : Bl wr => ((HKw.out.below m.below).at 1 rfl).2.1
        have x2 := fun m : Bl wr => ((HKw.out.below m.below).at 1 rfl).2.2.1
        have x3 := fun m : Bl wr => ((HKw.out.below m.below).at 1 rfl).2.2.2
        have y3 := fun m : Bl wr => ((HKw.out.below m.below).at 0 rfl).2.2.2
        rw [had] at y3
        have e0 := fun m : Bl wr => ((HLI.out.below HBw.out).below m.below).c0 k hlt
        have e1 := fun m : Bl wr => ((HLI.out.below HBw.out).below m.below).c1 k hlt
        have e2 := fun m : Bl wr => ((HLI.out.below HBw.out).below m.below).c2 k hlt
        have e3 := fun m : Bl wr => ((HLI.out.below HBw.out).below m.below).c3 k hlt
        generalize ly[k] = el at *
        obtain ⟨od, hod⟩ : ∃ od, el.ord x = od := ⟨_, rfl⟩
        have F : Hid (∀ W, Below w.heap.size w W → Calls Try.prog 14 #[V el.k el.i el.s el.a el.n el.c, V x.k x.i x.s x.a x.n x.c] W fun e w' => e = .returned (.int .i64 od) ∧ Below W.heap.size W w') := Lib.hid (by
          intro W hW
          have h := refOrder_any W el x [] lx (full_alone hal.2 hsz) (HX.out.below hW)
          rw [Val.orderS, if_neg (fun hh => hxk.out hh.2), ← ord_ordS hal.2 HXal.out, hod] at h
          exact h)
        have HSN := Lib.hid hsn
        have HOD := Lib.hid hod
        clear hod had hsn hal hsz
        obtain ⟨fo, hfo⟩ : ∃ fo, (ly.take k).any (fun e => e.ord x == 0) = fo := ⟨_, rfl⟩
        rw [hfo]
        have HFO := Lib.hid hfo
        clear hfo
        cases fo
        · refine wp_region_quietB (by kernel_rfl) (by kernel_rfl) ?_
          iterate 12 (go_big_quiet_step ((go_at_call 14; with_reducible exact Calls.quiet_b (F.out _ (HBw.out.trans ((Bl.below _).mono HBw.out.size))))))
          refine wpQuiet_nil ?_
          intro m
          have HBM := Lib.hid (HB.out.trans (m.below.mono HB.out.size))
          clear x0 x1 x2 x3 y3 e0 e1 e2 e3 F
          go_wp2_with fail
          go_roundw
          case rel => exact ⟨k + 1, by omega, by go_num, by rw [HSN.out, HFO.out, HOD.out]; rfl, HBM⟩
          case measure => simp [intOf]; omega
        · refine wp_region_quietB (by kernel_rfl) (by kernel_rfl) ?_
          iterate 12 (go_big_quiet_step (fail))
          refine wpQuiet_nil ?_
          intro m
          have HBM := Lib.hid (HB.out.trans (m.below.mono HB.out.size))
          clear x0 x1 x2 x3 y3 e0 e1 e2 e3 F
          go_wp2_with fail
          go_roundw
          case rel => exact ⟨k + 1, by omega, by go_num, by rw [HSN.out, HFO.out]; rfl, HBM⟩
          case measure => simp [intOf]; omega
      · have hltn : ¬ k < y.n := by have := HNY.out; omega
        have hall : ly.take k = ly := List.take_of_length_le (by omega)
        rw [hall, HR1.out]
        clear hall
        go_wp2_with fail
        go_ret
        exact ⟨by cases r1 <;> rfl, HBw.out⟩
set_option maxRecDepth 100000 in
set_option maxHeartbeats 1000000 in
theorem in_big (w : World) (x y : Val) (lx ly : List Val) (hx : Full w x lx) (hy : Full w y ly) (hsm : (small x lx && small y ly) = false) :
    Calls Try.prog 6 #[x.v, y.v] w fun e w' => e = .returned (.bool true) ∧ Below w.heap.size w w' := by
  have HTw : Hid (∀ W, Below w.heap.size w W → Calls Try.prog 10 #[V x.k x.i x.s x.a x.n x.c, V y.k y.i y.s y.a y.n y.c] W fun e w' => e = .returned (.bool false) ∧ Below W.heap.size W w') := Lib.hid (by
    intro W hW; rw [← hsm]; exact two_any W x y lx ly (hx.below hW) (hy.below hW))
  clear hx hy hsm
  unfold Val.v
  go_enter Try.func6, Try.ntmps6
  go_wp2_with fail
  generalize hW : World.alloc _ _ = W0
  have HB0 : Hid (Below w.heap.size w W0) := Lib.hid (by rw [← hW]; exact ((Below.refl _ _).alloc (Nat.le_refl _) _).alloc (by simp) _)
  have HK0 : Hid (Blks W0 [(w.heap.size + 1, y), (w.heap.size, x)]) := Lib.hid (by rw [← hW]; exact blks2 w x y)
  clear hW
  refine (awake_any W0).mono ?_
  rintro e w1 ⟨rfl, hb⟩
  have HB1 := Lib.hid (HB0.out.trans (hb.mono HB0.out.size))
  have HK1 := Lib.hid (HK0.out.below hb)
  clear hb HB0 HK0
  obtain ⟨y0, y1, y2, y3⟩ := HK1.out.at 0 rfl
  obtain ⟨x0, x1, x2, x3⟩ := HK1.out.at 1 rfl
  go_wp2_with fail
  refine (HTw.out _ HB1.out).mono ?_
  rintro e w2 ⟨rfl, hb⟩
  have HB2 := Lib.hid (HB1.out.trans (hb.mono HB1.out.size))
  clear hb HB1 HK1 x0 x1 x2 x3 y0 y1 y2 y3 HTw
  go_wp2_with fail
  refine (awake_any w2).mono ?_
  rintro e w3 ⟨rfl, hb⟩
  have HB3 := Lib.hid (HB2.out.trans (hb.mono HB2.out.size))
  clear hb HB2
  go_wp2_with fail
  go_ret
  exact ⟨rfl, HB3.out⟩
end Go.Proofs.Ytcgbodbjjfngpaa
