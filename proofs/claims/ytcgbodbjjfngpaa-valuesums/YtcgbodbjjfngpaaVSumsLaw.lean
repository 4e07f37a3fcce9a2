/- P2.2: of all two values the sum, the difference and the product are the chapter's: the walk of the law. -/
import Derived.Test.YtcgbodbjjfngpaaVSumMath
import Derived.Test.YtcgbodbjjfngpaaVTimes
import Derived.Test.YtcgbodbjjfngpaaVSame
import Derived.Test.YtcgbodbjjfngpaaVRefF
import Derived.Test.YtcgbodbjjfngpaaVAwake
namespace Go.Proofs.Ytcgbodbjjfngpaa
open Go.RowKit

/-- blocks that hold values -/
def Blks (w : World) (bs : List (Nat × Val)) : Prop := ∀ p ∈ bs, w.heap[p.1]? = some (.cells #[.int .i64 p.2.k, .int .i64 p.2.i, .string p.2.s, .slice p.2.a p.2.n p.2.c] 24 (0, 0))
theorem Blks.below {w w' : World} {bs : List (Nat × Val)} (h : Blks w bs) (hb : Below w.heap.size w w') : Blks w' bs := fun p hp => below_cells hb (h p hp)
theorem Blks.new {w : World} {bs : List (Nat × Val)} (h : Blks w bs) (v : Val) : Blks (w.alloc (.cells #[.int .i64 v.k, .int .i64 v.i, .string v.s, .slice v.a v.n v.c] 24 (0, 0))) ((w.heap.size, v) :: bs) := fun p hp => by
  rcases List.mem_cons.1 hp with rfl | hp
  · exact heap_alloc_new _ _
  · exact alloc_block rfl (h p hp)
theorem Blks.at {w : World} {bs : List (Nat × Val)} (h : Blks w bs) (i : Nat) {g : Nat} {v : Val} (hi : bs[i]? = some (g, v)) :
    w.cell? ⟨g, 0, none⟩ = some (.int .i64 v.k) ∧ w.cell? ⟨g, 1, none⟩ = some (.int .i64 v.i) ∧ w.cell? ⟨g, 2, none⟩ = some (.string v.s) ∧ w.cell? ⟨g, 3, none⟩ = some (.slice v.a v.n v.c) := by
  have hg := h (g, v) (List.mem_of_getElem? hi)
  exact ⟨cell_block hg 0, cell_block hg 1, cell_block hg 2, cell_block hg 3⟩
theorem Full.formedIs {w : World} {x : Val} {l : List Val} (h : Full w x l) : FormedIs w x.v (x.formed l) := ⟨fun W hW => formed_any W x l (h.below hW)⟩
/-- an answer's value -/
def rv (k i : Int) : Val := ⟨k, i, ⟨#[]⟩, none, 0, 0⟩
theorem rv_full (w : World) (k i : Int) : Full w (rv k i) [] := ⟨⟨0, 0, fun h => absurd rfl h, fun j hj => absurd hj (by simp), fun j hj => absurd hj (by simp), fun j hj => absurd hj (by simp), fun j hj => absurd hj (by simp), fun x hx => by cases hx⟩, rfl, by show (0 : Nat) ≤ _; exact Nat.zero_le _, Nat.zero_le _⟩
theorem same_rv (k i : Int) : sameB (rv k i) [] (rv k i) [] = true := by simp [sameB, headS, rv]

set_option maxRecDepth 100000 in
set_option maxHeartbeats 4000000 in
theorem sums_small (w : World) (x y : Val) (lx ly : List Val) (hx : Full w x lx) (hy : Full w y ly) (hsm : (small x lx && small y ly) = true) (bx : in64 x.i) (by' : in64 y.i) :
    Calls Try.prog 5 #[x.v, y.v] w fun e w' => e = .returned (.bool true) ∧ Below w.heap.size w w' := by
  have HTw : Hid (∀ W, Below w.heap.size w W → Calls Try.prog 10 #[V x.k x.i x.s x.a x.n x.c, V y.k y.i y.s y.a y.n y.c] W fun e w' => e = .returned (.bool true) ∧ Below W.heap.size W w') := Lib.hid (by
    intro W hW; rw [← hsm]; exact two_any W x y lx ly (hx.below hW) (hy.below hW))
  obtain ⟨fa, hfa⟩ : ∃ fa, x.formed lx = fa := ⟨_, rfl⟩
  obtain ⟨fb, hfb⟩ : ∃ fb, y.formed ly = fb := ⟨_, rfl⟩
  have HFx := Lib.hid (hfa ▸ hx.formedIs)
  have HFy := Lib.hid (hfb ▸ hy.formedIs)
  have HRx : Hid (∀ W, Below w.heap.size w W → Calls Try.prog 12 #[V x.k x.i x.s x.a x.n x.c] W fun e w' => e = .returned (.bool fa) ∧ Below W.heap.size W w') := Lib.hid (by
    intro W hW; rw [← hfa]; exact refFormed_any W x lx (hx.below hW))
  have HRy : Hid (∀ W, Below w.heap.size w W → Calls Try.prog 12 #[V y.k y.i y.s y.a y.n y.c] W fun e w' => e = .returned (.bool fb) ∧ Below W.heap.size W w') := Lib.hid (by
    intro W hW; rw [← hfb]; exact refFormed_any W y ly (hy.below hW))
  obtain ⟨k1, i1, e1, hr1⟩ : ∃ k i e, addR fa fb x.k x.i y.k y.i = (k, i, e) := ⟨_, _, _, rfl⟩
  obtain ⟨k2, i2, e2, hr2⟩ : ∃ k i e, subR fa fb x.k x.i y.k y.i = (k, i, e) := ⟨_, _, _, rfl⟩
  obtain ⟨k3, i3, e3, hr3⟩ : ∃ k i e, mulR fa fb x.k x.i y.k y.i = (k, i, e) := ⟨_, _, _, rfl⟩
  have HAd : Hid (∀ W, Below w.heap.size w W → Calls Try.prog 19 #[V x.k x.i x.s x.a x.n x.c, V y.k y.i y.s y.a y.n y.c] W fun e w' => e = .returned (.tuple #[V k1 i1 ⟨#[]⟩ none 0 0, .int .i64 e1]) ∧ Below W.heap.size W w') := Lib.hid (by
    intro W hW; have h := add_any x.k x.i x.s x.a x.n x.c y.k y.i y.s y.a y.n y.c fa fb W (HFx.out.below hW) (HFy.out.below hW); rw [hr1] at h; exact h)
  have HSu : Hid (∀ W, Below w.heap.size w W → Calls Try.prog 20 #[V x.k x.i x.s x.a x.n x.c, V y.k y.i y.s y.a y.n y.c] W fun e w' => e = .returned (.tuple #[V k2 i2 ⟨#[]⟩ none 0 0, .int .i64 e2]) ∧ Below W.heap.size W w') := Lib.hid (by
    intro W hW; have h := sub_any x.k x.i x.s x.a x.n x.c y.k y.i y.s y.a y.n y.c fa fb W (HFx.out.below hW) (HFy.out.below hW); rw [hr2] at h; exact h)
  have HMu : Hid (∀ W, Below w.heap.size w W → Calls Try.prog 21 #[V x.k x.i x.s x.a x.n x.c, V y.k y.i y.s y.a y.n y.c] W fun e w' => e = .returned (.tuple #[V k3 i3 ⟨#[]⟩ none 0 0, .int .i64 e3]) ∧ Below W.heap.size W w') := Lib.hid (by
    intro W hW; have h := mul_any x.k x.i x.s x.a x.n x.c y.k y.i y.s y.a y.n y.c fa fb W (HFx.out.below hW) (HFy.out.below hW); rw [hr3] at h; exact h)
  have Hr1 := Lib.hid hr1
  have Hr2 := Lib.hid hr2
  have Hr3 := Lib.hid hr3
  have Hbx := Lib.hid bx
  have Hby := Lib.hid by'
  clear hr1 hr2 hr3 bx by' hfa hfb hsm hx hy HFx HFy
  unfold Val.v
  go_enter Try.func5, Try.ntmps5
  go_wp2_with fail
  generalize hW : World.alloc _ _ = W0
  have HB0 : Hid (Below w.heap.size w W0) := Lib.hid (by rw [← hW]; exact ((Below.refl _ _).alloc (Nat.le_refl _) _).alloc (by simp) _)
  have HK0 : Hid (Blks W0 [(w.heap.size + 1, y), (w.heap.size, x)]) := Lib.hid (by
    have h1 : Blks w [] := fun p hp => by cases hp
    have h2 := (h1.new x).new y
    rw [World.size_alloc] at h2
    rw [← hW]; exact h2)
  clear hW
  refine (awake_any W0).mono ?_
  rintro e w1 ⟨rfl, hb⟩
  have HB1 := Lib.hid (HB0.out.trans (hb.mono HB0.out.size))
  have HK1 := Lib.hid (HK0.out.below hb)
  clear hb HB0 HK0
  obtain ⟨y0, y1, y2, y3⟩ := HK1.out.at 0 rfl
  obtain ⟨x0, x1, x2, x3⟩ := HK1.out.at 1 rfl
  go_wp2_with fail
  refine (HTw.out _ HB1.out).mono ?_
  rintro e w2 ⟨rfl, hb⟩
  have HB2 := Lib.hid (HB1.out.trans (hb.mono HB1.out.size))
  have HK2 := Lib.hid (HK1.out.below hb)
  clear hb HB1 HK1 x0 x1 x2 x3 y0 y1 y2 y3 HTw
  obtain ⟨y0, y1, y2, y3⟩ := HK2.out.at 0 rfl
  obtain ⟨x0, x1, x2, x3⟩ := HK2.out.at 1 rfl
  go_wp2_with fail
  refine (HAd.out _ HB2.out).mono ?_
  rintro e w3 ⟨rfl, hb⟩
  have HB3 := Lib.hid (HB2.out.trans (hb.mono HB2.out.size))
  have HK3 := Lib.hid (HK2.out.below hb)
  clear hb HB2 HK2 x0 x1 x2 x3 y0 y1 y2 y3 HAd
  obtain ⟨y0, y1, y2, y3⟩ := HK3.out.at 0 rfl
  obtain ⟨x0, x1, x2, x3⟩ := HK3.out.at 1 rfl
  have z1 : w.heap.size + 1 < w3.heap.size := lt_block (HK3.out (w.heap.size + 1, y) (by simp))
  have z0 : w.heap.size < w3.heap.size := by omega
  go_wp2_with fail
  generalize hW : World.alloc _ _ = W4
  have HB4 : Hid (Below w.heap.size w W4) := Lib.hid (by rw [← hW]; exact HB3.out.alloc HB3.out.size _)
  have HK4 : Hid (Blks W4 [(w3.heap.size, rv k1 i1), (w.heap.size + 1, y), (w.heap.size, x)]) := Lib.hid (by rw [← hW]; exact HK3.out.new (rv k1 i1))
  clear hW HB3 HK3 x0 x1 x2 x3 y0 y1 y2 y3
  refine (HSu.out _ HB4.out).mono ?_
  rintro e w5 ⟨rfl, hb⟩
  have HB5 := Lib.hid (HB4.out.trans (hb.mono HB4.out.size))
  have HK5 := Lib.hid (HK4.out.below hb)
  clear hb HB4 HK4 HSu
  obtain ⟨y0, y1, y2, y3⟩ := HK5.out.at 1 rfl
  obtain ⟨x0, x1, x2, x3⟩ := HK5.out.at 2 rfl
  have z3 : w3.heap.size < w5.heap.size := lt_block (HK5.out (w3.heap.size, rv k1 i1) (by simp))
  have z5 : w.heap.size + 1 < w5.heap.size := by omega
  have z6 : w.heap.size < w5.heap.size := by omega
  go_wp2_with fail
  generalize hW : World.alloc _ _ = W6
  have HB6 : Hid (Below w.heap.size w W6) := Lib.hid (by rw [← hW]; exact HB5.out.alloc HB5.out.size _)
  have HK6 : Hid (Blks W6 [(w5.heap.size, rv k2 i2), (w3.heap.size, rv k1 i1), (w.heap.size + 1, y), (w.heap.size, x)]) := Lib.hid (by rw [← hW]; exact HK5.out.new (rv k2 i2))
  clear hW HB5 HK5 x0 x1 x2 x3 y0 y1 y2 y3
  refine (HMu.out _ HB6.out).mono ?_
  rintro e w7 ⟨rfl, hb⟩
  have HB7 := Lib.hid (HB6.out.trans (hb.mono HB6.out.size))
  have HK7 := Lib.hid (HK6.out.below hb)
  clear hb HB6 HK6 HMu
  obtain ⟨y0, y1, y2, y3⟩ := HK7.out.at 2 rfl
  obtain ⟨x0, x1, x2, x3⟩ := HK7.out.at 3 rfl
  have z7 : w5.heap.size < w7.heap.size := lt_block (HK7.out (w5.heap.size, rv k2 i2) (by simp))
  have z8 : w3.heap.size < w7.heap.size := by omega
  have z9 : w.heap.size + 1 < w7.heap.size := by omega
  have z10 : w.heap.size < w7.heap.size := by omega
  go_wp2_with fail
  generalize hW : World.alloc _ _ = W8
  have HB8 : Hid (Below w.heap.size w W8) := Lib.hid (by rw [← hW]; exact HB7.out.alloc HB7.out.size _)
  have HK8 : Hid (Blks W8 [(w7.heap.size, rv k3 i3), (w5.heap.size, rv k2 i2), (w3.heap.size, rv k1 i1), (w.heap.size + 1, y), (w.heap.size, x)]) := Lib.hid (by rw [← hW]; exact HK7.out.new (rv k3 i3))
  clear hW HB7 HK7 x0 x1 x2 x3 y0 y1 y2 y3
  refine (HRx.out _ HB8.out).mono ?_
  rintro e w9 ⟨rfl, hb⟩
  have HB9 := Lib.hid (HB8.out.trans (hb.mono HB8.out.size))
  have HK9 := Lib.hid (HK8.out.below hb)
  clear hb HB8 HK8 HRx
  cases fa
  · have hr1 := Hr1.out
    have hr2 := Hr2.out
    have hr3 := Hr3.out
    simp only [addR, subR, mulR, Bool.not_false, Bool.true_or, if_true, Prod.mk.injEq] at hr1 hr2 hr3
    obtain ⟨rfl, rfl, rfl⟩ := hr1
    obtain ⟨rfl, rfl, rfl⟩ := hr2
    obtain ⟨rfl, rfl, rfl⟩ := hr3
    go_wp2_with fail
    go_ret
    exact ⟨rfl, HB9.out⟩
  obtain ⟨y0, y1, y2, y3⟩ := HK9.out.at 3 rfl
  go_wp2_with fail
  refine (HRy.out _ HB9.out).mono ?_
  rintro e w10 ⟨rfl, hb⟩
  have HB10 := Lib.hid (HB9.out.trans (hb.mono HB9.out.size))
  have HK10 := Lib.hid (HK9.out.below hb)
  clear hb HB9 HK9 HRy y0 y1 y2 y3
  cases fb
  · have hr1 := Hr1.out
    have hr2 := Hr2.out
    have hr3 := Hr3.out
    simp only [addR, subR, mulR, Bool.not_false, Bool.or_true, if_true, Prod.mk.injEq] at hr1 hr2 hr3
    obtain ⟨rfl, rfl, rfl⟩ := hr1
    obtain ⟨rfl, rfl, rfl⟩ := hr2
    obtain ⟨rfl, rfl, rfl⟩ := hr3
    go_wp2_with fail
    go_ret
    exact ⟨rfl, HB10.out⟩
  have HS1 : Hid (∀ W, Calls Try.prog 22 #[V x.k x.i x.s x.a x.n x.c, V y.k y.i y.s y.a y.n y.c, .bool false] W fun e w' => e = .returned (.tuple #[V k1 i1 ⟨#[]⟩ none 0 0, .int .i64 e1]) ∧ Below W.heap.size W w') := Lib.hid (by
    intro W; have h := sums_plain x y W Hbx.out.1 Hbx.out.2 Hby.out.1 Hby.out.2; rw [← add_is Hbx.out Hby.out, Hr1.out] at h; exact h)
  have HS2 : Hid (∀ W, Calls Try.prog 22 #[V x.k x.i x.s x.a x.n x.c, V y.k y.i y.s y.a y.n y.c, .bool true] W fun e w' => e = .returned (.tuple #[V k2 i2 ⟨#[]⟩ none 0 0, .int .i64 e2]) ∧ Below W.heap.size W w') := Lib.hid (by
    intro W; have h := sums_minus x y W Hbx.out.1 Hbx.out.2 Hby.out.1 Hby.out.2; rw [← sub_is Hbx.out Hby.out, Hr2.out] at h; exact h)
  have HSa : Hid (∀ k i W, Calls Try.prog 15 #[V k i ⟨#[]⟩ none 0 0, V k i ⟨#[]⟩ none 0 0] W fun e w' => e = .returned (.bool true) ∧ Below W.heap.size W w') := Lib.hid (by
    intro k i W; have h := same_any W (rv k i) (rv k i) [] [] (rv_full W k i) (rv_full W k i); rw [same_rv] at h; exact h)
  obtain ⟨y0, y1, y2, y3⟩ := HK10.out.at 3 rfl
  obtain ⟨x0, x1, x2, x3⟩ := HK10.out.at 4 rfl
  go_wp2_with fail
  refine (HS1.out _).mono ?_
  rintro e w11 ⟨rfl, hb⟩
  have HB11 := Lib.hid (HB10.out.trans (hb.mono HB10.out.size))
  have HK11 := Lib.hid (HK10.out.below hb)
  clear hb HB10 HK10 HS1 x0 x1 x2 x3 y0 y1 y2 y3
  obtain ⟨y0, y1, y2, y3⟩ := HK11.out.at 3 rfl
  obtain ⟨x0, x1, x2, x3⟩ := HK11.out.at 4 rfl
  have z11 : w7.heap.size < w11.heap.size := lt_block (HK11.out (w7.heap.size, rv k3 i3) (by simp))
  have z12 : w.heap.size + 1 < w11.heap.size := by omega
  have z13 : w.heap.size < w11.heap.size := by omega
  go_wp2_with fail
  generalize hW : World.alloc _ _ = W12
  have HB12 : Hid (Below w.heap.size w W12) := Lib.hid (by rw [← hW]; exact HB11.out.alloc HB11.out.size _)
  have HK12 : Hid (Blks W12 [(w11.heap.size, rv k1 i1), (w7.heap.size, rv k3 i3), (w5.heap.size, rv k2 i2), (w3.heap.size, rv k1 i1), (w.heap.size + 1, y), (w.heap.size, x)]) := Lib.hid (by rw [← hW]; exact HK11.out.new (rv k1 i1))
  clear hW HB11 HK11 x0 x1 x2 x3 y0 y1 y2 y3
  refine (HS2.out _).mono ?_
  rintro e w13 ⟨rfl, hb⟩
  have HB13 := Lib.hid (HB12.out.trans (hb.mono HB12.out.size))
  have HK13 := Lib.hid (HK12.out.below hb)
  clear hb HB12 HK12 HS2
  obtain ⟨v0, v1, v2, v3⟩ := HK13.out.at 0 rfl
  obtain ⟨q0, q1, q2, q3⟩ := HK13.out.at 3 rfl
  simp only [rv] at v0 v1 v2 v3 q0 q1 q2 q3
  have z14 : w11.heap.size < w13.heap.size := lt_block (HK13.out (w11.heap.size, rv k1 i1) (by simp))
  have z15 : w3.heap.size < w13.heap.size := by omega
  go_wp2_with fail
  generalize hW : World.alloc _ _ = W14
  have HB14 : Hid (Below w.heap.size w W14) := Lib.hid (by rw [← hW]; exact HB13.out.alloc HB13.out.size _)
  have HK14 : Hid (Blks W14 [(w13.heap.size, rv k2 i2), (w11.heap.size, rv k1 i1), (w7.heap.size, rv k3 i3), (w5.heap.size, rv k2 i2), (w3.heap.size, rv k1 i1), (w.heap.size + 1, y), (w.heap.size, x)]) := Lib.hid (by rw [← hW]; exact HK13.out.new (rv k2 i2))
  clear hW HB13 HK13 v0 v1 v2 v3 q0 q1 q2 q3
  refine (HSa.out _ _ _).mono ?_
  rintro e w15 ⟨rfl, hb⟩
  have HB15 := Lib.hid (HB14.out.trans (hb.mono HB14.out.size))
  have HK15 := Lib.hid (HK14.out.below hb)
  clear hb HB14 HK14
  obtain ⟨v0, v1, v2, v3⟩ := HK15.out.at 0 rfl
  obtain ⟨q0, q1, q2, q3⟩ := HK15.out.at 3 rfl
  simp only [rv] at v0 v1 v2 v3 q0 q1 q2 q3
  go_wp2_with fail
  refine (HSa.out _ _ _).mono ?_
  rintro e w16 ⟨rfl, hb⟩
  have HB16 := Lib.hid (HB15.out.trans (hb.mono HB15.out.size))
  have HK16 := Lib.hid (HK15.out.below hb)
  clear hb HB15 HK15 v0 v1 v2 v3 q0 q1 q2 q3
  obtain ⟨y0, y1, y2, y3⟩ := HK16.out.at 5 rfl
  obtain ⟨x0, x1, x2, x3⟩ := HK16.out.at 6 rfl
  obtain ⟨q0, q1, q2, q3⟩ := HK16.out.at 2 rfl
  simp only [rv] at q0 q1 q2 q3
  clear z0 z1 z3 z5 z6 z7 z8 z9 z10 z11 z12 z13 z14 z15
  by_cases hkk : x.k = 2 ∧ y.k = 2
  case neg =>
    have hr3 := Hr3.out
    have hmu : mulR true true x.k x.i y.k y.i = (0, 0, 6) := by
      have e : (x.k == 2 && y.k == 2) = false := by simp; exact fun a b => hkk ⟨a, b⟩
      simp [mulR, e]
    rw [hmu] at hr3
    simp only [Prod.mk.injEq] at hr3
    obtain ⟨rfl, rfl, rfl⟩ := hr3
    clear hmu
    by_cases hk2 : x.k = 2
    · have hx2 : (x.k != 2) = false := by simpa using hk2
      have hy2 : (y.k != 2) = true := by simpa using fun h => hkk ⟨hk2, h⟩
      clear hk2 hkk
      go_wp2_with fail
      refine (HSa.out _ _ _).mono ?_
      rintro e w17 ⟨rfl, hb⟩
      have HB17 := Lib.hid (HB16.out.trans (hb.mono HB16.out.size))
      clear hb HB16 HK16 x0 x1 x2 x3 y0 y1 y2 y3 q0 q1 q2 q3
      go_wp2_with fail
      go_ret
      exact ⟨rfl, HB17.out⟩
    · have hx2 : (x.k != 2) = true := by simpa using hk2
      clear hk2 hkk
      go_wp2_with fail
      refine (HSa.out _ _ _).mono ?_
      rintro e w17 ⟨rfl, hb⟩
      have HB17 := Lib.hid (HB16.out.trans (hb.mono HB16.out.size))
      clear hb HB16 HK16 x0 x1 x2 x3 y0 y1 y2 y3 q0 q1 q2 q3
      go_wp2_with fail
      go_ret
      exact ⟨rfl, HB17.out⟩
  obtain ⟨hk2, hy2⟩ := hkk
  have hr3 := Hr3.out
  have hmu : mulR true true x.k x.i y.k y.i = numR (wrap64 (x.i * y.i)) (prodF x.i y.i) := mulR_num hk2 (by simpa using hy2)
  rw [hmu, prodF_is Hbx.out Hby.out, ← nW_is] at hr3
  obtain ⟨n, hn⟩ : ∃ n, wrap64 (loW (x.i * y.i)) = n := ⟨_, rfl⟩
  obtain ⟨ok, hok⟩ : ∃ ok, okW (x.i * y.i) = ok := ⟨_, rfl⟩
  rw [hn, hok] at hr3
  have HTi := Lib.hid (fun W => times_any x.i y.i W Hbx.out.1 Hbx.out.2 Hby.out.1 Hby.out.2)
  have HFi : Hid (∀ W, Calls Try.prog 24 #[Wd (hiW (x.i * y.i)) (loW (x.i * y.i))] W fun e w' => e = .returned (.tuple #[.int .i64 n, .bool ok]) ∧ Below W.heap.size W w') := Lib.hid (by
    intro W; rw [← hn, ← hok]; exact fits_any _ W)
  have hx2 : (x.k != 2) = false := by simpa using hk2
  have hy2' : (y.k != 2) = false := by simpa using hy2
  generalize hiW (x.i * y.i) = PH at *
  generalize loW (x.i * y.i) = PL at *
  have HR3 := Lib.hid hr3
  clear hmu hn hok hk2 hy2 hr3
  go_wp2_with fail
  refine (HTi.out _).mono ?_
  rintro e w17 ⟨rfl, hb⟩
  have HB17 := Lib.hid (HB16.out.trans (hb.mono HB16.out.size))
  have HK17 := Lib.hid (HK16.out.below hb)
  clear hb HB16 HK16 x0 x1 x2 x3 y0 y1 y2 y3 q0 q1 q2 q3
  go_wp2_with fail
  refine (HFi.out _).mono ?_
  rintro e w18 ⟨rfl, hb⟩
  have HB18 := Lib.hid (HB17.out.trans (hb.mono HB17.out.size))
  have HK18 := Lib.hid (HK17.out.below hb)
  clear hb HB17 HK17
  cases ok
  · have hr3 := HR3.out
    simp only [numR, Bool.false_eq_true, if_false, Prod.mk.injEq] at hr3
    obtain ⟨rfl, rfl, rfl⟩ := hr3
    obtain ⟨q0, q1, q2, q3⟩ := HK18.out.at 2 rfl
    simp only [rv] at q0 q1 q2 q3
    go_wp2_with fail
    refine (HSa.out _ _ _).mono ?_
    rintro e w19 ⟨rfl, hb⟩
    have HB19 := Lib.hid (HB18.out.trans (hb.mono HB18.out.size))
    clear hb HB18 HK18 q0 q1 q2 q3
    go_wp2_with fail
    go_ret
    exact ⟨rfl, HB19.out⟩
  · have hr3 := HR3.out
    simp only [numR, if_true, Prod.mk.injEq] at hr3
    obtain ⟨rfl, rfl, rfl⟩ := hr3
    obtain ⟨q0, q1, q2, q3⟩ := HK18.out.at 2 rfl
    simp only [rv] at q0 q1 q2 q3
    go_wp2_with fail
    refine (HSa.out _ _ _).mono ?_
    rintro e w19 ⟨rfl, hb⟩
    have HB19 := Lib.hid (HB18.out.trans (hb.mono HB18.out.size))
    clear hb HB18 HK18 q0 q1 q2 q3
    go_wp2_with fail
    go_ret
    exact ⟨rfl, HB19.out⟩
set_option maxRecDepth 100000 in
set_option maxHeartbeats 1000000 in
theorem sums_big (w : World) (x y : Val) (lx ly : List Val) (hx : Full w x lx) (hy : Full w y ly) (hsm : (small x lx && small y ly) = false) :
    Calls Try.prog 5 #[x.v, y.v] w fun e w' => e = .returned (.bool true) ∧ Below w.heap.size w w' := by
  have HTw : Hid (∀ W, Below w.heap.size w W → Calls Try.prog 10 #[V x.k x.i x.s x.a x.n x.c, V y.k y.i y.s y.a y.n y.c] W fun e w' => e = .returned (.bool false) ∧ Below W.heap.size W w') := Lib.hid (by
    intro W hW; rw [← hsm]; exact two_any W x y lx ly (hx.below hW) (hy.below hW))
  clear hx hy hsm
  unfold Val.v
  go_enter Try.func5, Try.ntmps5
  go_wp2_with fail
  generalize hW : World.alloc _ _ = W0
  have HB0 : Hid (Below w.heap.size w W0) := Lib.hid (by rw [← hW]; exact ((Below.refl _ _).alloc (Nat.le_refl _) _).alloc (by simp) _)
  have HK0 : Hid (Blks W0 [(w.heap.size + 1, y), (w.heap.size, x)]) := Lib.hid (by
    have h1 : Blks w [] := fun p hp => by cases hp
    have h2 := (h1.new x).new y
    rw [World.size_alloc] at h2
    rw [← hW]; exact h2)
  clear hW
  refine (awake_any W0).mono ?_
  rintro e w1 ⟨rfl, hb⟩
  have HB1 := Lib.hid (HB0.out.trans (hb.mono HB0.out.size))
  have HK1 := Lib.hid (HK0.out.below hb)
  clear hb HB0 HK0
  obtain ⟨y0, y1, y2, y3⟩ := HK1.out.at 0 rfl
  obtain ⟨x0, x1, x2, x3⟩ := HK1.out.at 1 rfl
  go_wp2_with fail
  refine (HTw.out _ HB1.out).mono ?_
  rintro e w2 ⟨rfl, hb⟩
  have HB2 := Lib.hid (HB1.out.trans (hb.mono HB1.out.size))
  clear hb HB1 HK1 x0 x1 x2 x3 y0 y1 y2 y3 HTw
  go_wp2_with fail
  refine (awake_any w2).mono ?_
  rintro e w3 ⟨rfl, hb⟩
  have HB3 := Lib.hid (HB2.out.trans (hb.mono HB2.out.size))
  clear hb HB2
  go_wp2_with fail
  go_ret
  exact ⟨rfl, HB3.out⟩
end Go.Proofs.Ytcgbodbjjfngpaa
