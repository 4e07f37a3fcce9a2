/- The order of values, bags too: the program's and the document's. -/
import Derived.Test.YtgfnbbclopdapaaVRefF
import Derived.Test.YtgfnbbclopdapaaVCmp
namespace Go.Proofs.Ytgfnbbclopdapaa
open Go.RowKit

theorem lexO_step {α : Type} (f : α → α → Int) (x y : List α) (k : Nat) (hx : k < x.length) (hy : k < y.length) :
    lexO f (x.drop k) (y.drop k) = if f x[k] y[k] = 0 then lexO f (x.drop (k + 1)) (y.drop (k + 1)) else f x[k] y[k] := by
  rw [List.drop_eq_getElem_cons hx, List.drop_eq_getElem_cons hy, lexO]
theorem lexO_end {α : Type} (f : α → α → Int) (x y : List α) (k : Nat) (hx : k ≤ x.length) (hy : k ≤ y.length) (h : k = x.length ∨ k = y.length) : lexO f (x.drop k) (y.drop k) = cmpI x.length y.length := by
  rcases h with rfl | rfl
  · rw [List.drop_length]
    rcases Nat.lt_or_ge x.length y.length with h | h
    · obtain ⟨b, l, e⟩ := List.exists_cons_of_ne_nil (show y.drop x.length ≠ [] by simp; omega)
      rw [e]; unfold cmpI; rw [if_pos (by omega)]; rfl
    · rw [List.drop_of_length_le (by omega)]; unfold cmpI; rw [if_neg (by omega), if_neg (by omega)]; rfl
  · rw [List.drop_length]
    rcases Nat.lt_or_ge y.length x.length with h | h
    · obtain ⟨b, l, e⟩ := List.exists_cons_of_ne_nil (show x.drop y.length ≠ [] by simp; omega)
      rw [e]; unfold cmpI; rw [if_neg (by omega), if_pos (by omega)]; rfl
    · rw [List.drop_of_length_le (by omega)]; unfold cmpI; rw [if_neg (by omega), if_neg (by omega)]; rfl
def Val.ordS (x y : Val) : Int := Go.Proofs.Ytgfnbbclopdapaa.ordS x.k x.i x.s y.k y.i y.s

set_option maxHeartbeats 1000000 in
theorem compareFunc_any (w : World) (lx ly : List Val) (ax ay : Option Addr) (gx ox cx gy oy cy : Nat) (hx : ListAt w ax gx ox lx) (hy : ListAt w ay gy oy ly) (hmx : lx.length ≤ maxLen) (hmy : ly.length ≤ maxLen) :
    Calls Try.prog 35 #[.slice ax lx.length cx, .slice ay ly.length cy, .func (.func 36) #[] #[]] w
      fun e w' => e = .returned (.int .i64 (lexO Val.ord lx ly)) ∧ Below w.heap.size w w' := by
  have hmx' := hmx
  have hmy' := hmy
  unfold maxLen at hmx' hmy'
  have HX := Lib.hid hx
  have HY := Lib.hid hy
  clear hx hy hmx hmy
  go_enter Try.func35, Try.ntmps35
  go_wp2_with fail
  go_loopw [13] (fun i wr => ∃ k : Nat, k ≤ lx.length ∧ k ≤ ly.length ∧ i = .int .i64 k ∧ Hid (lexO Val.ord lx ly = lexO Val.ord (lx.drop k) (ly.drop k)) ∧ Hid (Below w.heap.size w wr)) (fun i _ => lx.length - (intOf i).toNat)
  case atStart => exact ⟨0, by omega, by omega, rfl, Lib.hid rfl, Lib.hid (Below.refl _ _)⟩
  case round =>
    obtain ⟨k, hkx, hky, rfl, HE, HB⟩ := hrel
    by_cases hlt : k < lx.length
    · by_cases hlty : k < ly.length
      · obtain rfl := HX.out.at' (by intro e; subst e; simp at hlt)
        obtain rfl := HY.out.at' (by intro e; subst e; simp at hlty)
        have hst := lexO_step Val.ord lx ly k hlt hlty
        have hlx := HX.out.below HB.out
        have hly := HY.out.below HB.out
        have x0 := hlx.c0 k hlt
        have x1 := hlx.c1 k hlt
        have x2 := hlx.c2 k hlt
        have x3 := hlx.c3 k hlt
        have y0 := hly.c0 k hlty
        have y1 := hly.c1 k hlty
        have y2 := hly.c2 k hlty
        have y3 := hly.c3 k hlty
        have zx : gx < wr.heap.size := block_lt_of_cell x0
        have zy : gy < wr.heap.size := block_lt_of_cell y0
        generalize lx[k] = x at *
        generalize ly[k] = y at *
        have HST := Lib.hid hst
        clear hlx hly hst
        obtain ⟨od, hod⟩ : ∃ od, x.ord y = od := ⟨_, rfl⟩
        have F : Hid (∀ W, Calls Try.prog 36 #[V x.k x.i x.s x.a x.n x.c, V y.k y.i y.s y.a y.n y.c] W fun e w' => e = .returned (.int .i64 od) ∧ Below W.heap.size W w') := Lib.hid (by
          intro W; rw [← hod]; exact orderAlone_any x.k x.i x.s x.a x.n x.c y.k y.i y.s y.a y.n y.c W)
        have HOD := Lib.hid hod
        clear hod
        go_wp2_with fail
        refine (F.out _).mono ?_
        rintro e w1 ⟨rfl, hb⟩
        have HB1 := Lib.hid (((HB.out.alloc HB.out.size _).alloc (Nat.le_trans HB.out.size (by simp)) _).trans (hb.mono (Nat.le_trans HB.out.size (by simp; omega))))
        clear hb x0 x1 x2 x3 y0 y1 y2 y3 F
        by_cases hz : od = 0
        · have hz' : (od != 0) = false := by simpa using hz
          have HZ := Lib.hid hz
          clear hz
          go_wp2_with fail
          go_roundw
          case rel => exact ⟨k + 1, by omega, by omega, by go_num, Lib.hid (by rw [HE.out, HST.out, HOD.out, if_pos HZ.out]), HB1⟩
          case measure => simp [intOf]; omega
        · have hz' : (od != 0) = true := by simpa using hz
          go_wp2_with fail
          go_ret
          exact ⟨ret_int (by rw [HE.out, HST.out, HOD.out, if_neg hz]), HB1.out⟩
      · have hend := lexO_end Val.ord lx ly k (by omega) (by omega) (by omega)
        obtain rfl := HX.out.at' (by intro e; subst e; simp at hlt)
        have hlx := HX.out.below HB.out
        have x0 := hlx.c0 k hlt
        have x1 := hlx.c1 k hlt
        have x2 := hlx.c2 k hlt
        have x3 := hlx.c3 k hlt
        generalize lx[k] = x at *
        have HEN := Lib.hid hend
        have HB1 := fun o => (HB.out.alloc HB.out.size o)
        have HBH := Lib.hid HB1
        clear hend hlx HB1
        go_wp2_with fail
        go_ret
        exact ⟨ret_int (by rw [HE.out, HEN.out]; unfold cmpI; (repeat split) <;> omega), HBH.out _⟩
    · have hend := lexO_end Val.ord lx ly k (by omega) (by omega) (by omega)
      have HEN := Lib.hid hend
      clear hend
      go_wp2_with fail
      all_goals
        go_ret
        exact ⟨ret_int (by rw [HE.out, HEN.out]; unfold cmpI; (repeat split) <;> omega), HB.out⟩
/-- the order of values, as the program has it -/
def Val.order (x : Val) (lx : List Val) (y : Val) (ly : List Val) : Int := if x.k = 5 ∧ y.k = 5 then lexO Val.ord lx ly else x.ord y
set_option maxHeartbeats 400000 in
theorem order_any (w : World) (x y : Val) (lx ly : List Val) (hx : Full w x lx) (hy : Full w y ly) :
    Calls Try.prog 13 #[x.v, y.v] w fun e w' => e = .returned (.int .i64 (x.order lx y ly)) ∧ Below w.heap.size w w' := by
  unfold Val.v
  by_cases hk : x.k = 5 ∧ y.k = 5
  · have e : x.order lx y ly = lexO Val.ord lx ly := by rw [Val.order, if_pos hk]
    rw [e]
    obtain ⟨gx, ox, hlx⟩ := hx.list
    obtain ⟨gy, oy, hly⟩ := hy.list
    have F : Hid (∀ W, Below w.heap.size w W → Calls Try.prog 35 #[.slice x.a x.n x.c, .slice y.a y.n y.c, .func (.func 36) #[] #[]] W fun e w' => e = .returned (.int .i64 (lexO Val.ord lx ly)) ∧ Below W.heap.size W w') := Lib.hid (by
      intro W hW
      rw [← hx.len, ← hy.len]
      exact compareFunc_any W lx ly x.a y.a gx ox x.c gy oy y.c (hlx.below hW) (hly.below hW) (by rw [hx.len]; exact hx.most) (by rw [hy.len]; exact hy.most))
    obtain ⟨h1, h2⟩ := hk
    clear e hlx hly hx hy
    go_enter Try.func13, Try.ntmps13
    go_wp2_with fail
    refine (F.out _ (((Below.refl _ _).alloc (Nat.le_refl _) _).alloc (by simp) _)).mono ?_
    rintro e w1 ⟨rfl, hb⟩
    have HB := Lib.hid ((((Below.refl w.heap.size w).alloc (Nat.le_refl _) _).alloc (by simp) _).trans (hb.mono (by simp; omega)))
    clear hb F
    go_wp2_with fail
    go_ret
    exact ⟨rfl, HB.out⟩
  · have e : x.order lx y ly = x.ord y := by rw [Val.order, if_neg hk]
    rw [e]
    have F := Lib.hid (fun W => orderAlone_any x.k x.i x.s x.a x.n x.c y.k y.i y.s y.a y.n y.c W)
    clear e hx hy
    by_cases h1 : x.k = 5
    · have h2 : (y.k == 5) = false := by simpa using fun h => hk ⟨h1, h⟩
      have h1' : (x.k == 5) = true := by simpa using h1
      clear hk h1
      go_enter Try.func13, Try.ntmps13
      go_wp2_with fail
      refine (F.out _).mono ?_
      rintro e w1 ⟨rfl, hb⟩
      have HB := Lib.hid ((((Below.refl w.heap.size w).alloc (Nat.le_refl _) _).alloc (by simp) _).trans (hb.mono (by simp; omega)))
      clear hb F
      go_wp2_with fail
      go_ret
      exact ⟨rfl, HB.out⟩
    · have h1' : (x.k == 5) = false := by simpa using h1
      clear hk h1
      go_enter Try.func13, Try.ntmps13
      go_wp2_with fail
      refine (F.out _).mono ?_
      rintro e w1 ⟨rfl, hb⟩
      have HB := Lib.hid ((((Below.refl w.heap.size w).alloc (Nat.le_refl _) _).alloc (by simp) _).trans (hb.mono (by simp; omega)))
      clear hb F
      go_wp2_with fail
      go_ret
      exact ⟨rfl, HB.out⟩
end Go.Proofs.Ytgfnbbclopdapaa
