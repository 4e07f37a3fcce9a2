/- The order of values, as the document has it. -/
import Derived.Test.YtgfnbbclopdapaaVOrder
import Derived.Test.YtgfnbbclopdapaaVSame
namespace Go.Proofs.Ytgfnbbclopdapaa
open Go.RowKit

/-- the order of values, as the document has it -/
def Val.orderS (x : Val) (lx : List Val) (y : Val) (ly : List Val) : Int := if x.k = 5 ∧ y.k = 5 then lexO Val.ordS lx ly else x.ordS y
set_option maxHeartbeats 1000000 in
theorem refOrder_bags (w : World) (x y : Val) (lx ly : List Val) (hx : Full w x lx) (hy : Full w y ly) (hkx : (x.k != 5) = false) (hky : (y.k != 5) = false) :
    Calls Try.prog 14 #[x.v, y.v] w fun e w' => e = .returned (.int .i64 (lexO Val.ordS lx ly)) ∧ Below w.heap.size w w' := by
  unfold Val.v
  have hmx := hx.most
  have hmy := hy.most
  unfold maxLen at hmx hmy
  have hnx := hx.len
  have hny := hy.len
  have HX := Lib.hid hx
  have HY := Lib.hid hy
  have HNx := Lib.hid hnx
  have HNy := Lib.hid hny
  clear hx hy
  go_enter Try.func14, Try.ntmps14
  go_wp2_with fail
  generalize hW : World.alloc _ _ = W0
  have hb0 : Below w.heap.size w W0 := by rw [← hW]; exact ((Below.refl _ _).alloc (Nat.le_refl _) _).alloc (by simp) _
  obtain ⟨g1, g2⟩ := two_blocks w (.cells #[.int .i64 x.k, .int .i64 x.i, .string x.s, .slice x.a x.n x.c] 24) (.cells #[.int .i64 y.k, .int .i64 y.i, .string y.s, .slice y.a y.n y.c] 24)
  rw [hW] at g1 g2
  have HB0 := Lib.hid hb0
  have G1 := Lib.hid g1
  have G2 := Lib.hid g2
  clear hW hb0 g1 g2 hkx hky hnx hny
  go_loopw [5] (fun i wr => ∃ k : Nat, k ≤ lx.length ∧ k ≤ ly.length ∧ i = .int .i64 k ∧ Hid (lexO Val.ordS lx ly = lexO Val.ordS (lx.drop k) (ly.drop k)) ∧ Hid (Below W0.heap.size W0 wr)) (fun i _ => lx.length - (intOf i).toNat)
  case atStart => exact ⟨0, by omega, by omega, rfl, Lib.hid rfl, Lib.hid (Below.refl _ _)⟩
  case round =>
    obtain ⟨k, hkx, hky, rfl, HE, HB⟩ := hrel
    have g1 := (HB.out.block _ (lt_block G1.out)).trans G1.out
    have g2 := (HB.out.block _ (lt_block G2.out)).trans G2.out
    have r3 : wr.cell? ⟨w.heap.size, 3, none⟩ = some (.slice x.a x.n x.c) := cell_block g1 3
    have s3 : wr.cell? ⟨w.heap.size + 1, 3, none⟩ = some (.slice y.a y.n y.c) := cell_block g2 3
    have HBw := Lib.hid (HB0.out.trans (HB.out.mono HB0.out.size))
    have HG1 := Lib.hid g1
    have HG2 := Lib.hid g2
    clear g1 g2
    by_cases hlt : k < lx.length
    · have hltx : k < x.n := by have := HNx.out; omega
      by_cases hlty : k < ly.length
      · have hlty' : k < y.n := by have := HNy.out; omega
        obtain ⟨gx, ox, hlistx⟩ := HX.out.list
        obtain ⟨gy, oy, hlisty⟩ := HY.out.list
        have hax := hlistx.at' (by intro e; subst e; simp at hlt)
        have hay := hlisty.at' (by intro e; subst e; simp at hlty)
        have LX := Lib.hid (hlistx.below HBw.out)
        have LY := Lib.hid (hlisty.below HBw.out)
        have AX := Lib.hid hax
        have AY := Lib.hid hay
        clear hlistx hlisty hax hay
        go_wp2_with fail
        clear r3 s3
        have hst := lexO_step Val.ordS lx ly k hlt hlty
        have p3 := fun m : Bl wr => cell_block ((m.below.block _ (lt_block HG1.out)).trans HG1.out) 3
        have q3 := fun m : Bl wr => cell_block ((m.below.block _ (lt_block HG2.out)).trans HG2.out) 3
        simp only [List.getElem?_toArray, List.getElem?_cons_zero, List.getElem?_cons_succ] at p3 q3
        rw [AX.out] at p3
        rw [AY.out] at q3
        have x0 := fun m : Bl wr => (LX.out.below m.below).c0 k hlt
        have x1 := fun m : Bl wr => (LX.out.below m.below).c1 k hlt
        have x2 := fun m : Bl wr => (LX.out.below m.below).c2 k hlt
        have x3 := fun m : Bl wr => (LX.out.below m.below).c3 k hlt
        have y0 := fun m : Bl wr => (LY.out.below m.below).c0 k hlty
        have y1 := fun m : Bl wr => (LY.out.below m.below).c1 k hlty
        have y2 := fun m : Bl wr => (LY.out.below m.below).c2 k hlty
        have y3 := fun m : Bl wr => (LY.out.below m.below).c3 k hlty
        have hsa := LX.out.size lx[k] (List.getElem_mem _)
        have hsb := LY.out.size ly[k] (List.getElem_mem _)
        generalize lx[k] = a at *
        generalize ly[k] = b at *
        have HST := Lib.hid hst
        obtain ⟨od, hod⟩ : ∃ od, a.ordS b = od := ⟨_, rfl⟩
        have F : Hid (∀ W, Calls Try.prog 34 #[V a.k a.i a.s a.a a.n a.c, V b.k b.i b.s b.a b.n b.c] W fun e w' => e = .returned (.int .i64 od) ∧ Below W.heap.size W w') := Lib.hid (by
          intro W; rw [← hod]; exact single_any a.k a.i a.s a.a a.n a.c b.k b.i b.s b.a b.n b.c W hsa hsb)
        have HOD := Lib.hid hod
        clear hod hst hsa hsb
        refine wp_region_quietB (by kernel_rfl) (by kernel_rfl) ?_
        iterate 12 (go_big_quiet_step ((go_at_call 34; with_reducible exact Calls.quiet_b (F.out _))))
        refine wpQuiet_nil ?_
        intro m
        have HBM := Lib.hid (HB.out.trans (m.below.mono HB.out.size))
        have HBMw := Lib.hid (HB0.out.trans (HBM.out.mono HB0.out.size))
        clear p3 q3 x0 x1 x2 x3 y0 y1 y2 y3 F
        by_cases hz : od = 0
        · have hz' : (od != 0) = false := by simpa using hz
          have HZ := Lib.hid hz
          clear hz
          go_wp2_with fail
          go_roundw
          case rel => exact ⟨k + 1, by omega, by omega, by go_num, Lib.hid (by rw [HE.out, HST.out, HOD.out, if_pos HZ.out]), HBM⟩
          case measure => simp [intOf]; omega
        · have hz' : (od != 0) = true := by simpa using hz
          go_wp2_with fail
          go_ret
          exact ⟨ret_int (by rw [HE.out, HST.out, HOD.out, if_neg hz]), HBMw.out⟩
      · have hend := lexO_end Val.ordS lx ly k (by omega) (by omega) (by omega)
        have hlty' : ¬ k < y.n := by have := HNy.out; omega
        rw [HNx.out, HNy.out] at hend
        have HEN := Lib.hid hend
        clear hend
        go_wp2_with (go_at_call 37; refine (numbers_any _ _ _).mono ?_; rintro e w' ⟨rfl, rfl⟩)
        go_ret
        exact ⟨ret_int (by rw [HE.out, HEN.out]), HBw.out⟩
    · have hend := lexO_end Val.ordS lx ly k (by omega) (by omega) (by omega)
      have hltx : ¬ k < x.n := by have := HNx.out; omega
      rw [HNx.out, HNy.out] at hend
      have HEN := Lib.hid hend
      clear hend
      go_wp2_with (go_at_call 37; refine (numbers_any _ _ _).mono ?_; rintro e w' ⟨rfl, rfl⟩)
      go_ret
      exact ⟨ret_int (by rw [HE.out, HEN.out]), HBw.out⟩
set_option maxHeartbeats 400000 in
theorem refOrder_any (w : World) (x y : Val) (lx ly : List Val) (hx : Full w x lx) (hy : Full w y ly) :
    Calls Try.prog 14 #[x.v, y.v] w fun e w' => e = .returned (.int .i64 (x.orderS lx y ly)) ∧ Below w.heap.size w w' := by
  by_cases hk : x.k = 5 ∧ y.k = 5
  · rw [Val.orderS, if_pos hk]
    exact refOrder_bags w x y lx ly hx hy (by simpa using hk.1) (by simpa using hk.2)
  · rw [Val.orderS, if_neg hk]
    have F := Lib.hid (fun W => single_any x.k x.i x.s x.a x.n x.c y.k y.i y.s y.a y.n y.c W hx.size hy.size)
    unfold Val.v
    clear hx hy
    by_cases h1 : x.k = 5
    · have h2 : (y.k != 5) = true := by simpa using fun h => hk ⟨h1, h⟩
      have h1' : (x.k != 5) = false := by simpa using h1
      clear hk h1
      go_enter Try.func14, Try.ntmps14
      go_wp2_with fail
      refine (F.out _).mono ?_
      rintro e w1 ⟨rfl, hb⟩
      have HB := Lib.hid ((((Below.refl w.heap.size w).alloc (Nat.le_refl _) _).alloc (by simp) _).trans (hb.mono (by simp; omega)))
      clear hb F
      go_wp2_with fail
      go_ret
      exact ⟨rfl, HB.out⟩
    · have h1' : (x.k != 5) = true := by simpa using h1
      clear hk h1
      go_enter Try.func14, Try.ntmps14
      go_wp2_with fail
      refine (F.out _).mono ?_
      rintro e w1 ⟨rfl, hb⟩
      have HB := Lib.hid ((((Below.refl w.heap.size w).alloc (Nat.le_refl _) _).alloc (by simp) _).trans (hb.mono (by simp; omega)))
      clear hb F
      go_wp2_with fail
      go_ret
      exact ⟨rfl, HB.out⟩
end Go.Proofs.Ytgfnbbclopdapaa
