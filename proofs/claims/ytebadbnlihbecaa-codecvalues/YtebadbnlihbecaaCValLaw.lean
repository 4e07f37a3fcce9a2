/- P3.3, P3.4: of all values the bytes are told, and the value of them; no other value has them: the law. -/
import Derived.Test.YtebadbnlihbecaaCValMath
import Derived.Test.YtebadbnlihbecaaVTwo
namespace Go.Proofs.Ytebadbnlihbecaa
open Go.RowKit

/-- what the law keeps: its two arguments' blocks -/
structure Two (w : World) (x z : Val) (wr : World) : Prop where
  xb : wr.heap[w.heap.size]? = some (.cells #[.int .i64 x.k, .int .i64 x.i, .string x.s, .slice x.a x.n x.c] 33 (0, 0))
  zb : wr.heap[w.heap.size + 1]? = some (.cells #[.int .i64 z.k, .int .i64 z.i, .string z.s, .slice z.a z.n z.c] 33 (0, 0))
  below : Below w.heap.size w wr
theorem Two.go {w wr wr' : World} {x z : Val} (h : Two w x z wr) (hb : Below wr.heap.size wr wr') : Two w x z wr' :=
  ⟨(hb.block _ (lt_block h.xb)).trans h.xb, (hb.block _ (lt_block h.zb)).trans h.zb, h.below.trans (hb.mono h.below.size)⟩
theorem Two.cx {w wr : World} {x z : Val} (h : Two w x z wr) : wr.cell? ⟨w.heap.size, 0, none⟩ = some (.int .i64 x.k) ∧ wr.cell? ⟨w.heap.size, 1, none⟩ = some (.int .i64 x.i) ∧ wr.cell? ⟨w.heap.size, 2, none⟩ = some (.string x.s) ∧ wr.cell? ⟨w.heap.size, 3, none⟩ = some (.slice x.a x.n x.c) :=
  ⟨cell_block h.xb 0, cell_block h.xb 1, cell_block h.xb 2, cell_block h.xb 3⟩
theorem Two.cz {w wr : World} {x z : Val} (h : Two w x z wr) : wr.cell? ⟨w.heap.size + 1, 0, none⟩ = some (.int .i64 z.k) ∧ wr.cell? ⟨w.heap.size + 1, 1, none⟩ = some (.int .i64 z.i) ∧ wr.cell? ⟨w.heap.size + 1, 2, none⟩ = some (.string z.s) ∧ wr.cell? ⟨w.heap.size + 1, 3, none⟩ = some (.slice z.a z.n z.c) :=
  ⟨cell_block h.zb 0, cell_block h.zb 1, cell_block h.zb 2, cell_block h.zb 3⟩
theorem Two.lt {w wr : World} {x z : Val} (h : Two w x z wr) : w.heap.size + 1 < wr.heap.size := lt_block h.zb
theorem join {G : Prop} {C : Value → World → Prop} (P : Value → World → Prop) (main : (∀ v w, C v w → P v w) → G) (rest : ∀ v w, C v w → P v w) : G := main rest

set_option maxRecDepth 100000 in
set_option maxHeartbeats 4000000 in
theorem values_any (w : World) (x z : Val) (lx lz : List Val) (hx : Full w x lx) (hz : Full w z lz) (ix : IOk x) (iz : IOk z) (ilx : ∀ y ∈ lx, IOk y) (ilz : ∀ y ∈ lz, IOk y) :
    Calls Try.prog 5 #[x.v, z.v] w fun e w' => e = .returned (.bool true) ∧ Below w.heap.size w w' := by
  have HX := Lib.hid hx
  have HZ := Lib.hid hz
  have IX := Lib.hid ix
  have IZ := Lib.hid iz
  have ILX := Lib.hid ilx
  have ILZ := Lib.hid ilz
  clear hx hz ix iz ilx ilz
  unfold Val.v V
  go_enter Try.func5, Try.ntmps5
  go_wp2_with fail
  generalize hW : World.alloc _ _ = W0
  have HT0 : Hid (Two w x z W0) := Lib.hid (by rw [← hW]; exact ⟨(two_blocks w _ _).1, (two_blocks w _ _).2, below2 w _ _⟩)
  clear hW
  refine (awake_any W0).mono ?_
  rintro e w1 ⟨rfl, hb1⟩
  have HT1 := Lib.hid (HT0.out.go hb1)
  clear hb1 HT0
  obtain ⟨x0, x1, x2, x3⟩ := HT1.out.cx
  obtain ⟨z0, z1, z2, z3⟩ := HT1.out.cz
  have hl1 := HT1.out.lt
  go_wp2_with fail
  generalize hW : World.alloc w1 _ = W2
  have hb2 : Below w1.heap.size w1 W2 := by rw [← hW]; exact (Below.refl _ _).alloc (Nat.le_refl _) _
  have hh : W2.heap[w1.heap.size]? = some (.cells #[.int .i64 x.k, .int .i64 x.i, .string x.s, .slice x.a x.n x.c, .int .i64 z.k, .int .i64 z.i, .string z.s, .slice z.a z.n z.c] 33 (0, 0)) := by rw [← hW]; exact heap_alloc_new _ _
  have HT2 := Lib.hid (HT1.out.go hb2)
  have hl := listAt_two hh HX.out.size HZ.out.size
  have hc := few_any W2 [(x, lx), (z, lz)] (some ⟨w1.heap.size, 0, none⟩) w1.heap.size 0 2 2 hl (by
    intro p hp
    rcases List.mem_cons.1 hp with rfl | hp
    · exact HX.out.below HT2.out.below
    rcases List.mem_cons.1 hp with rfl | hp
    · exact HZ.out.below HT2.out.below
    cases hp) (by unfold maxLen; simp)
  clear hW hh hl hb2 x0 x1 x2 x3 z0 z1 z2 z3 hl1
  refine hc.mono ?_
  rintro e w3 ⟨rfl, rfl⟩
  generalize ((List.take 100 [(x, lx), (z, lz)]).all (fun p => small p.1 p.2) && decide ((([(x, lx), (z, lz)] : List (Val × List Val)).length : Int) ≤ 2)) = sm
  clear hc HT1
  cases sm
  · go_wp2_with fail
    refine (awake_any _).mono ?_
    rintro e w3 ⟨rfl, hb⟩
    have HT3 := Lib.hid (HT2.out.go hb)
    clear hb
    go_wp2_with fail
    go_ret
    exact ⟨rfl, HT3.out.below⟩
  obtain ⟨x0, x1, x2, x3⟩ := HT2.out.cx
  have hl2 := HT2.out.lt
  have E := encode_any W2 x lx (HX.out.below HT2.out.below)
  unfold V at E
  have HE := Lib.hid E
  clear E
  go_wp2_with fail
  refine HE.out.mono ?_
  rintro e w3 ⟨b, rfl, hs3, hb3⟩
  have HT3 := Lib.hid (HT2.out.go hb3)
  clear HE hb3 x0 x1 x2 x3 hl2 HT2
  obtain ⟨x0, x1, x2, x3⟩ := HT3.out.cx
  have hl3 := HT3.out.lt
  have F := Lib.hid (refFormed_any w3 x lx (HX.out.below HT3.out.below))
  obtain ⟨f, hfx⟩ : ∃ f, x.formed lx = f := ⟨_, rfl⟩
  rw [hfx] at F
  unfold Val.v V at F
  have HFX := Lib.hid hfx
  clear hfx
  cases f
  · have e1 : encE x lx = 1 := if_neg (by rw [HFX.out]; decide)
    have e2 : encB x lx = [] := if_neg (by rw [HFX.out]; decide)
    rw [e1]
    rw [e2] at hs3
    obtain ⟨ba, bc, rfl⟩ := hs3.shape
    clear hs3 e1 e2
    go_wp2_with fail
    refine F.out.mono ?_
    rintro e w4 ⟨rfl, hb4⟩
    have HT4 := Lib.hid (HT3.out.go hb4)
    clear hb4 F x0 x1 x2 x3
    go_wp2_with fail
    go_ret
    exact ⟨rfl, HT4.out.below⟩
  obtain ⟨e1, e2⟩ := enc_good HFX.out HX.out.len
  rw [e1]
  rw [e2] at hs3
  have hlm := valB_most HFX.out
  obtain ⟨d1, d2⟩ := dec_back HFX.out IX.out ILX.out HX.out.len
  obtain ⟨l, hl⟩ : ∃ l, valB x lx = l := ⟨_, rfl⟩
  rw [hl] at hs3 hlm d1 d2
  have HVL := Lib.hid hl
  have HD1 := Lib.hid d1
  have HD2 := Lib.hid d2
  clear hl d1 d2
  have HS3 := Lib.hid hs3
  obtain ⟨ba, bc, rfl⟩ := hs3.shape
  clear hs3 e1 e2
  go_wp2_with fail
  refine F.out.mono ?_
  rintro e w4 ⟨rfl, hb4⟩
  have HT4 := Lib.hid (HT3.out.go hb4)
  have HS4 := Lib.hid (HS3.out.below hb4)
  clear hb4 F x0 x1 x2 x3 HT3 HS3 hl3
  have D := Lib.hid (decode_any w4 _ l (by unfold maxLen; omega) HS4.out)
  rw [show decE l = 0 from if_pos HD1.out, HD1.out] at D
  go_wp2_with fail
  refine D.out.mono ?_
  rintro e w5 ⟨y, ly, rfl, hfl, hok, hno, hb5⟩
  have HT5 := Lib.hid (HT4.out.go hb5)
  have HS5 := Lib.hid (HS4.out.below hb5)
  have HFY := Lib.hid hfl
  have hsm : sameB y ly x lx = true := by
    obtain ⟨a1, a2, a3, a4⟩ := hok trivial
    rw [HD2.out] at a1 a2 a3 a4
    exact same_back HFX.out HX.out.len hfl.len a1 a2 a3 a4
  have HSM := Lib.hid hsm
  clear hb5 hfl hok hno D HT4 HS4 hsm HD2
  unfold Val.v V
  go_wp2_with fail
  generalize hW : World.alloc w5 _ = W6
  have hb6 : Below w5.heap.size w5 W6 := by rw [← hW]; exact (Below.refl _ _).alloc (Nat.le_refl _) _
  have HY6 : Hid (W6.heap[w5.heap.size]? = some (.cells #[.int .i64 y.k, .int .i64 y.i, .string y.s, .slice y.a y.n y.c] 33 (0, 0))) := Lib.hid (by rw [← hW]; exact heap_alloc_new _ _)
  have HT6 := Lib.hid (HT5.out.go hb6)
  have HS6 := Lib.hid (HS5.out.below hb6)
  have HFY6 := Lib.hid (HFY.out.below hb6)
  clear hW hb6 HT5 HS5 HFY
  obtain ⟨x0, x1, x2, x3⟩ := HT6.out.cx
  have hl6 := HT6.out.lt
  have hl6' : w5.heap.size < W6.heap.size := lt_block HY6.out
  have R := Lib.hid (refValue_any W6.drew x lx (HX.out.below HT6.out.below.drew) HFX.out IX.out ILX.out)
  rw [HVL.out] at R
  have C := Lib.hid (fun W (hW : Below W6.heap.size W6 W) => conv_bytes (HS6.out.below hW))
  have hc6 := C.out W6.drew (Below.refl _ _).drew
  have S := Lib.hid (fun W (hW : Below W6.heap.size W6 W) => same_any W y x ly lx (HFY6.out.below hW) (HX.out.below (HT6.out.go hW).below))
  rw [HSM.out] at S
  unfold Val.v V at S
  have CC : Hid (∀ W7, Below W6.heap.size W6 W7 → W7.cell? ⟨w.heap.size, 0, none⟩ = some (.int .i64 x.k) ∧ W7.cell? ⟨w.heap.size, 1, none⟩ = some (.int .i64 x.i) ∧ W7.cell? ⟨w.heap.size, 2, none⟩ = some (.string x.s) ∧ W7.cell? ⟨w.heap.size, 3, none⟩ = some (.slice x.a x.n x.c) ∧ W7.cell? ⟨w5.heap.size, 0, none⟩ = some (.int .i64 y.k) ∧ W7.cell? ⟨w5.heap.size, 1, none⟩ = some (.int .i64 y.i) ∧ W7.cell? ⟨w5.heap.size, 2, none⟩ = some (.string y.s) ∧ W7.cell? ⟨w5.heap.size, 3, none⟩ = some (.slice y.a y.n y.c) ∧ w.heap.size + 1 < W7.heap.size ∧ w5.heap.size < W7.heap.size) := Lib.hid (fun W7 hb => by
    obtain ⟨p0, p1, p2, p3⟩ := (HT6.out.go hb).cx
    have hy7 := (hb.block _ hl6').trans HY6.out
    exact ⟨p0, p1, p2, p3, cell_block hy7 0, cell_block hy7 1, cell_block hy7 2, cell_block hy7 3, (HT6.out.go hb).lt, lt_block hy7⟩)
  apply join (C := fun (_ : Value) w' => Hid (Below W6.heap.size W6 w'))
  case main =>
    intro key
    have HKEY := Lib.hid key
    clear key
    refine wp_region_any (by kernel_rfl) ?_
    change wpAny _ _ _ _ _ _ _ (World.drew _)
    refine wpAny_ready (rs := [0]) (by kernel_rfl) (by simp) ?_
    refine AllReady.cons rfl (fun K hK => ?_) ?_
    · go_simp
      refine hK _ _ ?_; clear hK K
      refine wpAny_ready (rs := [1]) (by kernel_rfl) (by simp) ?_
      refine AllReady.cons rfl (fun K hK => ?_) ?_
      · go_simp
        refine hK _ _ ?_; clear hK K
        refine wpAny_ready (rs := [2]) (by kernel_rfl) (by simp) ?_
        refine AllReady.cons rfl (fun K hK => ?_) ?_
        · go_simp
          refine hK _ _ ?_; clear hK K
          refine wpAny_ready (rs := [3]) (by kernel_rfl) (by simp) ?_
          refine AllReady.cons rfl (fun K hK => ?_) ?_
          · go_simp
            refine hK _ _ ?_; clear hK K
            refine wpAny_ready (rs := [4]) (by kernel_rfl) (by simp) ?_
            refine AllReady.cons rfl (fun K hK => ?_) ?_
            · go_simp
              refine hK _ _ ?_; clear hK K
              refine wpAny_ready (rs := [5]) (by kernel_rfl) (by simp) ?_
              refine AllReady.cons rfl (fun K hK => ?_) ?_
              · go_simp
                refine hK _ _ ?_; clear hK K
                refine wpAny_ready (rs := [6]) (by kernel_rfl) (by simp) ?_
                refine AllReady.cons rfl (fun K hK => ?_) ?_
                · go_simp
                  refine hK _ _ ?_; clear hK K
                  refine wpAny_take (i := 7) (v := ?_) rfl (by kernel_rfl) (by kernel_rfl) (by kernel_rfl) (fun _ _ _ h => h) (Or.inl ⟨by rfl, ?_⟩) ?_
                  rotate_left 1
                  · intro w; go_simp; try with_reducible rfl
                  refine wpAny_ready (rs := [8, 9]) (by kernel_rfl) (by simp) ?_
                  refine AllReady.cons rfl (fun K hK => ?_) ?_
                  · go_simp
                    refine hK _ _ ?_; clear hK K
                    refine wpAny_ready (rs := [9]) (by kernel_rfl) (by simp) ?_
                    refine AllReady.cons rfl (fun K hK => ?_) ?_
                    · go_simp
                      refine hK _ _ ?_; clear hK K
                      refine wpAny_ready (rs := [10]) (by kernel_rfl) (by simp) ?_
                      refine AllReady.cons rfl (fun K hK => ?_) ?_
                      · go_simp
                        go_wp2_with (go_at_call 28; refine R.out.mono ?_; rintro e w7 ⟨v7, rfl, hv7, hb7⟩; have HB7 : Hid (Below W6.heap.size W6 w7) := Lib.hid ((Below.refl W6.heap.size W6).drew.trans hb7); have hcv7 := conv_bytes hv7.src; have hcb7 := C.out _ HB7.out; obtain ⟨p0, p1, p2, p3, q0, q1, q2, q3, hl7, hl7'⟩ := CC.out _ HB7.out; clear hb7 hv7)
                        refine wpAny_ready (rs := [11]) (by kernel_rfl) (by simp) ?_
                        refine AllReady.cons rfl (fun K hK => ?_) ?_
                        · go_simp
                          refine hK _ _ ?_; clear hK K
                          refine wpAny_ready (rs := [12]) (by kernel_rfl) (by simp) ?_
                          refine AllReady.cons rfl (fun K hK => ?_) ?_
                          · go_simp
                            refine hK _ _ ?_; clear hK K
                            refine wpAny_ready (rs := [13]) (by kernel_rfl) (by simp) ?_
                            refine AllReady.cons rfl (fun K hK => ?_) ?_
                            · go_simp
                              refine hK _ _ ?_; clear hK K
                              refine wpAny_ready (rs := [14]) (by kernel_rfl) (by simp) ?_
                              refine AllReady.cons rfl (fun K hK => ?_) ?_
                              · go_simp
                                refine hK _ _ ?_; clear hK K
                                refine wpAny_ready (rs := [15, 16]) (by kernel_rfl) (by simp) ?_
                                refine AllReady.cons rfl (fun K hK => ?_) ?_
                                · go_simp
                                  refine hK _ _ ?_; clear hK K
                                  refine wpAny_ready (rs := [16]) (by kernel_rfl) (by simp) ?_
                                  refine AllReady.cons rfl (fun K hK => ?_) ?_
                                  · go_simp
                                    refine hK _ _ ?_; clear hK K
                                    refine wpAny_ready (rs := [17]) (by kernel_rfl) (by simp) ?_
                                    refine AllReady.cons rfl (fun K hK => ?_) ?_
                                    · go_simp
                                      go_wp2_with (go_at_call 29; refine (S.out _ HB7.out).mono ?_; rintro e w8 ⟨rfl, hb8⟩; have HB8 := Lib.hid (HB7.out.trans (hb8.mono HB7.out.size)); clear hb8)
                                      refine wpAny_ready (rs := [18]) (by kernel_rfl) (by simp) ?_
                                      refine AllReady.cons rfl (fun K hK => ?_) ?_
                                      · go_simp
                                        refine hK _ _ ?_; clear hK K
                                        refine wpAny_ready (rs := [19]) (by kernel_rfl) (by simp) ?_
                                        refine AllReady.cons rfl (fun K hK => ?_) ?_
                                        · go_simp
                                          refine hK _ _ ?_; clear hK K
                                          refine wpAny_done (by kernel_rfl) ?_ _
                                          exact HKEY.out v7 w8 HB8
                                        exact AllReady.nil
                                      exact AllReady.nil
                                    exact AllReady.nil
                                  exact AllReady.nil
                                refine AllReady.cons rfl (fun K hK => ?_) ?_
                                · go_simp
                                  refine hK _ _ ?_; clear hK K
                                  refine wpAny_ready (rs := [15]) (by kernel_rfl) (by simp) ?_
                                  refine AllReady.cons rfl (fun K hK => ?_) ?_
                                  · go_simp
                                    refine hK _ _ ?_; clear hK K
                                    refine wpAny_ready (rs := [17]) (by kernel_rfl) (by simp) ?_
                                    refine AllReady.cons rfl (fun K hK => ?_) ?_
                                    · go_simp
                                      go_wp2_with (go_at_call 29; refine (S.out _ HB7.out).mono ?_; rintro e w8 ⟨rfl, hb8⟩; have HB8 := Lib.hid (HB7.out.trans (hb8.mono HB7.out.size)); clear hb8)
                                      refine wpAny_ready (rs := [18]) (by kernel_rfl) (by simp) ?_
                                      refine AllReady.cons rfl (fun K hK => ?_) ?_
                                      · go_simp
                                        refine hK _ _ ?_; clear hK K
                                        refine wpAny_ready (rs := [19]) (by kernel_rfl) (by simp) ?_
                                        refine AllReady.cons rfl (fun K hK => ?_) ?_
                                        · go_simp
                                          refine hK _ _ ?_; clear hK K
                                          refine wpAny_done (by kernel_rfl) ?_ _
                                          exact HKEY.out v7 w8 HB8
                                        exact AllReady.nil
                                      exact AllReady.nil
                                    exact AllReady.nil
                                  exact AllReady.nil
                                exact AllReady.nil
                              exact AllReady.nil
                            exact AllReady.nil
                          exact AllReady.nil
                        exact AllReady.nil
                      exact AllReady.nil
                    exact AllReady.nil
                  refine AllReady.cons rfl (fun K hK => ?_) ?_
                  · go_simp
                    refine hK _ _ ?_; clear hK K
                    refine wpAny_ready (rs := [8, 10]) (by kernel_rfl) (by simp) ?_
                    refine AllReady.cons rfl (fun K hK => ?_) ?_
                    · go_simp
                      refine hK _ _ ?_; clear hK K
                      refine wpAny_ready (rs := [10]) (by kernel_rfl) (by simp) ?_
                      refine AllReady.cons rfl (fun K hK => ?_) ?_
                      · go_simp
                        go_wp2_with (go_at_call 28; refine R.out.mono ?_; rintro e w7 ⟨v7, rfl, hv7, hb7⟩; have HB7 : Hid (Below W6.heap.size W6 w7) := Lib.hid ((Below.refl W6.heap.size W6).drew.trans hb7); have hcv7 := conv_bytes hv7.src; have hcb7 := C.out _ HB7.out; obtain ⟨p0, p1, p2, p3, q0, q1, q2, q3, hl7, hl7'⟩ := CC.out _ HB7.out; clear hb7 hv7)
                        refine wpAny_ready (rs := [11]) (by kernel_rfl) (by simp) ?_
                        refine AllReady.cons rfl (fun K hK => ?_) ?_
                        · go_simp
                          refine hK _ _ ?_; clear hK K
                          refine wpAny_ready (rs := [12]) (by kernel_rfl) (by simp) ?_
                          refine AllReady.cons rfl (fun K hK => ?_) ?_
                          · go_simp
                            refine hK _ _ ?_; clear hK K
                            refine wpAny_ready (rs := [13]) (by kernel_rfl) (by simp) ?_
                            refine AllReady.cons rfl (fun K hK => ?_) ?_
                            · go_simp
                              refine hK _ _ ?_; clear hK K
                              refine wpAny_ready (rs := [14]) (by kernel_rfl) (by simp) ?_
                              refine AllReady.cons rfl (fun K hK => ?_) ?_
                              · go_simp
                                refine hK _ _ ?_; clear hK K
                                refine wpAny_ready (rs := [15, 16]) (by kernel_rfl) (by simp) ?_
                                refine AllReady.cons rfl (fun K hK => ?_) ?_
                                · go_simp
                                  refine hK _ _ ?_; clear hK K
                                  refine wpAny_ready (rs := [16]) (by kernel_rfl) (by simp) ?_
                                  refine AllReady.cons rfl (fun K hK => ?_) ?_
                                  · go_simp
                                    refine hK _ _ ?_; clear hK K
                                    refine wpAny_ready (rs := [17]) (by kernel_rfl) (by simp) ?_
                                    refine AllReady.cons rfl (fun K hK => ?_) ?_
                                    · go_simp
                                      go_wp2_with (go_at_call 29; refine (S.out _ HB7.out).mono ?_; rintro e w8 ⟨rfl, hb8⟩; have HB8 := Lib.hid (HB7.out.trans (hb8.mono HB7.out.size)); clear hb8)
                                      refine wpAny_ready (rs := [18]) (by kernel_rfl) (by simp) ?_
                                      refine AllReady.cons rfl (fun K hK => ?_) ?_
                                      · go_simp
                                        refine hK _ _ ?_; clear hK K
                                        refine wpAny_ready (rs := [19]) (by kernel_rfl) (by simp) ?_
                                        refine AllReady.cons rfl (fun K hK => ?_) ?_
                                        · go_simp
                                          refine hK _ _ ?_; clear hK K
                                          refine wpAny_done (by kernel_rfl) ?_ _
                                          exact HKEY.out v7 w8 HB8
                                        exact AllReady.nil
                                      exact AllReady.nil
                                    exact AllReady.nil
                                  exact AllReady.nil
                                refine AllReady.cons rfl (fun K hK => ?_) ?_
                                · go_simp
                                  refine hK _ _ ?_; clear hK K
                                  refine wpAny_ready (rs := [15]) (by kernel_rfl) (by simp) ?_
                                  refine AllReady.cons rfl (fun K hK => ?_) ?_
                                  · go_simp
                                    refine hK _ _ ?_; clear hK K
                                    refine wpAny_ready (rs := [17]) (by kernel_rfl) (by simp) ?_
                                    refine AllReady.cons rfl (fun K hK => ?_) ?_
                                    · go_simp
                                      go_wp2_with (go_at_call 29; refine (S.out _ HB7.out).mono ?_; rintro e w8 ⟨rfl, hb8⟩; have HB8 := Lib.hid (HB7.out.trans (hb8.mono HB7.out.size)); clear hb8)
                                      refine wpAny_ready (rs := [18]) (by kernel_rfl) (by simp) ?_
                                      refine AllReady.cons rfl (fun K hK => ?_) ?_
                                      · go_simp
                                        refine hK _ _ ?_; clear hK K
                                        refine wpAny_ready (rs := [19]) (by kernel_rfl) (by simp) ?_
                                        refine AllReady.cons rfl (fun K hK => ?_) ?_
                                        · go_simp
                                          refine hK _ _ ?_; clear hK K
                                          refine wpAny_done (by kernel_rfl) ?_ _
                                          exact HKEY.out v7 w8 HB8
                                        exact AllReady.nil
                                      exact AllReady.nil
                                    exact AllReady.nil
                                  exact AllReady.nil
                                exact AllReady.nil
                              exact AllReady.nil
                            exact AllReady.nil
                          exact AllReady.nil
                        exact AllReady.nil
                      exact AllReady.nil
                    refine AllReady.cons rfl (fun K hK => ?_) ?_
                    · go_simp
                      go_wp2_with (go_at_call 28; refine R.out.mono ?_; rintro e w7 ⟨v7, rfl, hv7, hb7⟩; have HB7 : Hid (Below W6.heap.size W6 w7) := Lib.hid ((Below.refl W6.heap.size W6).drew.trans hb7); have hcv7 := conv_bytes hv7.src; have hcb7 := C.out _ HB7.out; obtain ⟨p0, p1, p2, p3, q0, q1, q2, q3, hl7, hl7'⟩ := CC.out _ HB7.out; clear hb7 hv7)
                      refine wpAny_ready (rs := [8, 11]) (by kernel_rfl) (by simp) ?_
                      refine AllReady.cons rfl (fun K hK => ?_) ?_
                      · go_simp
                        refine hK _ _ ?_; clear hK K
                        refine wpAny_ready (rs := [11]) (by kernel_rfl) (by simp) ?_
                        refine AllReady.cons rfl (fun K hK => ?_) ?_
                        · go_simp
                          refine hK _ _ ?_; clear hK K
                          refine wpAny_ready (rs := [12]) (by kernel_rfl) (by simp) ?_
                          refine AllReady.cons rfl (fun K hK => ?_) ?_
                          · go_simp
                            refine hK _ _ ?_; clear hK K
                            refine wpAny_ready (rs := [13]) (by kernel_rfl) (by simp) ?_
                            refine AllReady.cons rfl (fun K hK => ?_) ?_
                            · go_simp
                              refine hK _ _ ?_; clear hK K
                              refine wpAny_ready (rs := [14]) (by kernel_rfl) (by simp) ?_
                              refine AllReady.cons rfl (fun K hK => ?_) ?_
                              · go_simp
                                refine hK _ _ ?_; clear hK K
                                refine wpAny_ready (rs := [15, 16]) (by kernel_rfl) (by simp) ?_
                                refine AllReady.cons rfl (fun K hK => ?_) ?_
                                · go_simp
                                  refine hK _ _ ?_; clear hK K
                                  refine wpAny_ready (rs := [16]) (by kernel_rfl) (by simp) ?_
                                  refine AllReady.cons rfl (fun K hK => ?_) ?_
                                  · go_simp
                                    refine hK _ _ ?_; clear hK K
                                    refine wpAny_ready (rs := [17]) (by kernel_rfl) (by simp) ?_
                                    refine AllReady.cons rfl (fun K hK => ?_) ?_
                                    · go_simp
                                      go_wp2_with (go_at_call 29; refine (S.out _ HB7.out).mono ?_; rintro e w8 ⟨rfl, hb8⟩; have HB8 := Lib.hid (HB7.out.trans (hb8.mono HB7.out.size)); clear hb8)
                                      refine wpAny_ready (rs := [18]) (by kernel_rfl) (by simp) ?_
                                      refine AllReady.cons rfl (fun K hK => ?_) ?_
                                      · go_simp
                                        refine hK _ _ ?_; clear hK K
                                        refine wpAny_ready (rs := [19]) (by kernel_rfl) (by simp) ?_
                                        refine AllReady.cons rfl (fun K hK => ?_) ?_
                                        · go_simp
                                          refine hK _ _ ?_; clear hK K
                                          refine wpAny_done (by kernel_rfl) ?_ _
                                          exact HKEY.out v7 w8 HB8
                                        exact AllReady.nil
                                      exact AllReady.nil
                                    exact AllReady.nil
                                  exact AllReady.nil
                                refine AllReady.cons rfl (fun K hK => ?_) ?_
                                · go_simp
                                  refine hK _ _ ?_; clear hK K
                                  refine wpAny_ready (rs := [15]) (by kernel_rfl) (by simp) ?_
                                  refine AllReady.cons rfl (fun K hK => ?_) ?_
                                  · go_simp
                                    refine hK _ _ ?_; clear hK K
                                    refine wpAny_ready (rs := [17]) (by kernel_rfl) (by simp) ?_
                                    refine AllReady.cons rfl (fun K hK => ?_) ?_
                                    · go_simp
                                      go_wp2_with (go_at_call 29; refine (S.out _ HB7.out).mono ?_; rintro e w8 ⟨rfl, hb8⟩; have HB8 := Lib.hid (HB7.out.trans (hb8.mono HB7.out.size)); clear hb8)
                                      refine wpAny_ready (rs := [18]) (by kernel_rfl) (by simp) ?_
                                      refine AllReady.cons rfl (fun K hK => ?_) ?_
                                      · go_simp
                                        refine hK _ _ ?_; clear hK K
                                        refine wpAny_ready (rs := [19]) (by kernel_rfl) (by simp) ?_
                                        refine AllReady.cons rfl (fun K hK => ?_) ?_
                                        · go_simp
                                          refine hK _ _ ?_; clear hK K
                                          refine wpAny_done (by kernel_rfl) ?_ _
                                          exact HKEY.out v7 w8 HB8
                                        exact AllReady.nil
                                      exact AllReady.nil
                                    exact AllReady.nil
                                  exact AllReady.nil
                                exact AllReady.nil
                              exact AllReady.nil
                            exact AllReady.nil
                          exact AllReady.nil
                        exact AllReady.nil
                      refine AllReady.cons rfl (fun K hK => ?_) ?_
                      · go_simp
                        refine hK _ _ ?_; clear hK K
                        refine wpAny_ready (rs := [8]) (by kernel_rfl) (by simp) ?_
                        refine AllReady.cons rfl (fun K hK => ?_) ?_
                        · go_simp
                          refine hK _ _ ?_; clear hK K
                          refine wpAny_ready (rs := [12]) (by kernel_rfl) (by simp) ?_
                          refine AllReady.cons rfl (fun K hK => ?_) ?_
                          · go_simp
                            refine hK _ _ ?_; clear hK K
                            refine wpAny_ready (rs := [13]) (by kernel_rfl) (by simp) ?_
                            refine AllReady.cons rfl (fun K hK => ?_) ?_
                            · go_simp
                              refine hK _ _ ?_; clear hK K
                              refine wpAny_ready (rs := [14]) (by kernel_rfl) (by simp) ?_
                              refine AllReady.cons rfl (fun K hK => ?_) ?_
                              · go_simp
                                refine hK _ _ ?_; clear hK K
                                refine wpAny_ready (rs := [15, 16]) (by kernel_rfl) (by simp) ?_
                                refine AllReady.cons rfl (fun K hK => ?_) ?_
                                · go_simp
                                  refine hK _ _ ?_; clear hK K
                                  refine wpAny_ready (rs := [16]) (by kernel_rfl) (by simp) ?_
                                  refine AllReady.cons rfl (fun K hK => ?_) ?_
                                  · go_simp
                                    refine hK _ _ ?_; clear hK K
                                    refine wpAny_ready (rs := [17]) (by kernel_rfl) (by simp) ?_
                                    refine AllReady.cons rfl (fun K hK => ?_) ?_
                                    · go_simp
                                      go_wp2_with (go_at_call 29; refine (S.out _ HB7.out).mono ?_; rintro e w8 ⟨rfl, hb8⟩; have HB8 := Lib.hid (HB7.out.trans (hb8.mono HB7.out.size)); clear hb8)
                                      refine wpAny_ready (rs := [18]) (by kernel_rfl) (by simp) ?_
                                      refine AllReady.cons rfl (fun K hK => ?_) ?_
                                      · go_simp
                                        refine hK _ _ ?_; clear hK K
                                        refine wpAny_ready (rs := [19]) (by kernel_rfl) (by simp) ?_
                                        refine AllReady.cons rfl (fun K hK => ?_) ?_
                                        · go_simp
                                          refine hK _ _ ?_; clear hK K
                                          refine wpAny_done (by kernel_rfl) ?_ _
                                          exact HKEY.out v7 w8 HB8
                                        exact AllReady.nil
                                      exact AllReady.nil
                                    exact AllReady.nil
                                  exact AllReady.nil
                                refine AllReady.cons rfl (fun K hK => ?_) ?_
                                · go_simp
                                  refine hK _ _ ?_; clear hK K
                                  refine wpAny_ready (rs := [15]) (by kernel_rfl) (by simp) ?_
                                  refine AllReady.cons rfl (fun K hK => ?_) ?_
                                  · go_simp
                                    refine hK _ _ ?_; clear hK K
                                    refine wpAny_ready (rs := [17]) (by kernel_rfl) (by simp) ?_
                                    refine AllReady.cons rfl (fun K hK => ?_) ?_
                                    · go_simp
                                      go_wp2_with (go_at_call 29; refine (S.out _ HB7.out).mono ?_; rintro e w8 ⟨rfl, hb8⟩; have HB8 := Lib.hid (HB7.out.trans (hb8.mono HB7.out.size)); clear hb8)
                                      refine wpAny_ready (rs := [18]) (by kernel_rfl) (by simp) ?_
                                      refine AllReady.cons rfl (fun K hK => ?_) ?_
                                      · go_simp
                                        refine hK _ _ ?_; clear hK K
                                        refine wpAny_ready (rs := [19]) (by kernel_rfl) (by simp) ?_
                                        refine AllReady.cons rfl (fun K hK => ?_) ?_
                                        · go_simp
                                          refine hK _ _ ?_; clear hK K
                                          refine wpAny_done (by kernel_rfl) ?_ _
                                          exact HKEY.out v7 w8 HB8
                                        exact AllReady.nil
                                      exact AllReady.nil
                                    exact AllReady.nil
                                  exact AllReady.nil
                                exact AllReady.nil
                              exact AllReady.nil
                            exact AllReady.nil
                          exact AllReady.nil
                        exact AllReady.nil
                      exact AllReady.nil
                    exact AllReady.nil
                  exact AllReady.nil
                exact AllReady.nil
              exact AllReady.nil
            exact AllReady.nil
          exact AllReady.nil
        exact AllReady.nil
      exact AllReady.nil
    exact AllReady.nil
  case rest =>
    intro v7 w8 HB8
    have HT8 := Lib.hid (HT6.out.go HB8.out)
    have HS8 := Lib.hid (HS6.out.below HB8.out)
    clear HB8 CC S hc6 C R hl6 hl6' x0 x1 x2 x3 HFY6 HS6 HT6 HY6 HSM
    obtain ⟨z0, z1, z2, z3⟩ := HT8.out.cz
    have hl8 := HT8.out.lt
    have E := encode_any w8 z lz (HZ.out.below HT8.out.below)
    unfold V at E
    have HE := Lib.hid E
    clear E
    go_wp2_with fail
    refine HE.out.mono ?_
    rintro e w9 ⟨c, rfl, hs9, hb9⟩
    have HT9 := Lib.hid (HT8.out.go hb9)
    have HS9 := Lib.hid (HS8.out.below hb9)
    clear HE hb9 z0 z1 z2 z3 hl8 HT8 HS8
    obtain ⟨g, hgz⟩ : ∃ g, z.formed lz = g := ⟨_, rfl⟩
    have HGZ := Lib.hid hgz
    clear hgz
    cases g
    · have e1 : encE z lz = 1 := if_neg (by rw [HGZ.out]; decide)
      rw [e1]
      clear e1 hs9
      go_wp2_with fail
      refine wp_region_quiet_tailB 13 (by kernel_rfl) (by kernel_rfl) ?_
      simp only [List.take_succ_cons, List.take_zero, List.drop_succ_cons, List.drop_zero]
      iterate 13 (go_big_quiet_step (fail))
      refine wpQuiet_nil ?_
      intro m
      have HTm := Lib.hid (HT9.out.go m.below)
      generalize m.wr = wm at *
      clear m
      go_wp2_with fail
      go_ret
      exact ⟨rfl, HTm.out.below⟩
    obtain ⟨e1, e2⟩ := enc_good HGZ.out HZ.out.len
    have hbs := bytes_same HFX.out IX.out ILX.out HX.out.len HGZ.out IZ.out ILZ.out HZ.out.len
    rw [e1]
    rw [e2] at hs9
    obtain ⟨lc, hlc⟩ : ∃ lc, valB z lz = lc := ⟨_, rfl⟩
    rw [HVL.out, hlc] at hbs
    rw [hlc] at hs9
    obtain ⟨sb, hsb⟩ : ∃ sb, sameB x lx z lz = sb := ⟨_, rfl⟩
    have S := Lib.hid (fun m : Bl w9 => same_any m.wr x z lx lz (HX.out.below (HT9.out.go m.below).below) (HZ.out.below (HT9.out.go m.below).below))
    rw [hsb] at S hbs
    unfold Val.v V at S
    have HBS := Lib.hid hbs
    have HSC := Lib.hid hs9
    have cb := fun m : Bl w9 => conv_bytes (HS9.out.below m.below)
    have cc := fun m : Bl w9 => conv_bytes (HSC.out.below m.below)
    have p0 := fun m : Bl w9 => (cells4 HT9.out.xb m).1
    have p1 := fun m : Bl w9 => (cells4 HT9.out.xb m).2.1
    have p2 := fun m : Bl w9 => (cells4 HT9.out.xb m).2.2.1
    have p3 := fun m : Bl w9 => (cells4 HT9.out.xb m).2.2.2
    have q0 := fun m : Bl w9 => (cells4 HT9.out.zb m).1
    have q1 := fun m : Bl w9 => (cells4 HT9.out.zb m).2.1
    have q2 := fun m : Bl w9 => (cells4 HT9.out.zb m).2.2.1
    have q3 := fun m : Bl w9 => (cells4 HT9.out.zb m).2.2.2
    clear hlc hsb hbs hs9 e1 e2
    go_wp2_with fail
    refine wp_region_quiet_tailB 13 (by kernel_rfl) (by kernel_rfl) ?_
    simp only [List.take_succ_cons, List.take_zero, List.drop_succ_cons, List.drop_zero]
    iterate 13 (go_big_quiet_step ((go_at_call 29; with_reducible exact Calls.quiet_b (S.out _))))
    refine wpQuiet_nil ?_
    intro m
    have HTm := Lib.hid (HT9.out.go m.below)
    clear cb cc p0 p1 p2 p3 q0 q1 q2 q3 S
    generalize m.wr = wm at *
    clear m
    go_wp2_with fail
    go_ret
    refine ⟨ret_bool ?_, HTm.out.below⟩
    have hbs := HBS.out
    clear HBS
    cases sb
    · have hne : ¬ l = lc := fun h => by have := hbs.1 h; cases this
      simp [hne]
    · obtain rfl : l = lc := hbs.2 rfl
      simp
end Go.Proofs.Ytebadbnlihbecaa
