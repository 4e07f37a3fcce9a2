/- The reference: the tokens of an op with two parts; of a part; of every tree; The reference: a part's tokens, and every formed tree's; The reference: the tokens of every formed tree. -/
import Derived.Test.YtllgodaphoncnaaGreatDoorJ50
namespace Go.Proofs.YtllgodaphoncnaaGreatDoor
open Go.RowKit

set_option maxRecDepth 100000 in
theorem infoT3 (n : Nat) (h : n = 3) : (Tryz.prog.info? 41).map (·.size) = some n := by subst h; kernel_rfl
set_option maxRecDepth 100000 in
theorem there_blk {w : World} {g : Nat} {L : List Value} {t : TypeId} (h : w.heap[g]? = some (.cells L.toArray t (0, 0))) (o n : Nat) (hn : o + n ≤ L.length) : w.there g o n := fun j hj =>
  ⟨by rw [cell_block h]; simp; omega, frozen_of_row w g (o + j) _ t h⟩
set_option maxRecDepth 100000 in
set_option maxHeartbeats 8000000 in
theorem tok_two (w : World) (X : XV) (full : Bool) (op : List UInt8) (hX : X.o = st op) (hop : op ≠ kValue ∧ op ≠ kNow ∧ op ≠ kAttr ∧ op ≠ kHas ∧ op ≠ kRole ∧ op ≠ kSize ∧ op ≠ kNot ∧ op ≠ kNeg)
    (g o : Nat) (Xs : Nat → XV) (hl : X.l = 2) (ha : X.a = some ⟨g, o, none⟩) (hr0 : w.rangeAt g o (Xs 0).cells) (hr1 : w.rangeAt g (o + 8) (Xs 1).cells) (hnr : g < w.heap.size) (p0 p1 : List Tk) (hne0 : p0 ≠ []) (hne1 : p1 ≠ []) (hlen : p0.length + p1.length ≤ 900000)
    (hT0 : ∀ W, Below w.heap.size w W → Calls Tryz.prog 38 #[(Xs 0).v, .int .i64 (leastM op), .bool full] W fun e w' => ∃ u, e = .returned u ∧ OwnT w' W.heap.size u p0 ∧ Below W.heap.size W w')
    (hT1 : ∀ W, Below w.heap.size w W → Calls Tryz.prog 38 #[(Xs 1).v, .int .i64 (strM op + 1), .bool full] W fun e w' => ∃ u, e = .returned u ∧ OwnT w' W.heap.size u p1 ∧ Below W.heap.size W w') :
    Calls Tryz.prog 12 #[X.v, .bool full] w fun e w' => ∃ u, e = .returned u ∧ OwnT w' w.heap.size u (p0 ++ opTk op :: p1) ∧ Below w.heap.size w w' := by
  obtain ⟨W0, hW0, hb0, hbox⟩ := boxed w X
  have HST := Lib.hid (fun W => strength_any W op)
  rw [← hX] at HST
  have HIN := Lib.hid (fun W (g : Nat) (h : StrsAt W (some ⟨g, 0, none⟩) g 0 [kOr, kAnd, kIn]) => in_any W [kOr, kAnd, kIn] op (some ⟨g, 0, none⟩) g 0 3 h (by decide))
  rw [← hX] at HIN
  have HW := Lib.hid (fun W s => word8_any W s)
  have HS := Lib.hid (fun W s => sign8_any W s)
  have ex : X.o.toList = op := by rw [hX]; exact st_list _
  obtain ⟨n1, n2, n3, n4, n5, n6, n7, n8⟩ := hop
  have o1 : (X.o.toList == [118, 97, 108, 117, 101]) = false := by rw [ex]; simpa using n1
  have o2 : (X.o.toList == [110, 111, 119]) = false := by rw [ex]; simpa using n2
  have o3 : (X.o.toList == [97, 116, 116, 114]) = false := by rw [ex]; simpa using n3
  have o4 : (X.o.toList == [104, 97, 115]) = false := by rw [ex]; simpa using n4
  have o5 : (X.o.toList == [114, 111, 108, 101]) = false := by rw [ex]; simpa using n5
  have o6 : (X.o.toList == [115, 105, 122, 101]) = false := by rw [ex]; simpa using n6
  have o7 : (X.o.toList == [110, 111, 116]) = false := by rw [ex]; simpa using n7
  have o8 : (X.o.toList == [110, 101, 103]) = false := by rw [ex]; simpa using n8
  obtain ⟨hS0, hS7⟩ := str_range op
  obtain ⟨c, hc⟩ : ∃ c, [kOr, kAnd, kIn].contains op = c := ⟨_, rfl⟩
  simp only [hc] at HIN
  have HIN : Hid (∀ (W : World) (g : Nat), StrsAt W (some ⟨g, 0, none⟩) g 0 [kOr, kAnd, kIn] → Calls Tryz.prog 39 #[.slice (some ⟨g, 0, none⟩) 3 3, .string X.o] W fun e w' => e = .returned (.bool c) ∧ w' = W) := HIN
  have hot : opTk op = if c = true then tkW op else tkS op := by unfold opTk; rw [hc]
  have HOT := Lib.hid hot
  have hcell : ∀ k : Int, (⟨k, op, 0⟩ : Tk).cells = [.int .i64 k, .string X.o, .int .i64 0] := fun k => by unfold Tk.cells; rw [hX]
  have HCELL := Lib.hid hcell
  have HR0 := Lib.hid (fun W (hb : Below w.heap.size w W) => show W.rangeAt g o (Xs 0).cells from fun j v hj => (hb.cell (p := ⟨g, o + j, none⟩) hnr).trans (hr0 j v hj))
  have HR1 := Lib.hid (fun W (hb : Below w.heap.size w W) => show W.rangeAt g (o + 8) (Xs 1).cells from fun j v hj => (hb.cell (p := ⟨g, o + 8 + j, none⟩) hnr).trans (hr1 j v hj))
  have H7 := Lib.hid (show Value.slice X.a X.l X.c = .slice (some ⟨g, o, none⟩) 2 X.c by rw [hl, ha])
  have hlm : leastM op = if strM op = 3 then 4 else strM op := rfl
  rw [hlm] at hT0
  have HT0 := Lib.hid hT0
  have HT1 := Lib.hid hT1
  have HNE0 := Lib.hid hne0
  have HNE1 := Lib.hid hne1
  have HLEN := Lib.hid hlen
  have HB0 := Lib.hid hb0
  have HBX := Lib.hid hbox
  generalize strM op = S at *
  clear hb0 hbox hX ex n1 n2 n3 n4 n5 n6 n7 n8 hc hot hl ha hr0 hr1 hnr hlm hT0 hT1 hne0 hne1 hlen hcell
  unfold XV.v
  go_enter Tryz.func12, Tryz.ntmps12
  go_wp2_with fail
  generalize hW : World.alloc _ _ = W1
  obtain rfl : W0 = W1 := hW0.symm.trans hW
  clear hW hW0
  refine (HST.out W0).mono ?_
  rintro e w1 ⟨rfl, hb1⟩
  have HBX1 := Lib.hid (HBX.out.below hb1)
  have HB1 := Lib.hid (HB0.out.trans (hb1.mono HB0.out.size))
  have c0 : w1.cell? ⟨w.heap.size, 0, none⟩ = some (.string X.o) := HBX1.out.cell 0
  have c7 : w1.cell? ⟨w.heap.size, 7, none⟩ = some (.slice (some ⟨g, o, none⟩) 2 X.c) := by rw [HBX1.out.cell 7, ← H7.out]; rfl
  have HRA := Lib.hid (HR0.out w1 HB1.out)
  clear hb1 HB0 HBX HST
  by_cases h3 : S = 3
  · subst h3
    have HT0 : Hid (∀ W, Below w.heap.size w W → Calls Tryz.prog 38 #[.agg (Xs 0).cells.toArray, .int .i64 4, .bool full] W fun e w' => ∃ u, e = .returned u ∧ OwnT w' W.heap.size u p0 ∧ Below W.heap.size W w') := HT0
    have HT1 : Hid (∀ W, Below w.heap.size w W → Calls Tryz.prog 38 #[.agg (Xs 1).cells.toArray, .int .i64 (3 + 1), .bool full] W fun e w' => ∃ u, e = .returned u ∧ OwnT w' W.heap.size u p1 ∧ Below W.heap.size W w') := HT1
    go_wp2_with (refine wpList_load_mid rfl 27 (.tmp 100) rfl g o rfl (Xs 0).cells _ HRA.out Tryz.underlying27 rfl (infoX _ rfl) ?_)
    refine (HT0.out w1 HB1.out).mono ?_
    rintro e w2 ⟨u, rfl, hown2, hb2⟩
    have HOWN2 := Lib.hid hown2
    have HB2 := Lib.hid hb2
    have c0 : w2.cell? ⟨w.heap.size, 0, none⟩ = some (.string X.o) := (HBX1.out.below hb2).cell 0
    clear hown2 hb2 c7 o1 o2 o3 o4 o5 o6 o7 o8 HRA 
    go_wp2_with fail
    refine (HS.out w2 _).mono ?_
    rintro e w3 ⟨rfl, hb3⟩
    have HOWN3 := Lib.hid (HOWN2.out.below hb3)
    have HB3 := Lib.hid (HB2.out.trans (hb3.mono HB2.out.size))
    have c0 : w3.cell? ⟨w.heap.size, 0, none⟩ = some (.string X.o) := (HBX1.out.below HB3.out).cell 0
    have hg4 := heap_alloc_new w3 (.cells #[.int .i64 5, .string X.o, .int .i64 0] 41 (0, 0))
    have hst5 : StrsAt ((w3.alloc (.cells #[.int .i64 5, .string X.o, .int .i64 0] 41 (0, 0))).alloc (.cells #[.string ⟨#[111, 114]⟩, .string ⟨#[97, 110, 100]⟩, .string ⟨#[105, 110]⟩] 9 (0, 0))) (some ⟨w3.heap.size + 1, 0, none⟩) (w3.heap.size + 1) 0 [kOr, kAnd, kIn] := strsAt_new (two_blocks _ _ _).2
    have hg5 := (two_blocks w3 (.cells #[.int .i64 5, .string X.o, .int .i64 0] 41 (0, 0)) (.cells #[.string ⟨#[111, 114]⟩, .string ⟨#[97, 110, 100]⟩, .string ⟨#[105, 110]⟩] 9 (0, 0))).1
    have hb5 : Below w3.heap.size w3 ((w3.alloc (.cells #[.int .i64 5, .string X.o, .int .i64 0] 41 (0, 0))).alloc (.cells #[.string ⟨#[111, 114]⟩, .string ⟨#[97, 110, 100]⟩, .string ⟨#[105, 110]⟩] 9 (0, 0))) := ((Below.refl _ _).alloc (Nat.le_refl _) _).alloc (by simp) _
    have HIN5 := Lib.hid (HIN.out _ _ hst5)
    have HG5 := Lib.hid hg5
    have HB5 := Lib.hid (HB3.out.trans (hb5.mono HB3.out.size))
    have HB53 := Lib.hid hb5
    have HOWN5 := Lib.hid (HOWN3.out.below hb5)
    have hlt3 : w.heap.size < w3.heap.size := Nat.lt_of_lt_of_le (lt_block HBX1.out.blk) HB3.out.size
    have hlt4 : w.heap.size < w3.heap.size + 1 := by omega
    clear hb3 hg4 hst5 hg5 hb5 HIN
    go_wp2_with fail
    refine HIN5.out.mono ?_
    rintro e w5 ⟨rfl, hw5⟩
    rw [← hw5] at HG5 HB5 HOWN5 HB53
    clear hw5 HIN5 c0 hlt3 hlt4
    obtain ⟨G, hG⟩ : ∃ G, w3.heap.size = G := ⟨_, rfl⟩
    rw [hG] at HG5
    simp only [hG]
    have HBX5 := Lib.hid (HBX1.out.below HB5.out)
    have c05 : w5.cell? ⟨w.heap.size, 0, none⟩ = some (.string X.o) := HBX5.out.cell 0
    have HGE := Lib.hid hG.symm
    clear hG
    cases c with
    | true =>
      have e1 : opTk op = tkW op := by rw [HOT.out]; rfl
      have HE1 := Lib.hid e1
      clear e1 HOT
      go_wp2_with fail
      refine (HW.out w5 _).mono ?_
      rintro e w6 ⟨rfl, hb6⟩
      have hg6 : w6.heap[G]? = some (.cells #[.int .i64 5, .string X.o, .int .i64 0] 41 (0, 0)) := (hb6.block _ (lt_block HG5.out)).trans HG5.out
      have z0 : w6.cell? ⟨G, 0, none⟩ = some (.int .i64 5) := by rw [cell_block hg6]; rfl
      have z1 : w6.cell? ⟨G, 1, none⟩ = some (.string X.o) := by rw [cell_block hg6]; rfl
      have z2 : w6.cell? ⟨G, 2, none⟩ = some (.int .i64 0) := by rw [cell_block hg6]; rfl
      have f0 := frozen_of_row w6 G 0 _ _ hg6
      have f1 := frozen_of_row w6 G 1 _ _ hg6
      have f2 := frozen_of_row w6 G 2 _ _ hg6
      obtain ⟨W7, hW7⟩ : ∃ W7, ((w6.setCell ⟨G, 0, none⟩ (.int .i64 1)).setCell ⟨G, 1, none⟩ (.string X.o)).setCell ⟨G, 2, none⟩ (.int .i64 0) = W7 := ⟨_, rfl⟩
      have g1 : (w6.setCell ⟨G, 0, none⟩ (.int .i64 1)).heap[G]? = some (.cells #[.int .i64 1, .string X.o, .int .i64 0] 41 (0, 0)) := by rw [heap_setCell_same _ _ 0 _ _ _ hg6]; rfl
      have g2 : ((w6.setCell ⟨G, 0, none⟩ (.int .i64 1)).setCell ⟨G, 1, none⟩ (.string X.o)).heap[G]? = some (.cells #[.int .i64 1, .string X.o, .int .i64 0] 41 (0, 0)) := by rw [heap_setCell_same _ _ 1 _ _ _ g1]; rfl
      have g3 : W7.heap[G]? = some (.cells #[.int .i64 1, .string X.o, .int .i64 0] 41 (0, 0)) := by rw [← hW7, heap_setCell_same _ _ 2 _ _ _ g2]; rfl
      have hb7 : Below w3.heap.size w3 W7 := by
        rw [← hW7]
        exact ((((HB53.out.trans (hb6.mono HB53.out.size)).setCell (p := ⟨G, 0, none⟩) (by rw [HGE.out]; exact Nat.le_refl _) _).setCell (p := ⟨G, 1, none⟩) (by rw [HGE.out]; exact Nat.le_refl _) _).setCell (p := ⟨G, 2, none⟩) (by rw [HGE.out]; exact Nat.le_refl _) _)
      have HW7 := Lib.hid hW7
      have HG7 := Lib.hid g3
      have HB73 := Lib.hid hb7
      clear hb6 hg6 c05 hW7 g1 g2 g3 hb7
      go_upto_region 28 with fail
      rw [HW7.out]
      clear z0 z1 z2 f0 f1 f2 HW7
      have HB7 := Lib.hid (HB3.out.trans (HB73.out.mono HB3.out.size))
      have HOWN7 := Lib.hid (HOWN3.out.below HB73.out)
      have HBX7 := Lib.hid (HBX1.out.below HB7.out)
      have y0 : W7.cell? ⟨G, 0, none⟩ = some (.int .i64 1) := by rw [cell_block HG7.out]; rfl
      have y1 : W7.cell? ⟨G, 1, none⟩ = some (.string X.o) := by rw [cell_block HG7.out]; rfl
      have y2 : W7.cell? ⟨G, 2, none⟩ = some (.int .i64 0) := by rw [cell_block HG7.out]; rfl
      have HOWN8 := Lib.hid (HOWN7.out.below ((Below.refl _ _).alloc (Nat.le_refl _) (.cells #[.int .i64 1, .string X.o, .int .i64 0] 41 (0, 0))))
      go_wp2_with (refine append_tok rfl (.tmp 115) (.tmp 117) rfl w1.heap.size u p0 rfl (tkW op) W7.heap.size 1 rfl (by rw [show (tkW op).cells = _ from HCELL.out 1]; exact heap_alloc_new _ _) HOWN8.out (by have := HLEN.out; omega) (by have := HB7.out.size; simp; omega) ?_)
      intro v9 w9 hown9 hb9
      have hb91 : Below w1.heap.size w1 w9 := (HB7.out.alloc HB7.out.size _).trans hb9
      have HB9 := Lib.hid hb91
      have HOWN9 : Hid (OwnT w9 w1.heap.size v9 (p0 ++ [opTk op])) := Lib.hid (by rw [HE1.out]; exact hown9)
      have c7 : w9.cell? ⟨w.heap.size, 7, none⟩ = some (.slice (some ⟨g, o, none⟩) 2 X.c) := by rw [(HBX1.out.below hb91).cell 7, ← H7.out]; rfl
      have HRB := Lib.hid (HR1.out w9 (HB1.out.trans (hb91.mono HB1.out.size)))
      have HB9w := Lib.hid (HB1.out.trans (hb91.mono HB1.out.size))
      clear hown9 hb9 hb91 y0 y1 y2
      go_wp2_with (refine wpList_load_mid rfl 27 (.tmp 122) rfl g (o + 8) rfl (Xs 1).cells _ HRB.out Tryz.underlying27 rfl (infoX _ rfl) ?_)
      refine (HT1.out w9 HB9w.out).mono ?_
      rintro e w10 ⟨u1, rfl, hown10, hb10⟩
      have HOWN10 := Lib.hid hown10
      have HOWN11 := Lib.hid (HOWN9.out.below hb10)
      have HB10 := Lib.hid (HB9.out.trans (hb10.mono HB9.out.size))
      clear hown10 hb10 c7
      go_wp2_with (refine append_toks rfl (.tmp 119) (.tmp 127) rfl w1.heap.size v9 (p0 ++ [opTk op]) rfl u1 _ p1 rfl HNE1.out HOWN10.out HOWN11.out (by have := HLEN.out; simp; omega) HB10.out.size ?_)
      intro v12 w12 hown12 hb12
      have HOWN12 : Hid (OwnT w12 w.heap.size v12 (p0 ++ opTk op :: p1)) := Lib.hid (by
        have := hown12.base HB1.out.size
        simpa using this)
      have HB12 := Lib.hid (HB1.out.trans ((HB10.out.trans hb12).mono HB1.out.size))
      clear hown12 hb12
      go_wp2_with fail
      go_ret
      exact ⟨_, rfl, HOWN12.out, HB12.out⟩
    | false =>
      have e1 : opTk op = tkS op := by rw [HOT.out]; rfl
      have HE1 := Lib.hid e1
      clear e1 HOT c05
      have HG7 := Lib.hid HG5.out
      have HB73 := Lib.hid HB53.out
      clear HG5
      go_upto_region 28 with fail
      have HB7 := Lib.hid (HB3.out.trans (HB73.out.mono HB3.out.size))
      have HOWN7 := Lib.hid (HOWN3.out.below HB73.out)
      have HBX7 := Lib.hid (HBX1.out.below HB7.out)
      have y0 : w5.cell? ⟨G, 0, none⟩ = some (.int .i64 5) := by rw [cell_block HG7.out]; rfl
      have y1 : w5.cell? ⟨G, 1, none⟩ = some (.string X.o) := by rw [cell_block HG7.out]; rfl
      have y2 : w5.cell? ⟨G, 2, none⟩ = some (.int .i64 0) := by rw [cell_block HG7.out]; rfl
      have HOWN8 := Lib.hid (HOWN7.out.below ((Below.refl _ _).alloc (Nat.le_refl _) (.cells #[.int .i64 5, .string X.o, .int .i64 0] 41 (0, 0))))
      go_wp2_with (refine append_tok rfl (.tmp 115) (.tmp 117) rfl w1.heap.size u p0 rfl (tkS op) w5.heap.size 1 rfl (by rw [show (tkS op).cells = _ from HCELL.out 5]; exact heap_alloc_new _ _) HOWN8.out (by have := HLEN.out; omega) (by have := HB7.out.size; simp; omega) ?_)
      intro v9 w9 hown9 hb9
      have hb91 : Below w1.heap.size w1 w9 := (HB7.out.alloc HB7.out.size _).trans hb9
      have HB9 := Lib.hid hb91
      have HOWN9 : Hid (OwnT w9 w1.heap.size v9 (p0 ++ [opTk op])) := Lib.hid (by rw [HE1.out]; exact hown9)
      have c7 : w9.cell? ⟨w.heap.size, 7, none⟩ = some (.slice (some ⟨g, o, none⟩) 2 X.c) := by rw [(HBX1.out.below hb91).cell 7, ← H7.out]; rfl
      have HRB := Lib.hid (HR1.out w9 (HB1.out.trans (hb91.mono HB1.out.size)))
      have HB9w := Lib.hid (HB1.out.trans (hb91.mono HB1.out.size))
      clear hown9 hb9 hb91 y0 y1 y2
      go_wp2_with (refine wpList_load_mid rfl 27 (.tmp 122) rfl g (o + 8) rfl (Xs 1).cells _ HRB.out Tryz.underlying27 rfl (infoX _ rfl) ?_)
      refine (HT1.out w9 HB9w.out).mono ?_
      rintro e w10 ⟨u1, rfl, hown10, hb10⟩
      have HOWN10 := Lib.hid hown10
      have HOWN11 := Lib.hid (HOWN9.out.below hb10)
      have HB10 := Lib.hid (HB9.out.trans (hb10.mono HB9.out.size))
      clear hown10 hb10 c7
      go_wp2_with (refine append_toks rfl (.tmp 119) (.tmp 127) rfl w1.heap.size v9 (p0 ++ [opTk op]) rfl u1 _ p1 rfl HNE1.out HOWN10.out HOWN11.out (by have := HLEN.out; simp; omega) HB10.out.size ?_)
      intro v12 w12 hown12 hb12
      have HOWN12 : Hid (OwnT w12 w.heap.size v12 (p0 ++ opTk op :: p1)) := Lib.hid (by
        have := hown12.base HB1.out.size
        simpa using this)
      have HB12 := Lib.hid (HB1.out.trans ((HB10.out.trans hb12).mono HB1.out.size))
      clear hown12 hb12
      go_wp2_with fail
      go_ret
      exact ⟨_, rfl, HOWN12.out, HB12.out⟩
  · rw [if_neg h3] at HT0
    have HT0 : Hid (∀ W, Below w.heap.size w W → Calls Tryz.prog 38 #[.agg (Xs 0).cells.toArray, .int .i64 S, .bool full] W fun e w' => ∃ u, e = .returned u ∧ OwnT w' W.heap.size u p0 ∧ Below W.heap.size W w') := HT0
    have d3 : (S == 3) = false := by simpa using h3
    have HT1 : Hid (∀ W, Below w.heap.size w W → Calls Tryz.prog 38 #[.agg (Xs 1).cells.toArray, .int .i64 (S + 1), .bool full] W fun e w' => ∃ u, e = .returned u ∧ OwnT w' W.heap.size u p1 ∧ Below W.heap.size W w') := HT1
    go_wp2_with (refine wpList_load_mid rfl 27 (.tmp 100) rfl g o rfl (Xs 0).cells _ HRA.out Tryz.underlying27 rfl (infoX _ rfl) ?_)
    refine (HT0.out w1 HB1.out).mono ?_
    rintro e w2 ⟨u, rfl, hown2, hb2⟩
    have HOWN2 := Lib.hid hown2
    have HB2 := Lib.hid hb2
    have c0 : w2.cell? ⟨w.heap.size, 0, none⟩ = some (.string X.o) := (HBX1.out.below hb2).cell 0
    clear hown2 hb2 c7 o1 o2 o3 o4 o5 o6 o7 o8 HRA d3 h3
    go_wp2_with fail
    refine (HS.out w2 _).mono ?_
    rintro e w3 ⟨rfl, hb3⟩
    have HOWN3 := Lib.hid (HOWN2.out.below hb3)
    have HB3 := Lib.hid (HB2.out.trans (hb3.mono HB2.out.size))
    have c0 : w3.cell? ⟨w.heap.size, 0, none⟩ = some (.string X.o) := (HBX1.out.below HB3.out).cell 0
    have hg4 := heap_alloc_new w3 (.cells #[.int .i64 5, .string X.o, .int .i64 0] 41 (0, 0))
    have hst5 : StrsAt ((w3.alloc (.cells #[.int .i64 5, .string X.o, .int .i64 0] 41 (0, 0))).alloc (.cells #[.string ⟨#[111, 114]⟩, .string ⟨#[97, 110, 100]⟩, .string ⟨#[105, 110]⟩] 9 (0, 0))) (some ⟨w3.heap.size + 1, 0, none⟩) (w3.heap.size + 1) 0 [kOr, kAnd, kIn] := strsAt_new (two_blocks _ _ _).2
    have hg5 := (two_blocks w3 (.cells #[.int .i64 5, .string X.o, .int .i64 0] 41 (0, 0)) (.cells #[.string ⟨#[111, 114]⟩, .string ⟨#[97, 110, 100]⟩, .string ⟨#[105, 110]⟩] 9 (0, 0))).1
    have hb5 : Below w3.heap.size w3 ((w3.alloc (.cells #[.int .i64 5, .string X.o, .int .i64 0] 41 (0, 0))).alloc (.cells #[.string ⟨#[111, 114]⟩, .string ⟨#[97, 110, 100]⟩, .string ⟨#[105, 110]⟩] 9 (0, 0))) := ((Below.refl _ _).alloc (Nat.le_refl _) _).alloc (by simp) _
    have HIN5 := Lib.hid (HIN.out _ _ hst5)
    have HG5 := Lib.hid hg5
    have HB5 := Lib.hid (HB3.out.trans (hb5.mono HB3.out.size))
    have HB53 := Lib.hid hb5
    have HOWN5 := Lib.hid (HOWN3.out.below hb5)
    have hlt3 : w.heap.size < w3.heap.size := Nat.lt_of_lt_of_le (lt_block HBX1.out.blk) HB3.out.size
    have hlt4 : w.heap.size < w3.heap.size + 1 := by omega
    clear hb3 hg4 hst5 hg5 hb5 HIN
    go_wp2_with fail
    refine HIN5.out.mono ?_
    rintro e w5 ⟨rfl, hw5⟩
    rw [← hw5] at HG5 HB5 HOWN5 HB53
    clear hw5 HIN5 c0 hlt3 hlt4
    obtain ⟨G, hG⟩ : ∃ G, w3.heap.size = G := ⟨_, rfl⟩
    rw [hG] at HG5
    simp only [hG]
    have HBX5 := Lib.hid (HBX1.out.below HB5.out)
    have c05 : w5.cell? ⟨w.heap.size, 0, none⟩ = some (.string X.o) := HBX5.out.cell 0
    have HGE := Lib.hid hG.symm
    clear hG
    cases c with
    | true =>
      have e1 : opTk op = tkW op := by rw [HOT.out]; rfl
      have HE1 := Lib.hid e1
      clear e1 HOT
      go_wp2_with fail
      refine (HW.out w5 _).mono ?_
      rintro e w6 ⟨rfl, hb6⟩
      have hg6 : w6.heap[G]? = some (.cells #[.int .i64 5, .string X.o, .int .i64 0] 41 (0, 0)) := (hb6.block _ (lt_block HG5.out)).trans HG5.out
      have z0 : w6.cell? ⟨G, 0, none⟩ = some (.int .i64 5) := by rw [cell_block hg6]; rfl
      have z1 : w6.cell? ⟨G, 1, none⟩ = some (.string X.o) := by rw [cell_block hg6]; rfl
      have z2 : w6.cell? ⟨G, 2, none⟩ = some (.int .i64 0) := by rw [cell_block hg6]; rfl
      have f0 := frozen_of_row w6 G 0 _ _ hg6
      have f1 := frozen_of_row w6 G 1 _ _ hg6
      have f2 := frozen_of_row w6 G 2 _ _ hg6
      obtain ⟨W7, hW7⟩ : ∃ W7, ((w6.setCell ⟨G, 0, none⟩ (.int .i64 1)).setCell ⟨G, 1, none⟩ (.string X.o)).setCell ⟨G, 2, none⟩ (.int .i64 0) = W7 := ⟨_, rfl⟩
      have g1 : (w6.setCell ⟨G, 0, none⟩ (.int .i64 1)).heap[G]? = some (.cells #[.int .i64 1, .string X.o, .int .i64 0] 41 (0, 0)) := by rw [heap_setCell_same _ _ 0 _ _ _ hg6]; rfl
      have g2 : ((w6.setCell ⟨G, 0, none⟩ (.int .i64 1)).setCell ⟨G, 1, none⟩ (.string X.o)).heap[G]? = some (.cells #[.int .i64 1, .string X.o, .int .i64 0] 41 (0, 0)) := by rw [heap_setCell_same _ _ 1 _ _ _ g1]; rfl
      have g3 : W7.heap[G]? = some (.cells #[.int .i64 1, .string X.o, .int .i64 0] 41 (0, 0)) := by rw [← hW7, heap_setCell_same _ _ 2 _ _ _ g2]; rfl
      have hb7 : Below w3.heap.size w3 W7 := by
        rw [← hW7]
        exact ((((HB53.out.trans (hb6.mono HB53.out.size)).setCell (p := ⟨G, 0, none⟩) (by rw [HGE.out]; exact Nat.le_refl _) _).setCell (p := ⟨G, 1, none⟩) (by rw [HGE.out]; exact Nat.le_refl _) _).setCell (p := ⟨G, 2, none⟩) (by rw [HGE.out]; exact Nat.le_refl _) _)
      have HW7 := Lib.hid hW7
      have HG7 := Lib.hid g3
      have HB73 := Lib.hid hb7
      clear hb6 hg6 c05 hW7 g1 g2 g3 hb7
      go_upto_region 28 with fail
      rw [HW7.out]
      clear z0 z1 z2 f0 f1 f2 HW7
      have HB7 := Lib.hid (HB3.out.trans (HB73.out.mono HB3.out.size))
      have HOWN7 := Lib.hid (HOWN3.out.below HB73.out)
      have HBX7 := Lib.hid (HBX1.out.below HB7.out)
      have y0 : W7.cell? ⟨G, 0, none⟩ = some (.int .i64 1) := by rw [cell_block HG7.out]; rfl
      have y1 : W7.cell? ⟨G, 1, none⟩ = some (.string X.o) := by rw [cell_block HG7.out]; rfl
      have y2 : W7.cell? ⟨G, 2, none⟩ = some (.int .i64 0) := by rw [cell_block HG7.out]; rfl
      have HOWN8 := Lib.hid (HOWN7.out.below ((Below.refl _ _).alloc (Nat.le_refl _) (.cells #[.int .i64 1, .string X.o, .int .i64 0] 41 (0, 0))))
      go_wp2_with (refine append_tok rfl (.tmp 115) (.tmp 117) rfl w1.heap.size u p0 rfl (tkW op) W7.heap.size 1 rfl (by rw [show (tkW op).cells = _ from HCELL.out 1]; exact heap_alloc_new _ _) HOWN8.out (by have := HLEN.out; omega) (by have := HB7.out.size; simp; omega) ?_)
      intro v9 w9 hown9 hb9
      have hb91 : Below w1.heap.size w1 w9 := (HB7.out.alloc HB7.out.size _).trans hb9
      have HB9 := Lib.hid hb91
      have HOWN9 : Hid (OwnT w9 w1.heap.size v9 (p0 ++ [opTk op])) := Lib.hid (by rw [HE1.out]; exact hown9)
      have c7 : w9.cell? ⟨w.heap.size, 7, none⟩ = some (.slice (some ⟨g, o, none⟩) 2 X.c) := by rw [(HBX1.out.below hb91).cell 7, ← H7.out]; rfl
      have HRB := Lib.hid (HR1.out w9 (HB1.out.trans (hb91.mono HB1.out.size)))
      have HB9w := Lib.hid (HB1.out.trans (hb91.mono HB1.out.size))
      clear hown9 hb9 hb91 y0 y1 y2
      go_wp2_with (refine wpList_load_mid rfl 27 (.tmp 122) rfl g (o + 8) rfl (Xs 1).cells _ HRB.out Tryz.underlying27 rfl (infoX _ rfl) ?_)
      refine (HT1.out w9 HB9w.out).mono ?_
      rintro e w10 ⟨u1, rfl, hown10, hb10⟩
      have HOWN10 := Lib.hid hown10
      have HOWN11 := Lib.hid (HOWN9.out.below hb10)
      have HB10 := Lib.hid (HB9.out.trans (hb10.mono HB9.out.size))
      clear hown10 hb10 c7
      go_wp2_with (refine append_toks rfl (.tmp 119) (.tmp 127) rfl w1.heap.size v9 (p0 ++ [opTk op]) rfl u1 _ p1 rfl HNE1.out HOWN10.out HOWN11.out (by have := HLEN.out; simp; omega) HB10.out.size ?_)
      intro v12 w12 hown12 hb12
      have HOWN12 : Hid (OwnT w12 w.heap.size v12 (p0 ++ opTk op :: p1)) := Lib.hid (by
        have := hown12.base HB1.out.size
        simpa using this)
      have HB12 := Lib.hid (HB1.out.trans ((HB10.out.trans hb12).mono HB1.out.size))
      clear hown12 hb12
      go_wp2_with fail
      go_ret
      exact ⟨_, rfl, HOWN12.out, HB12.out⟩
    | false =>
      have e1 : opTk op = tkS op := by rw [HOT.out]; rfl
      have HE1 := Lib.hid e1
      clear e1 HOT c05
      have HG7 := Lib.hid HG5.out
      have HB73 := Lib.hid HB53.out
      clear HG5
      go_upto_region 28 with fail
      have HB7 := Lib.hid (HB3.out.trans (HB73.out.mono HB3.out.size))
      have HOWN7 := Lib.hid (HOWN3.out.below HB73.out)
      have HBX7 := Lib.hid (HBX1.out.below HB7.out)
      have y0 : w5.cell? ⟨G, 0, none⟩ = some (.int .i64 5) := by rw [cell_block HG7.out]; rfl
      have y1 : w5.cell? ⟨G, 1, none⟩ = some (.string X.o) := by rw [cell_block HG7.out]; rfl
      have y2 : w5.cell? ⟨G, 2, none⟩ = some (.int .i64 0) := by rw [cell_block HG7.out]; rfl
      have HOWN8 := Lib.hid (HOWN7.out.below ((Below.refl _ _).alloc (Nat.le_refl _) (.cells #[.int .i64 5, .string X.o, .int .i64 0] 41 (0, 0))))
      go_wp2_with (refine append_tok rfl (.tmp 115) (.tmp 117) rfl w1.heap.size u p0 rfl (tkS op) w5.heap.size 1 rfl (by rw [show (tkS op).cells = _ from HCELL.out 5]; exact heap_alloc_new _ _) HOWN8.out (by have := HLEN.out; omega) (by have := HB7.out.size; simp; omega) ?_)
      intro v9 w9 hown9 hb9
      have hb91 : Below w1.heap.size w1 w9 := (HB7.out.alloc HB7.out.size _).trans hb9
      have HB9 := Lib.hid hb91
      have HOWN9 : Hid (OwnT w9 w1.heap.size v9 (p0 ++ [opTk op])) := Lib.hid (by rw [HE1.out]; exact hown9)
      have c7 : w9.cell? ⟨w.heap.size, 7, none⟩ = some (.slice (some ⟨g, o, none⟩) 2 X.c) := by rw [(HBX1.out.below hb91).cell 7, ← H7.out]; rfl
      have HRB := Lib.hid (HR1.out w9 (HB1.out.trans (hb91.mono HB1.out.size)))
      have HB9w := Lib.hid (HB1.out.trans (hb91.mono HB1.out.size))
      clear hown9 hb9 hb91 y0 y1 y2
      go_wp2_with (refine wpList_load_mid rfl 27 (.tmp 122) rfl g (o + 8) rfl (Xs 1).cells _ HRB.out Tryz.underlying27 rfl (infoX _ rfl) ?_)
      refine (HT1.out w9 HB9w.out).mono ?_
      rintro e w10 ⟨u1, rfl, hown10, hb10⟩
      have HOWN10 := Lib.hid hown10
      have HOWN11 := Lib.hid (HOWN9.out.below hb10)
      have HB10 := Lib.hid (HB9.out.trans (hb10.mono HB9.out.size))
      clear hown10 hb10 c7
      go_wp2_with (refine append_toks rfl (.tmp 119) (.tmp 127) rfl w1.heap.size v9 (p0 ++ [opTk op]) rfl u1 _ p1 rfl HNE1.out HOWN10.out HOWN11.out (by have := HLEN.out; simp; omega) HB10.out.size ?_)
      intro v12 w12 hown12 hb12
      have HOWN12 : Hid (OwnT w12 w.heap.size v12 (p0 ++ opTk op :: p1)) := Lib.hid (by
        have := hown12.base HB1.out.size
        simpa using this)
      have HB12 := Lib.hid (HB1.out.trans ((HB10.out.trans hb12).mono HB1.out.size))
      clear hown12 hb12
      go_wp2_with fail
      go_ret
      exact ⟨_, rfl, HOWN12.out, HB12.out⟩
end Go.Proofs.YtllgodaphoncnaaGreatDoor
namespace Go.Proofs.YtllgodaphoncnaaGreatDoor
open Go.RowKit

set_option maxRecDepth 100000 in
theorem part_ne (full : Bool) (least : Int) (op : List UInt8) {l : List Tk} (h : l ≠ []) : partTk full least op l ≠ [] := by
  unfold partTk; split
  · exact h
  · simp
set_option maxRecDepth 100000 in
theorem part_len (full : Bool) (least : Int) (op : List UInt8) (l : List Tk) : (partTk full least op l).length ≤ l.length + 2 := by
  unfold partTk; split
  · omega
  · simp
set_option maxRecDepth 100000 in
theorem node_two (full : Bool) (op : List UInt8) (v : PV) (who name : List UInt8) (os : List (List UInt8)) (ts : List (List Tk)) (h : op ∈ twoOps) : nodeTk full op v who name os ts = partTk full (leastM op) os[0]! ts[0]! ++ opTk op :: partTk full (strM op + 1) os[1]! ts[1]! := by
  obtain ⟨-, n1, n2, n3, n4, n5, n6, n7, n8⟩ := two_pl op h
  unfold nodeTk
  rw [if_neg n1, if_neg n2, if_neg n3, if_neg n4, if_neg n5, if_neg n6, if_neg n7, if_neg n8]
set_option maxRecDepth 100000 in
theorem valTk_ok {v : PV} (h : valueM v = true) : (valTk v).length ≤ 50 ∧ valTk v ≠ [] := by
  unfold valTk
  split
  · rename_i hk
    refine ⟨?_, by simp⟩
    have hl : v.l.length ≤ 16 := by
      unfold valueM at h
      rw [if_pos hk] at h
      simp only [Bool.and_eq_true] at h
      have := h.1.1.2
      unfold listB at this
      simp only [Bool.and_eq_true, decide_eq_true_eq] at this
      exact this.1
    have := commaTk_len v.l
    simp only [List.length_cons, List.length_append, List.length_nil]
    omega
  · have := litTk_len ⟨v.k, v.i, v.s, none, 0, 0⟩
    exact ⟨by omega, this.2⟩
set_option maxRecDepth 100000 in
/-- how many tokens a formed tree has -/
theorem tok_len (full : Bool) (t : Tr) : fmT t = true → (tokM full t).length ≤ 60 * sizeT t ∧ tokM full t ≠ [] := by
  refine tr_ind (P := fun t => fmT t = true → (tokM full t).length ≤ 60 * sizeT t ∧ tokM full t ≠ []) (fun t ih h => ?_) t
  cases t with
  | mk op v who name ps =>
    simp only [fmT, Bool.and_eq_true] at h
    obtain ⟨hh, hl⟩ := h
    have hd := hd_is hh
    have hall := fmL_all hl
    have ih' : ∀ u ∈ ps, (tokM full u).length ≤ 60 * sizeT u ∧ tokM full u ≠ [] := fun u hu => ih u hu (hall u hu)
    have hn := hd.n
    simp only [tokM]
    rw [toksL_map]
    rcases partsN_cases op with hc | hc | hc
    · have hps : ps = [] := List.eq_nil_of_length_eq_zero (by omega)
      subst hps
      have hz : sizeT (.mk op v who name []) = 1 := by simp [sizeT, sizeL]
      rw [hz]
      have := none_of hd.str hc
      simp only [List.mem_cons, List.not_mem_nil, or_false] at this
      rcases this with rfl | rfl | rfl | rfl | rfl
      · rw [node_value]
        have := valTk_ok (hd.value rfl).1
        exact ⟨by omega, this.2⟩
      · rw [node_now]; simp
      · rw [node_attr]; simp
      · rw [node_has]; simp
      · rw [node_role]; simp
    · obtain ⟨a, rfl⟩ : ∃ a, ps = [a] := by
        match ps, (show ps.length = 1 by omega) with
        | [a], _ => exact ⟨a, rfl⟩
      have h1 := (ih' a (List.mem_singleton.2 rfl)).1
      have hz : sizeT (.mk op v who name [a]) = 1 + sizeT a := by simp [sizeT, sizeL]
      rw [hz]
      simp only [List.map_cons, List.map_nil]
      rcases one_of hc with rfl | rfl | rfl
      · rw [node_not]
        have := part_len full 2 a.op (tokM full a)
        refine ⟨?_, by simp⟩
        show (partTk full 2 a.op (tokM full a)).length + 1 ≤ _
        omega
      · rw [node_neg]
        have := part_len full 6 a.op (tokM full a)
        refine ⟨?_, by simp⟩
        show (partTk full 6 a.op (tokM full a)).length + 1 ≤ _
        omega
      · rw [node_size]
        refine ⟨?_, by simp⟩
        show (tokM full a ++ [tkS kEnd]).length + 1 + 1 ≤ _
        rw [List.length_append]
        simp only [List.length_cons, List.length_nil]
        omega
    · obtain ⟨a, b, rfl⟩ : ∃ a b, ps = [a, b] := by
        match ps, (show ps.length = 2 by omega) with
        | [a, b], _ => exact ⟨a, b, rfl⟩
      have h1 := (ih' a (by simp)).1
      have h2 := (ih' b (by simp)).1
      have hz : sizeT (.mk op v who name [a, b]) = 1 + (sizeT a + sizeT b) := by simp [sizeT, sizeL]
      rw [hz, node_two _ _ _ _ _ _ _ (two_of hc)]
      refine ⟨?_, by simp⟩
      simp only [List.map_cons, List.map_nil]
      show (partTk full (leastM op) a.op (tokM full a) ++ opTk op :: partTk full (strM op + 1) b.op (tokM full b)).length ≤ _
      have p1 := part_len full (leastM op) a.op (tokM full a)
      have p2 := part_len full (strM op + 1) b.op (tokM full b)
      rw [List.length_append, List.length_cons]
      omega
set_option maxRecDepth 100000 in
set_option maxHeartbeats 4000000 in
theorem part8_any (w : World) (t : Tr) (X : XV) (full : Bool) (least : Int) (h : TrAt Any w t X) (hne : tokM full t ≠ []) (hlen : (tokM full t).length ≤ 900000)
    (hT : ∀ W, Below w.heap.size w W → Calls Tryz.prog 12 #[X.v, .bool full] W fun e w' => ∃ u, e = .returned u ∧ OwnT w' W.heap.size u (tokM full t) ∧ Below W.heap.size W w') :
    Calls Tryz.prog 38 #[X.v, .int .i64 least, .bool full] w fun e w' => ∃ u, e = .returned u ∧ OwnT w' w.heap.size u (partTk full least t.op (tokM full t)) ∧ Below w.heap.size w w' := by
  obtain ⟨x1, -⟩ := h.parts
  obtain ⟨W0, hW0, hb0, hbox⟩ := boxed w X
  have HST := Lib.hid (fun W => strength_any W t.op)
  rw [← x1] at HST
  have HS := Lib.hid (fun W s => sign8_any W s)
  have HB0 := Lib.hid hb0
  have HBX := Lib.hid hbox
  have HT := Lib.hid hT
  have HNE := Lib.hid hne
  have HLEN := Lib.hid hlen
  have hpt : partTk full least t.op (tokM full t) = if (decide (least ≤ strM t.op) && (!full || decide (strM t.op = 7))) = true then tokM full t else tkS kPar :: (tokM full t ++ [tkS kEnd]) := rfl
  have HPT := Lib.hid hpt
  generalize strM t.op = S at *
  clear h x1 hb0 hbox hT hne hlen hpt
  unfold XV.v at *
  go_enter Tryz.func38, Tryz.ntmps38
  go_wp2_with fail
  generalize hW : World.alloc _ _ = W1
  obtain rfl : W0 = W1 := hW0.symm.trans hW
  clear hW hW0
  refine (HT.out W0 HB0.out).mono ?_
  rintro e w1 ⟨u, rfl, hown1, hb1⟩
  have HOWN1 := Lib.hid (hown1.base HB0.out.size)
  have HOWN1' := Lib.hid hown1
  have HB1 := Lib.hid (HB0.out.trans (hb1.mono HB0.out.size))
  have HBX1 := Lib.hid (HBX.out.below hb1)
  have c0 : w1.cell? ⟨w.heap.size, 0, none⟩ = some (.string X.o) := HBX1.out.cell 0
  clear hown1 hb1 HT
  go_wp2_with fail
  refine (HST.out w1).mono ?_
  rintro e w2 ⟨rfl, hb2⟩
  have HB2 := Lib.hid (HB1.out.trans (hb2.mono HB1.out.size))
  have HOWN2 := Lib.hid (HOWN1.out.below hb2)
  clear hb2 c0 HST
  obtain ⟨b1, hb1⟩ : ∃ b, decide (least ≤ S) = b := ⟨_, rfl⟩
  obtain ⟨b7, hb7⟩ : ∃ b, decide (S = 7) = b := ⟨_, rfl⟩
  have hb7' : (S == 7) = b7 := by rw [← hb7]; cases h : decide (S = 7) <;> simp_all
  rw [hb1, hb7] at HPT
  clear hb7
  cases b1 with
  | true =>
    cases full with
    | false =>
      have e1 : partTk false least t.op (tokM false t) = tokM false t := by rw [HPT.out]; rfl
      rw [← e1] at HOWN2
      have HE1 := Lib.hid HOWN2.out
      clear HPT HOWN2
      go_wp2_with fail
      go_ret
      exact ⟨_, rfl, HE1.out, HB2.out⟩
    | true =>
      cases b7 with
      | true =>
        have e1 : partTk true least t.op (tokM true t) = tokM true t := by rw [HPT.out]; rfl
        rw [← e1] at HOWN2
        have HE1 := Lib.hid HOWN2.out
        clear HPT HOWN2
        go_wp2_with fail
        go_ret
        exact ⟨_, rfl, HE1.out, HB2.out⟩
      | false =>
        have e1 : tkS kPar :: (tokM true t ++ [tkS kEnd]) = partTk true least t.op (tokM true t) := by rw [HPT.out]; rfl
        have HE1 := Lib.hid e1
        clear HPT e1
        go_wp2_with fail
        refine (HS.out w2 _).mono ?_
        rintro e w3 ⟨rfl, hb3⟩
        have hown4 : OwnT (w3.alloc (.cells #[.int .i64 5, .string ⟨#[40]⟩, .int .i64 0] 41 (0, 0))) w.heap.size (.slice (some ⟨w3.heap.size, 0, none⟩) 1 1) [tkS kPar] := ownT_at _ rfl rfl rfl (HB2.out.trans (hb3.mono HB2.out.size)).size (by decide)
        have hown5 := (HOWN2.out.below hb3).below ((Below.refl w3.heap.size w3).alloc (Nat.le_refl _) (.cells #[.int .i64 5, .string ⟨#[40]⟩, .int .i64 0] 41 (0, 0)))
        have HB4 := Lib.hid ((HB2.out.trans (hb3.mono HB2.out.size)).alloc (HB2.out.trans (hb3.mono HB2.out.size)).size (.cells #[.int .i64 5, .string ⟨#[40]⟩, .int .i64 0] 41 (0, 0)))
        have HOWN4 := Lib.hid hown4
        have HOWN5 := Lib.hid hown5
        clear hb3 hown4 hown5
        go_wp2_with (refine append_toks rfl (.tmp 30) (.tmp 31) rfl w.heap.size _ [tkS kPar] rfl u _ (tokM true t) rfl HNE.out HOWN5.out HOWN4.out (by have := HLEN.out; simp; omega) HB4.out.size ?_)
        intro v6 w6 hown6 hb6
        have HOWN6 := Lib.hid hown6
        have HB6 := Lib.hid (HB4.out.trans hb6)
        clear hown6 hb6
        go_wp2_with fail
        refine (HS.out w6 _).mono ?_
        rintro e w7 ⟨rfl, hb7⟩
        have HOWN7 := Lib.hid ((HOWN6.out.below hb7).below ((Below.refl _ _).alloc (Nat.le_refl _) (.cells #[.int .i64 5, .string ⟨#[41]⟩, .int .i64 0] 41 (0, 0))))
        have HB7 := Lib.hid (HB6.out.trans (hb7.mono HB6.out.size))
        clear hb7
        go_wp2_with (refine append_tok rfl (.tmp 33) (.tmp 35) rfl w.heap.size v6 ([tkS kPar] ++ tokM true t) rfl (tkS kEnd) w7.heap.size 1 rfl (heap_alloc_new _ _) HOWN7.out (by have := HLEN.out; simp; omega) (by have := HB7.out.size; simp; omega) ?_)
        intro v8 w8 hown8 hb8
        have HOWN8 : Hid (OwnT w8 w.heap.size v8 (partTk true least t.op (tokM true t))) := Lib.hid (by rw [← HE1.out]; simpa using hown8)
        have HB8 := Lib.hid ((HB7.out.alloc HB7.out.size _).trans hb8)
        clear hown8 hb8
        go_wp2_with fail
        go_ret
        exact ⟨_, rfl, HOWN8.out, HB8.out⟩
  | false =>
    have e1 : tkS kPar :: (tokM full t ++ [tkS kEnd]) = partTk full least t.op (tokM full t) := by rw [HPT.out]; rfl
    have HE1 := Lib.hid e1
    clear HPT e1
    go_wp2_with fail
    refine (HS.out w2 _).mono ?_
    rintro e w3 ⟨rfl, hb3⟩
    have hown4 : OwnT (w3.alloc (.cells #[.int .i64 5, .string ⟨#[40]⟩, .int .i64 0] 41 (0, 0))) w.heap.size (.slice (some ⟨w3.heap.size, 0, none⟩) 1 1) [tkS kPar] := ownT_at _ rfl rfl rfl (HB2.out.trans (hb3.mono HB2.out.size)).size (by decide)
    have hown5 := (HOWN2.out.below hb3).below ((Below.refl w3.heap.size w3).alloc (Nat.le_refl _) (.cells #[.int .i64 5, .string ⟨#[40]⟩, .int .i64 0] 41 (0, 0)))
    have HB4 := Lib.hid ((HB2.out.trans (hb3.mono HB2.out.size)).alloc (HB2.out.trans (hb3.mono HB2.out.size)).size (.cells #[.int .i64 5, .string ⟨#[40]⟩, .int .i64 0] 41 (0, 0)))
    have HOWN4 := Lib.hid hown4
    have HOWN5 := Lib.hid hown5
    clear hb3 hown4 hown5
    go_wp2_with (refine append_toks rfl (.tmp 30) (.tmp 31) rfl w.heap.size _ [tkS kPar] rfl u _ (tokM full t) rfl HNE.out HOWN5.out HOWN4.out (by have := HLEN.out; simp; omega) HB4.out.size ?_)
    intro v6 w6 hown6 hb6
    have HOWN6 := Lib.hid hown6
    have HB6 := Lib.hid (HB4.out.trans hb6)
    clear hown6 hb6
    go_wp2_with fail
    refine (HS.out w6 _).mono ?_
    rintro e w7 ⟨rfl, hb7⟩
    have HOWN7 := Lib.hid ((HOWN6.out.below hb7).below ((Below.refl _ _).alloc (Nat.le_refl _) (.cells #[.int .i64 5, .string ⟨#[41]⟩, .int .i64 0] 41 (0, 0))))
    have HB7 := Lib.hid (HB6.out.trans (hb7.mono HB6.out.size))
    clear hb7
    go_wp2_with (refine append_tok rfl (.tmp 33) (.tmp 35) rfl w.heap.size v6 ([tkS kPar] ++ tokM full t) rfl (tkS kEnd) w7.heap.size 1 rfl (heap_alloc_new _ _) HOWN7.out (by have := HLEN.out; simp; omega) (by have := HB7.out.size; simp; omega) ?_)
    intro v8 w8 hown8 hb8
    have HOWN8 : Hid (OwnT w8 w.heap.size v8 (partTk full least t.op (tokM full t))) := Lib.hid (by rw [← HE1.out]; simpa using hown8)
    have HB8 := Lib.hid ((HB7.out.alloc HB7.out.size _).trans hb8)
    clear hown8 hb8
    go_wp2_with fail
    go_ret
    exact ⟨_, rfl, HOWN8.out, HB8.out⟩
end Go.Proofs.YtllgodaphoncnaaGreatDoor
namespace Go.Proofs.YtllgodaphoncnaaGreatDoor
open Go.RowKit

set_option maxRecDepth 100000 in
theorem PsAt.lt {w : World} {ps : List Tr} {X : XV} {g o : Nat} {Xs : Nat → XV} (h : PsAt w ps X g o Xs) {i : Nat} (hi : i < ps.length) : g < w.heap.size := by
  obtain ⟨u, hu⟩ := (Xs i).cell_lt (j := 0) (by omega)
  exact block_lt_of_cell (h.row i hi 0 u hu)
set_option maxRecDepth 100000 in
theorem tokens8_any (t : Tr) : ∀ (w : World) (X : XV) (full : Bool), TrAt Any w t X → fmT t = true → sizeT t ≤ 10000 →
    Calls Tryz.prog 12 #[X.v, .bool full] w fun e w' => ∃ u, e = .returned u ∧ OwnT w' w.heap.size u (tokM full t) ∧ Below w.heap.size w w' := by
  refine tr_ind (P := fun t => ∀ (w : World) (X : XV) (full : Bool), TrAt Any w t X → fmT t = true → sizeT t ≤ 10000 → Calls Tryz.prog 12 #[X.v, .bool full] w fun e w' => ∃ u, e = .returned u ∧ OwnT w' w.heap.size u (tokM full t) ∧ Below w.heap.size w w') (fun t ih w X full h hf hs => ?_) t
  obtain ⟨x1, x2, x3, x4, g, o, Xs, hp⟩ := h.parts
  have hf' := hf
  rw [fmT_eq] at hf
  simp only [Bool.and_eq_true] at hf
  have hd := hd_is hf.1
  have hall := fmL_all hf.2
  have hsz := fun u (hu : u ∈ t.ps) => size_part hu
  have IH : ∀ i (hi : i < t.ps.length) W, Below w.heap.size w W → Calls Tryz.prog 12 #[(Xs i).v, .bool full] W fun e w' => ∃ u, e = .returned u ∧ OwnT w' W.heap.size u (tokM full t.ps[i]) ∧ Below W.heap.size W w' := fun i hi W hb =>
    ih _ (List.getElem_mem hi) W (Xs i) full ((hp.tr i hi).low hb) (hall _ (List.getElem_mem hi)) (by have := hsz _ (List.getElem_mem hi); omega)
  have LEN : ∀ i (hi : i < t.ps.length), (tokM full t.ps[i]).length ≤ 600000 ∧ tokM full t.ps[i] ≠ [] := fun i hi => by
    have h1 := tok_len full t.ps[i] (hall _ (List.getElem_mem hi))
    have h2 := hsz _ (List.getElem_mem hi)
    exact ⟨by omega, h1.2⟩
  have PA : ∀ i (hi : i < t.ps.length) least W, Below w.heap.size w W → Calls Tryz.prog 38 #[(Xs i).v, .int .i64 least, .bool full] W fun e w' => ∃ u, e = .returned u ∧ OwnT w' W.heap.size u (partTk full least (t.ps[i]).op (tokM full t.ps[i])) ∧ Below W.heap.size W w' := fun i hi least W hb =>
    part8_any W t.ps[i] (Xs i) full least ((hp.tr i hi).low hb) (LEN i hi).2 (by have := (LEN i hi).1; omega) (fun W' hb' => IH i hi W' (hb.trans (hb'.mono hb.size)))
  have htl := tok_len full t hf'
  clear ih hf' hsz
  cases t with
  | mk op v who name ps =>
    simp only [Tr.op, Tr.v, Tr.who, Tr.name, Tr.ps] at *
    have htk : tokM full (.mk op v who name ps) = nodeTk full op v who name (ps.map Tr.op) (ps.map (tokM full)) := by simp only [tokM]; rw [toksL_map]
    have hn := hd.n
    rw [htk]
    rw [htk] at htl
    rcases partsN_cases op with hc | hc | hc
    · have hps : ps = [] := List.eq_nil_of_length_eq_zero (by omega)
      subst hps
      have := none_of hd.str hc
      simp only [List.mem_cons, List.not_mem_nil, or_false] at this
      rcases this with rfl | rfl | rfl | rfl | rfl
      · rw [node_value]; exact tok_value w X full x1 v x4 (hd.value rfl).1
      · rw [node_now]; exact tok_now w X full x1
      · rw [node_attr]; exact tok_attr w X full x1 who name x2 x3
      · rw [node_has]; exact tok_has w X full x1 who name x2 x3
      · rw [node_role]; exact tok_role w X full x1 who name x2 x3
    · obtain ⟨a, rfl⟩ : ∃ a, ps = [a] := by
        match ps, (show ps.length = 1 by omega) with
        | [a], _ => exact ⟨a, rfl⟩
      have hr := hp.row 0 (by simp)
      rw [Nat.zero_mul, Nat.add_zero] at hr
      have hlt := hp.lt (i := 0) (by simp)
      have hne := (LEN 0 (by simp)).2
      have hle := (LEN 0 (by simp)).1
      have hX7 : X.l = 1 := hp.len
      have hXa := hp.addr (by simp)
      simp only [List.getElem_cons_zero] at hne hle
      simp only [List.map_cons, List.map_nil]
      rcases one_of hc with rfl | rfl | rfl
      · rw [node_not]
        exact tok_not w X full x1 a g o Xs hX7 hXa hr hlt (part_ne _ _ _ hne) (by have := part_len full 2 a.op (tokM full a); omega) (PA 0 (by simp) 2)
      · rw [node_neg]
        exact tok_neg w X full x1 a g o Xs hX7 hXa hr hlt (part_ne _ _ _ hne) (by have := part_len full 6 a.op (tokM full a); omega) (PA 0 (by simp) 6)
      · rw [node_size]
        exact tok_size w X full x1 a g o Xs hX7 hXa hr hlt hne (by omega) (IH 0 (by simp))
    · obtain ⟨a, b, rfl⟩ : ∃ a b, ps = [a, b] := by
        match ps, (show ps.length = 2 by omega) with
        | [a, b], _ => exact ⟨a, b, rfl⟩
      have hr0 := hp.row 0 (by simp)
      have hr1 := hp.row 1 (by simp)
      rw [Nat.zero_mul, Nat.add_zero] at hr0
      rw [Nat.one_mul] at hr1
      have hlt := hp.lt (i := 0) (by simp)
      have hne0 := (LEN 0 (by simp)).2
      have hne1 := (LEN 1 (by simp)).2
      have hX7 : X.l = 2 := hp.len
      have hXa := hp.addr (by simp)
      simp only [List.getElem_cons_zero, List.getElem_cons_succ] at hne0 hne1
      have h2 := two_of hc
      rw [node_two _ _ _ _ _ _ _ h2] at htl ⊢
      simp only [List.map_cons, List.map_nil] at htl ⊢
      have hle : (partTk full (leastM op) a.op (tokM full a)).length + (partTk full (strM op + 1) b.op (tokM full b)).length ≤ 900000 := by
        have h3 := htl.1
        rw [List.length_append, List.length_cons] at h3
        have h4 : ([a.op, b.op][0]! : List UInt8) = a.op := rfl
        have h5 : ([a.op, b.op][1]! : List UInt8) = b.op := rfl
        have h6 : ([tokM full a, tokM full b][0]! : List Tk) = tokM full a := rfl
        have h7 : ([tokM full a, tokM full b][1]! : List Tk) = tokM full b := rfl
        rw [h4, h5, h6, h7] at h3
        omega
      exact tok_two w X full op x1 (two_pl op h2).2 g o Xs hX7 hXa hr0 hr1 hlt _ _ (part_ne _ _ _ hne0) (part_ne _ _ _ hne1) hle (PA 0 (by simp) (leastM op)) (PA 1 (by simp) (strM op + 1))
end Go.Proofs.YtllgodaphoncnaaGreatDoor
