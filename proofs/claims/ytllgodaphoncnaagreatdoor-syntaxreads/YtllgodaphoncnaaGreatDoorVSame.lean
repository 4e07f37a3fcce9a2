/- Whether two values are the same, as the document has it. -/
import Derived.Test.YtllgodaphoncnaaGreatDoorJ06
import Derived.Test.YtllgodaphoncnaaGreatDoorJ09
import Derived.Deep.MidRow
namespace Go.Proofs.YtllgodaphoncnaaGreatDoor
open Go.RowKit

def sameE (a b : Val) : Bool := a.k == b.k && (a.i == b.i && (a.s.toList == b.s.toList && (a.n == 0 && b.n == 0)))
def headS (x y : Val) : Bool := x.k == y.k && (x.i == y.i && (x.s.toList == y.s.toList && x.n == y.n))
def sameB (x : Val) (lx : List Val) (y : Val) (ly : List Val) : Bool := headS x y && (List.range x.n).all (fun j => sameE lx[j]! ly[j]!)
set_option maxRecDepth 100000 in
theorem two_blocks (w : World) (a b : Obj) : ((w.alloc a).alloc b).heap[w.heap.size]? = some a ∧ ((w.alloc a).alloc b).heap[w.heap.size + 1]? = some b := by
  constructor
  · rw [Below.heap_alloc _ _ _ (by simp)]; exact heap_alloc_new _ _
  · have := heap_alloc_new (w.alloc a) b; rwa [World.size_alloc] at this
def Val.cells (x : Val) : List Value := [.int .i64 x.k, .int .i64 x.i, .string x.s, .slice x.a x.n x.c]
def zeroCells : List Value := [.int .i64 0, .int .i64 0, .string ⟨#[]⟩, .slice none 0 0]
set_option maxRecDepth 100000 in
theorem zero_run (w : World) : (zeroValue 24).run Tryz.prog w = .ok (.agg zeroCells.toArray) w := by kernel_rfl
set_option maxRecDepth 100000 in
theorem one_cells (x : Val) : ∀ v ∈ x.cells, v.oneCell' = true := by
  intro v hv
  simp [Val.cells] at hv
  rcases hv with rfl | rfl | rfl | rfl <;> rfl
set_option maxRecDepth 100000 in
theorem info_val (x : Val) : (Tryz.prog.info? 24).map (·.size) = some x.cells.length := by kernel_rfl
set_option maxRecDepth 100000 in
set_option maxHeartbeats 2000000 in
theorem same_any (w : World) (x y : Val) (lx ly : List Val) (hx : Full w x lx) (hy : Full w y ly) :
    Calls Tryz.prog 31 #[x.v, y.v] w fun e w' => e = .returned (.bool (sameB x lx y ly)) ∧ Below w.heap.size w w' := by
  have hmx := hx.most
  have hmy := hy.most
  unfold maxLen at hmx hmy
  have HX := Lib.hid hx
  have HY := Lib.hid hy
  clear hx hy
  unfold Val.v
  by_cases hh : headS x y = true
  case neg =>
    have e : sameB x lx y ly = false := by simp [sameB, hh]
    rw [e]
    clear e HX HY
    go_enter Tryz.func31, Tryz.ntmps31
    go_wp2_with fail
    all_goals first
      | (go_ret; exact ⟨rfl, ((Below.refl _ _).alloc (Nat.le_refl _) _).alloc (by simp) _⟩)
      | (exfalso; apply hh; simp_all [headS]; omega)
  have hk : (x.k != y.k) = false := by simp [headS] at hh; simpa using hh.1
  have hi : (x.i != y.i) = false := by simp [headS] at hh; simpa using hh.2.1
  have hs : (x.s.toList == y.s.toList) = true := by simp [headS] at hh; simpa using hh.2.2.1
  have hn : ((x.n : Int) != (y.n : Int)) = false := by simp [headS] at hh; have := hh.2.2.2; simp; omega
  have hn' : x.n = y.n := by simp [headS] at hh; exact hh.2.2.2
  have HH := Lib.hid hh
  have HN := Lib.hid hn'
  clear hh hn'
  go_enter Tryz.func31, Tryz.ntmps31
  go_wp2_with fail
  generalize hW : World.alloc _ _ = W0
  have hb0 : Below w.heap.size w W0 := by rw [← hW]; exact ((Below.refl _ _).alloc (Nat.le_refl _) _).alloc (by simp) _
  obtain ⟨g1, g2⟩ := two_blocks w (.cells #[.int .i64 x.k, .int .i64 x.i, .string x.s, .slice x.a x.n x.c] 24) (.cells #[.int .i64 y.k, .int .i64 y.i, .string y.s, .slice y.a y.n y.c] 24)
  rw [hW] at g1 g2
  have HB0 := Lib.hid hb0
  have G1 := Lib.hid g1
  have G2 := Lib.hid g2
  clear hW hb0 g1 g2 hk hi hs hn
  go_loopw [5] (fun i wr => ∃ k : Nat, k ≤ x.n ∧ i = .int .i64 k ∧ Hid (∀ j, j < k → sameE lx[j]! ly[j]! = true) ∧ Hid (Below W0.heap.size W0 wr)) (fun i _ => x.n - (intOf i).toNat)
  case atStart => exact ⟨0, by omega, rfl, Lib.hid (fun j hj => by omega), Lib.hid (Below.refl _ _)⟩
  case round =>
    obtain ⟨k, hk, rfl, HA, HB⟩ := hrel
    have g1 := (HB.out.block _ (lt_block G1.out)).trans G1.out
    have g2 := (HB.out.block _ (lt_block G2.out)).trans G2.out
    have r3 : wr.cell? ⟨w.heap.size, 3, none⟩ = some (.slice x.a x.n x.c) := cell_block g1 3
    have HBw := Lib.hid (HB0.out.trans (HB.out.mono HB0.out.size))
    have HG1 := Lib.hid g1
    have HG2 := Lib.hid g2
    clear g1 g2
    by_cases hlt : k < x.n
    · have hlx : k < lx.length := by have := HX.out.len; omega
      have hly : k < ly.length := by have := HY.out.len; have := HN.out; omega
      obtain ⟨gx, ox, hlistx⟩ := HX.out.list
      obtain ⟨gy, oy, hlisty⟩ := HY.out.list
      have hax := hlistx.at' (by intro e; subst e; simp at hlx)
      have hay := hlisty.at' (by intro e; subst e; simp at hly)
      rw [hax] at r3
      have LX := Lib.hid (hlistx.below HBw.out)
      have LY := Lib.hid (hlisty.below HBw.out)
      have AX := Lib.hid hax
      have AY := Lib.hid hay
      have hlty : k < y.n := by have := HN.out; omega
      clear hlistx hlisty hax hay
      obtain ⟨a, hA⟩ : ∃ a, lx[k]! = a := ⟨_, rfl⟩
      obtain ⟨b, hBb⟩ : ∃ b, ly[k]! = b := ⟨_, rfl⟩
      go_wp2_with fail
      clear r3
      refine wp_region_fresh 13 [.calm, .calm, .calm, .calm, .calm, .calm, .calm, .calm, .calm, .calm, .fresh, .fresh, .init 10] (fun _ => .cells zeroCells.toArray 24) (fun i => if i = 10 then .cells a.cells.toArray 24 else .cells zeroCells.toArray 24) (fun _ G => .pointer (some ⟨G, 0, none⟩)) (by kernel_rfl) (by kernel_rfl) (by kernel_rfl) ?_
      intro R hR
      have hne := hR.nonempty
      have ex : lx[k] = a := by rw [← hA]; exact (getElem!_pos lx k hlx).symm
      have ey : ly[k] = b := by rw [← hBb]; exact (getElem!_pos ly k hly).symm
      have p3 := fun m : BlR wr R => cell_block ((m.below.block _ (lt_block HG1.out)).trans HG1.out) 3
      have q3 := fun m : BlR wr R => cell_block ((m.below.block _ (lt_block HG2.out)).trans HG2.out) 3
      simp only [List.getElem?_toArray, List.getElem?_cons_zero, List.getElem?_cons_succ] at p3 q3
      rw [AX.out] at p3
      rw [AY.out] at q3
      have x0 := fun m : BlR wr R => (LX.out.below m.below).c0 k hlx
      have x1 := fun m : BlR wr R => (LX.out.below m.below).c1 k hlx
      have x2 := fun m : BlR wr R => (LX.out.below m.below).c2 k hlx
      have x3 := fun m : BlR wr R => (LX.out.below m.below).c3 k hlx
      have y0 := fun m : BlR wr R => (LY.out.below m.below).c0 k hly
      have y1 := fun m : BlR wr R => (LY.out.below m.below).c1 k hly
      have y2 := fun m : BlR wr R => (LY.out.below m.below).c2 k hly
      have y3 := fun m : BlR wr R => (LY.out.below m.below).c3 k hly
      rw [ex] at x0 x1 x2 x3
      rw [ey] at y0 y1 y2 y3
      have EA := Lib.hid hA
      have EB := Lib.hid hBb
      clear ex ey hA hBb
      simp only [List.take_succ_cons, List.take_zero, List.drop_succ_cons, List.drop_zero, calmL]
      iterate 10 (go_big_quiet_step (fail))
      refine wpQuiet_nil ?_
      clear p3 q3 x0 x1 x2 x3 y0 y1 y2 y3
      refine ⟨?_, ?_⟩
      · simp only [obF, Nat.reduceAdd]
        refine ⟨⟨fun a' w' _ _ => run_alloc_op 24 rfl zeroCells zero_run w', .inr ⟨12, by decide, rfl⟩⟩, ⟨fun a' w' _ _ => run_alloc_op 24 rfl zeroCells zero_run w', .inl rfl⟩, fun a' w' G _ hx hp hh => ?_, trivial⟩
        exact run_fill 24 (.tmp 6) (.tmp 47) rfl G a.cells (hp 6 rfl) ((hx (.tmp 47) (by simp [Op.operands])).resolve_left (by rw [show isPtr _ 10 (.tmp 47) = false by kernel_rfl]; exact Bool.false_ne_true)) 24 zeroCells hh (info_val a) rfl (one_cells _)
      intro γ w1 hf
      clear hR hne R
      simp only [putF, Nat.reduceAdd, Act.put, List.setIfInBounds_toArray, List.set_cons_succ, List.set_cons_zero]
      obtain ⟨g6a, h6⟩ := hf.block 10 rfl
      obtain ⟨g7a, h7⟩ := hf.block 11 rfl
      have hne := hf.ne 10 11 rfl rfl (by decide)
      have hb1 := hf.below
      clear hf
      generalize γ 10 = G6 at *
      generalize γ 11 = G7 at *
      simp only [if_true, Nat.reduceEqDiff, if_false] at h6 h7
      refine wpList_store_row rfl 24 (.tmp 7) (.tmp 52) rfl G7 b.cells.toArray rfl rfl 24 zeroCells.toArray h7 (info_val b) rfl (all_oneCell_toArray (one_cells _)) ?_
      have s7 := set1_setRow (cells := b.cells.toArray) h7
      generalize w1.setRow G7 b.cells.toArray = w2 at *
      have h6' : w2.heap[G6]? = some (.cells #[.int .i64 a.k, .int .i64 a.i, .string a.s, .slice a.a a.n a.c] 24 (0, 0)) := (s7.old G6 hne).trans h6
      have h7' : w2.heap[G7]? = some (.cells #[.int .i64 b.k, .int .i64 b.i, .string b.s, .slice b.a b.n b.c] 24 (0, 0)) := s7.new
      have hb2 := s7.below hb1 g7a
      have HB2 := Lib.hid (HB.out.trans (hb2.mono HB.out.size))
      have HB2w := Lib.hid (HB0.out.trans (HB2.out.mono HB0.out.size))
      have a0 := cell_block h6' 0
      have a1 := cell_block h6' 1
      have a2 := cell_block h6' 2
      have a3 := cell_block h6' 3
      have b0 := cell_block h7' 0
      have b1 := cell_block h7' 1
      have b2 := cell_block h7' 2
      have b3 := cell_block h7' 3
      simp only [List.getElem?_toArray, List.getElem?_cons_zero, List.getElem?_cons_succ] at a0 a1 a2 a3 b0 b1 b2 b3
      clear h6 h7 s7 h6' h7' hb1 hb2 hne g6a g7a
      by_cases hsm : sameE a b = true
      · have ek : (a.k != b.k) = false := by simp [sameE] at hsm; simpa using hsm.1
        have ei : (a.i != b.i) = false := by simp [sameE] at hsm; simpa using hsm.2.1
        have es : (a.s.toList == b.s.toList) = true := by simp [sameE] at hsm; simpa using hsm.2.2.1
        have en : a.n = 0 := by simp [sameE] at hsm; exact hsm.2.2.2.1
        have em : b.n = 0 := by simp [sameE] at hsm; exact hsm.2.2.2.2
        have HSM := Lib.hid hsm
        clear hsm
        go_wp2_with fail
        go_roundw
        case rel => exact ⟨k + 1, by omega, by go_num, Lib.hid (ext_ok HA.out (by rw [EA.out, EB.out]; exact HSM.out)), HB2⟩
        case measure => simp [intOf]; omega
      · have hno : sameB x lx y ly = false := by
          rw [sameB, all_no _ (List.range x.n) k (by simpa using hlt) (by simp only [List.getElem_range]; rw [EA.out, EB.out]; simpa using hsm), Bool.and_false]
        have HNO := Lib.hid hno
        clear hno
        go_wp2_with fail
        all_goals first
          | (go_ret; exact ⟨ret_bool HNO.out.symm, HB2w.out⟩)
          | (exfalso; apply hsm; clear a0 a1 a2 a3 b0 b1 b2 b3; simp_all [sameE])
    · go_wp2
      go_ret
      refine ⟨ret_bool ?_, HBw.out⟩
      rw [sameB, HH.out, Bool.true_and]
      exact (List.all_eq_true.2 fun j hj => HA.out j (by simp at hj; omega)).symm
end Go.Proofs.YtllgodaphoncnaaGreatDoor
