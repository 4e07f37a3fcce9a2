/- slices.Insert of one value ahead of others, without room; and on any road; Formed values, as the document has them. -/
import Derived.Test.YtllgodaphoncnaaGreatDoorJ10
import Derived.Test.YtllgodaphoncnaaGreatDoorJ06
namespace Go.Proofs.YtllgodaphoncnaaGreatDoor
open Go.RowKit

set_option maxRecDepth 100000 in
set_option maxHeartbeats 2000000 in
theorem insert_grow (w : World) (base g cap : Nat) (l : List Val) (i : Nat) (hi : i < l.length) (hl : l.length ≤ 1000) (cur : List Value) (hb : base ≤ g) (hg : w.heap[g]? = some (.cells cur.toArray 24 (0, 0))) (hroom : cap < l.length + 1) (hnc : l.length ≤ cap) (ht : cur.take (l.length * 4) = cellsL l)
    (G : Nat) (x : Val) (hG : w.heap[G]? = some (.cells x.cells.toArray 24 (0, 0))) :
    Calls Tryz.prog 169 #[.slice (some ⟨g, 0, none⟩) l.length cap, .int .i64 i, .slice (some ⟨G, 0, none⟩) 1 1] w fun e w' => ∃ v', e = .returned v' ∧ w'.ownsRow base 24 4 v' (l.length + 1) (cellsL (l.take i ++ x :: l.drop i)) ∧ Below base w w' := by
  obtain ⟨i0, hi0, hz0, hzs, hzb⟩ := info_parts (show (Tryz.prog.info? 24).map (fun i => (i.zero, i.size, i.bytes)) = some (some (.agg zeroCells.toArray), 4, 56) by kernel_rfl)
  have hsz : (Tryz.prog.info? 24).map (·.size) = some 4 := by kernel_rfl
  have hglt := lt_block hg
  have hGlt := lt_block hG
  have hkk : (l.length : Int) + 1 - (i : Int) = ((l.length + 1 - i : Nat) : Int) := by omega
  have hik : i + (l.length + 1 - i) = l.length + 1 := by omega
  have hAl : (cellsL (l.take i)).length = i * 4 := by rw [length_cellsL, List.length_take, Nat.min_eq_left (by omega)]
  have hDl : (cellsL (l.drop i)).length = (l.length - i) * 4 := by rw [length_cellsL, List.length_drop]
  have hx4 : x.cells.length = 4 := rfl
  have hcell : ∀ W : World, W.heap[g]? = some (.cells cur.toArray 24 (0, 0)) → ∀ j v, (cellsL l)[j]? = some v → W.cell? ⟨g, j, none⟩ = some v := fun W hW j v hj => by
    rw [cell_block hW]
    rw [← ht, List.getElem?_take] at hj
    split at hj
    · simpa using hj
    · cases hj
  have hold : (Builtin.firstCells i0.size i (.slice (some ⟨g, 0, none⟩) i cap)).run Tryz.prog w.drew = .ok (cellsL (l.take i)).toArray w.drew := by
    rw [hzs]
    exact run_firstCells_some w.drew 4 i ⟨g, 0, none⟩ i cap (cellsL (l.take i)) (by rw [hAl]) (fun j v hj => by
      rw [Addr.add_mid, Nat.zero_add]
      rw [← take_cellsL l i (by omega), List.getElem?_take] at hj
      split at hj
      · exact hcell w hg j v hj
      · cases hj)
  obtain ⟨C, hC⟩ : ∃ C, C = grownCap w (l.length + 1) cap 24 := ⟨_, rfl⟩
  have hCn : l.length + 1 ≤ C := by rw [hC]; exact grownCap_ge w _ _ _
  have hC63 : C ≤ maxLen := by rw [hC]; exact grownCap_le_maxLen w (l.length + 1) cap 24 (by unfold maxLen; omega)
  obtain ⟨ROW, hROW⟩ : ∃ ROW : Array Value, ROW = (cellsL (l.take i)).toArray ++ Builtin.zeroCells (Value.agg zeroCells.toArray).cells (l.length + 1 - i) ++ Builtin.zeroCells (Value.agg zeroCells.toArray).cells (C - (l.length + 1)) := ⟨_, rfl⟩
  have hrz : ∀ ty, (Builtin.append_ #[22, 3] ty #[.slice (some ⟨g, 0, none⟩) i cap, .int .i64 ((l.length : Int) + 1 - (i : Int))]).run Tryz.prog w =
      .ok (.slice (some ⟨w.heap.size, 0, none⟩) (l.length + 1) C) (w.drew.alloc (.cells ROW 24)) := fun ty => by
    have h := Lib.run_append_grow_zeros w 22 3 ty 24 i0 _ .i64 .i64 Tryz.underlying22 Tryz.underlying3 hi0 hz0 (some ⟨g, 0, none⟩) i cap (cellsL (l.take i)) hold (l.length + 1 - i) (by omega) (by omega) (by omega) (by omega) (by rw [hzb]; omega) (by rw [hzb, hik]; exact growslice_fits hroom (by omega))
    rw [hik] at h
    rw [hkk, hROW, hC]
    exact h
  have hRl : ROW.toList.length = C * 4 := by
    rw [hROW]
    have e4 : (Value.agg zeroCells.toArray).cells.size = 4 := rfl
    simp [Builtin.zeroCells, e4, hAl]
    omega
  have hRt : ROW.toList.take (cellsL (l.take i)).length = cellsL (l.take i) := by
    rw [hROW]
    simp
  obtain ⟨row, hrow⟩ : ∃ row : List Value, row = ROW.toList := ⟨_, rfl⟩
  obtain rfl : ROW = row.toArray := by rw [hrow]
  simp only at hRl hRt
  obtain ⟨W1, hW1⟩ : ∃ W1, W1 = w.drew.alloc (.cells row.toArray 24) := ⟨_, rfl⟩
  rw [← hW1] at hrz
  have hN : W1.heap[w.heap.size]? = some (.cells row.toArray 24 (0, 0)) := by rw [hW1]; exact heap_alloc_new w.drew _
  have hB1 : Below w.heap.size w W1 := by
    rw [hW1]
    have h : Below w.heap.size w w.drew := ⟨rfl, rfl, rfl, Nat.le_refl _, fun _ _ => rfl⟩
    exact h.alloc (Nat.le_refl _) _
  have hS := splice_forth row (cellsL (l.take i)) x.cells (cellsL (l.drop i)) hRt (by omega)
  rw [hAl, hDl, hx4] at hS
  have hsrc : ∀ j u, x.cells[j]? = some u → W1.cell? ((⟨G, 0, none⟩ : Addr).add j) = some u := by
    intro j u hu
    have h := hG
    rw [← hB1.block G hGlt] at h
    rw [Addr.add_mid, Nat.zero_add, cell_block h j]; simpa using hu
  obtain ⟨w2, hcp, hg2, hb2, ho2⟩ := run_copy_ex (P := Tryz.prog) 22 22 3 24 4 Tryz.underlying22 hsz w.heap.size (i * 4) (l.length + 1 - i) (C - i) ⟨G, 0, none⟩ 1 1 row 24 hN x.cells (by rw [hx4]; show _ = min _ _ * 4; omega) hsrc (by omega) (one_cells x) w.heap.size w hB1 (Nat.le_refl _)
  have hsl := length_splice row (i * 4) x.cells (by omega)
  obtain ⟨row1, hrow1⟩ : ∃ row1, splice row (i * 4) x.cells = row1 := ⟨_, rfl⟩
  rw [hrow1] at hg2 hsl
  rw [show i * 4 + 4 = (i + 1) * 4 by omega, hrow1] at hS
  have hg2' : w2.heap[g]? = some (.cells cur.toArray 24 (0, 0)) := by rw [hb2.block g hglt]; exact hg
  have HCL := Lib.hid (hcell)
  have HGG := Lib.hid hg2'
  have HB2 := Lib.hid hb2
  have HS := Lib.hid hS
  have hm : C ≤ 2 ^ 63 - 1 := hC63
  have hCi : ¬ C = i := by omega
  have hCi1 : ¬ C = i + 1 := by omega
  have hci : ¬ cap = i := by omega
  have hb1 : (i : Int) ≤ (l.length : Int) := by omega
  have hb2' : i ≤ l.length := by omega
  clear hkk hik hold hROW hC hrow hW1 hN hB1 hsrc ho2 hrow1 hRt hcell hg2' hg hG hi0 hz0 hzs hzb hb2 hS ht
  go_enter Tryz.func169, Tryz.ntmps169
  go_wp2_with (first
    | (at_builtin; refine Lib.wpList_append_run _ rfl _ _ _ _ rfl _ _ rfl rfl _ _ (hrz _) ?_)
    | simp only [hcp])
  clear hrz hcp
  refine wp_region_quiet_tailB 8 (by kernel_rfl) (by kernel_rfl) ?_
  simp only [List.take_succ_cons, List.take_zero, List.drop_succ_cons, List.drop_zero]
  iterate 8 (go_big_quiet_step (fail))
  refine wpQuiet_nil ?_
  intro m
  have hs2 := HB2.out.size
  have hlt2 := lt_block hg2.out
  have hgm := hg2.out
  rw [← m.below.block w.heap.size hlt2] at hgm
  have HBM : Below w.heap.size w m.wr := HB2.out.trans (m.below.mono hs2)
  have hggm : m.wr.heap[g]? = some (.cells cur.toArray 24 (0, 0)) := by rw [m.below.block g (by omega)]; exact HGG.out
  refine wpList_copy_wide rfl (.tmp 50) (.tmp 53) 22 22 rfl 24 4 Tryz.underlying22 hsz _ _ _ _ _ _ _ rfl rfl row1 24 hgm (cellsL (l.drop i)) ?_ ?_ ?_ (one_cellsL _) w.heap.size w HBM (Nat.le_refl _) ?_
  · rw [hDl]
    show _ = min _ _ * 4
    omega
  · intro j v hj
    rw [Addr.add_mid]
    refine HCL.out _ hggm _ v ?_
    rw [← drop_cellsL l i (by omega), List.getElem?_drop] at hj
    exact hj
  · rw [hDl]; omega
  intro w3 hg3 hb3 _
  have HB3 := Lib.hid hb3
  clear hb3 hgm HBM hggm HB2 HGG HCL hg2
  go_wp2_with fail
  go_ret
  exact ⟨_, rfl, own_put (by omega) (by omega) hCn hC63 HS.out (by rw [length_splice _ _ _ (by omega)]; omega) hg3.out, HB3.out.mono (by omega)⟩

set_option maxRecDepth 100000 in
/-- one value put into a row of values -/
theorem insert_any (w : World) (base : Nat) (v : Value) (l : List Val) (i : Nat) (hi : i ≤ l.length) (hl : l.length ≤ 1000) (hown : w.ownsRow base 24 4 v l.length (cellsL l)) (G : Nat) (x : Val) (hG : w.heap[G]? = some (.cells x.cells.toArray 24 (0, 0))) (hne : v.ownBlock ≠ some G) (hbase : base ≤ w.heap.size) :
    Calls Tryz.prog 169 #[v, .int .i64 i, .slice (some ⟨G, 0, none⟩) 1 1] w fun e w' => ∃ v', e = .returned v' ∧ w'.ownsRow base 24 4 v' (l.length + 1) (cellsL (l.take i ++ x :: l.drop i)) ∧ Below base w w' := by
  rcases Nat.lt_or_ge i l.length with h | h
  · rcases hown.2 with ⟨_, hn⟩ | ⟨g, cap, cur, rfl, hb, hg, hc, hm, hcs, ht⟩
    · omega
    · have hgne : G ≠ g := fun e => hne (by rw [e]; rfl)
      rcases Nat.lt_or_ge cap (l.length + 1) with hr | hr
      · exact insert_grow w base g cap l i h hl cur.toList hb (by simpa using hg) hr hc ht G x hG
      · exact insert_shift w base g cap l i h hl cur.toList hb (by simpa using hg) hr hm (by simpa using hcs) ht G x hG hgne
  · obtain rfl : i = l.length := by omega
    have h := insert_end w base v l hl hown G x hG hbase
    rwa [List.take_length, List.drop_length]
end Go.Proofs.YtllgodaphoncnaaGreatDoor
namespace Go.Proofs.YtllgodaphoncnaaGreatDoor
open Go.RowKit

set_option maxRecDepth 100000 in
theorem alone_kind {y : Val} (h : y.alone = true) : y.k = 0 ∨ y.k = 1 ∨ y.k = 2 ∨ y.k = 3 ∨ y.k = 4 := by
  unfold Val.alone aloneB at h
  by_cases h0 : y.k = 0; · exact .inl h0
  by_cases h1 : y.k = 1; · exact .inr (.inl h1)
  by_cases h2 : y.k = 2; · exact .inr (.inr (.inl h2))
  by_cases h3 : y.k = 3; · exact .inr (.inr (.inr (.inl h3)))
  by_cases h4 : y.k = 4; · exact .inr (.inr (.inr (.inr h4)))
  simp [h0, h1, h2, h3, h4] at h
set_option maxRecDepth 100000 in
theorem ord_same {p y : Val} (hk : p.k = y.k) (hy : y.alone = true) (h0 : ¬ y.k = 0) : ordS p.k p.i p.s y.k y.i y.s = p.ord y := by
  unfold Val.ord ordS ordA
  rw [hk]
  rcases alone_kind hy with h | h | h | h | h
  · exact absurd h h0
  all_goals simp [h]
set_option maxRecDepth 100000 in
theorem okV_parts {h p x : Val} {j : Nat} (e : okV h p x j = true) : ¬ x.k = 0 ∧ x.k = h.k ∧ x.alone = true := by
  unfold okV at e
  simp at e
  exact ⟨e.1, e.2.1, e.2.2.1⟩
set_option maxRecDepth 100000 in
set_option maxHeartbeats 2000000 in
theorem refFormed_bag (w : World) (x : Val) (l : List Val) (hf : Full w x l) (hk : x.k = 5) (h1 : x.i = 0) (h2 : x.s.toList.isEmpty = true) (h16 : ¬ 16 < x.n) :
    Calls Tryz.prog 56 #[x.v] w fun e w' => e = .returned (.bool (listB l)) ∧ Below w.heap.size w w' := by
  obtain ⟨g, o, hl⟩ := hf.list
  have hn := hf.len
  have h16' : l.length ≤ 16 := by omega
  have HL := Lib.hid hl
  have HN := Lib.hid hn
  clear hl hf hn
  unfold Val.v
  go_enter Tryz.func56, Tryz.ntmps56
  go_wp2_with fail
  generalize hW : World.alloc _ _ = W0
  have hb0 : Below w.heap.size w W0 := by rw [← hW]; exact (Below.refl _ _).alloc (Nat.le_refl _) _
  have hblk : W0.heap[w.heap.size]? = some (.cells #[.int .i64 x.k, .int .i64 x.i, .string x.s, .slice x.a x.n x.c] 24 (0, 0)) := by rw [← hW]; first | exact heap_alloc_new _ _ | (rw [h1, hk]; exact heap_alloc_new _ _)
  have HB0 := Lib.hid hb0
  have Hblk := Lib.hid hblk
  clear hW hb0 hblk
  go_loopw [3] (fun i wr => ∃ k : Nat, k ≤ l.length ∧ i = .int .i64 k ∧ Hid (∀ j, j < k → okA l j = true) ∧ Below W0.heap.size W0 wr) (fun i _ => l.length - (intOf i).toNat)
  case atStart => exact ⟨0, by omega, rfl, Lib.hid (fun j hj => by omega), Below.refl _ _⟩
  case round =>
    obtain ⟨k, hkl, rfl, HA, hbw⟩ := hrel
    have HB := Lib.hid hbw
    have HBw := Lib.hid (HB0.out.trans (hbw.mono HB0.out.size))
    have hblk := (hbw.block _ (lt_block Hblk.out)).trans Hblk.out
    have r3 : wr.cell? ⟨w.heap.size, 3, none⟩ = some (.slice x.a x.n x.c) := cell_block hblk 3
    have HR := Lib.hid hblk
    clear hbw hblk
    have hxn := HN.out
    by_cases hlt : k < l.length
    · have hat := HL.out.at' (by intro e; subst e; simp at hlt)
      rw [hat] at r3 HR
      have hltn : k < x.n := by omega
      clear hxn hat
      go_wp2_with fail
      obtain ⟨y, hY⟩ : ∃ y, l[k]! = y := ⟨_, rfl⟩
      obtain ⟨h, hH⟩ : ∃ h, l[0]! = h := ⟨_, rfl⟩
      obtain ⟨p, hP⟩ : ∃ p, l[k - 1]! = p := ⟨_, rfl⟩
      have hok : okA l k = okV h p y k := by rw [okA, hY, hH, hP]
      have hsy : y.s.size ≤ maxLen := by rw [← hY, getElem!_pos l k hlt]; exact HL.out.size _ (List.getElem_mem _)
      have hsp : p.s.size ≤ maxLen := by rw [← hP, getElem!_pos l (k - 1) (by omega)]; exact HL.out.size _ (List.getElem_mem _)
      have Hsy := Lib.hid hsy
      have Hsp := Lib.hid hsp
      have HK := Lib.hid hok
      have p3 := fun m : Bl wr => (cells4 HR.out m).2.2.2
      have y0 := fun m : Bl wr => (HL.out.cells HBw.out k hlt m).1
      have y1 := fun m : Bl wr => (HL.out.cells HBw.out k hlt m).2.1
      have y2 := fun m : Bl wr => (HL.out.cells HBw.out k hlt m).2.2.1
      have y3 := fun m : Bl wr => (HL.out.cells HBw.out k hlt m).2.2.2
      have z0 := fun m : Bl wr => (HL.out.cells HBw.out 0 (by omega) m).1
      rw [hY] at y0 y1 y2 y3
      rw [hH] at z0
      simp only [Nat.zero_mul, Nat.add_zero] at z0
      have HP := Lib.hid hP
      have HH := Lib.hid hH
      clear hY hH hP hok hsy hsp
      obtain ⟨al, hal⟩ : ∃ al, y.alone = al := ⟨_, rfl⟩
      have F : Hid (∀ W, Calls Tryz.prog 82 #[V y.k y.i y.s y.a y.n y.c] W fun e w' => e = .returned (.bool al) ∧ Below W.heap.size W w') := Lib.hid (by
        intro W
        rw [← hal]
        exact one_any y.k y.i y.s y.a y.n y.c W Hsy.out)
      have HAL := Lib.hid hal
      clear hal r3
      cases al
      · skip
        refine wp_region_quiet_tailB 48 (by kernel_rfl) (by kernel_rfl) ?_
        simp only [List.take_succ_cons, List.take_zero, List.drop_succ_cons, List.drop_zero]
        iterate 48 (go_big_quiet_step ((go_at_call 82; with_reducible exact Calls.quiet_b (F.out _))))
        refine wpQuiet_nil ?_
        intro m
        have HBM := Lib.hid (HB.out.trans (m.below.mono HB.out.size))
        have HBMw := Lib.hid (HB0.out.trans (HBM.out.mono HB0.out.size))
        clear p3 y0 y1 y2 y3 z0
        go_wp2_with fail
        go_ret
        exact ⟨ret_bool (listB_no hlt (by rw [HK.out]; exact okV_alone HAL.out)), HBMw.out⟩
      by_cases hy0 : y.k = 0
      · have hy0' : (y.k == 0) = true := by simpa using hy0
        have HY0 := Lib.hid hy0
        clear hy0
        refine wp_region_quiet_tailB 48 (by kernel_rfl) (by kernel_rfl) ?_
        simp only [List.take_succ_cons, List.take_zero, List.drop_succ_cons, List.drop_zero]
        iterate 48 (go_big_quiet_step ((go_at_call 82; with_reducible exact Calls.quiet_b (F.out _))))
        refine wpQuiet_nil ?_
        intro m
        have HBM := Lib.hid (HB.out.trans (m.below.mono HB.out.size))
        have HBMw := Lib.hid (HB0.out.trans (HBM.out.mono HB0.out.size))
        clear p3 y0 y1 y2 y3 z0
        go_wp2_with fail
        go_ret
        exact ⟨ret_bool (listB_no hlt (by rw [HK.out]; exact okV_zero HY0.out)), HBMw.out⟩
      have hy0' : (y.k == 0) = false := by simpa using hy0
      by_cases hyh : y.k = h.k
      case neg =>
        have hyh' : (y.k != h.k) = true := by simpa using hyh
        refine wp_region_quiet_tailB 48 (by kernel_rfl) (by kernel_rfl) ?_
        simp only [List.take_succ_cons, List.take_zero, List.drop_succ_cons, List.drop_zero]
        iterate 48 (go_big_quiet_step ((go_at_call 82; with_reducible exact Calls.quiet_b (F.out _))))
        refine wpQuiet_nil ?_
        intro m
        have HBM := Lib.hid (HB.out.trans (m.below.mono HB.out.size))
        have HBMw := Lib.hid (HB0.out.trans (HBM.out.mono HB0.out.size))
        clear p3 y0 y1 y2 y3 z0
        go_wp2_with fail
        go_ret
        exact ⟨ret_bool (listB_no hlt (by rw [HK.out]; exact okV_kind hyh)), HBMw.out⟩
      rw [← hyh] at z0
      have HYH := Lib.hid hyh
      clear hyh
      rcases k with _ | k
      · skip
        refine wp_region_quiet_tailB 48 (by kernel_rfl) (by kernel_rfl) ?_
        simp only [List.take_succ_cons, List.take_zero, List.drop_succ_cons, List.drop_zero]
        iterate 48 (go_big_quiet_step ((go_at_call 82; with_reducible exact Calls.quiet_b (F.out _))))
        refine wpQuiet_nil ?_
        intro m
        have HBM := Lib.hid (HB.out.trans (m.below.mono HB.out.size))
        have HBMw := Lib.hid (HB0.out.trans (HBM.out.mono HB0.out.size))
        clear p3 y0 y1 y2 y3 z0
        go_wp2_with fail
        go_roundw
        case rel => exact ⟨1, by omega, by go_num, Lib.hid (ext_ok HA.out (by rw [HK.out]; exact okV_first hy0 HYH.out HAL.out)), HBM.out⟩
        case measure => simp [intOf]; omega
      · have q0 := fun m : Bl wr => (HL.out.cells HBw.out k (by omega) m).1
        have q1 := fun m : Bl wr => (HL.out.cells HBw.out k (by omega) m).2.1
        have q2 := fun m : Bl wr => (HL.out.cells HBw.out k (by omega) m).2.2.1
        have q3 := fun m : Bl wr => (HL.out.cells HBw.out k (by omega) m).2.2.2
        have hpk : l[k]! = p := HP.out
        rw [hpk] at q0 q1 q2 q3
        have hpp : okA l k = true := HA.out k (by omega)
        rw [okA, hpk] at hpp
        have hparts := okV_parts hpp
        have hyl : l[0]!.k = y.k := by
          rw [HH.out]; exact HYH.out.symm
        obtain ⟨od, hod⟩ : ∃ od, p.ord y = od := ⟨_, rfl⟩
        have G : Hid (∀ W, Calls Tryz.prog 83 #[V p.k p.i p.s p.a p.n p.c, V y.k y.i y.s y.a y.n y.c] W fun e w' => e = .returned (.int .i64 od) ∧ Below W.heap.size W w') := Lib.hid (by
          intro W
          rw [← hod, ← ord_same (hparts.2.1.trans hyl) HAL.out hy0]
          exact single_any p.k p.i p.s p.a p.n p.c y.k y.i y.s y.a y.n y.c W Hsp.out Hsy.out)
        have HOD := Lib.hid hod
        clear hod hpk hpp hparts hyl
        refine wp_region_quiet_tailB 48 (by kernel_rfl) (by kernel_rfl) ?_
        simp only [List.take_succ_cons, List.take_zero, List.drop_succ_cons, List.drop_zero]
        iterate 48 (go_big_quiet_step ((first | (go_at_call 82; with_reducible exact Calls.quiet_b (F.out _)) | (go_at_call 83; with_reducible exact Calls.quiet_b (G.out _)))))
        refine wpQuiet_nil ?_
        intro m
        have HBM := Lib.hid (HB.out.trans (m.below.mono HB.out.size))
        have HBMw := Lib.hid (HB0.out.trans (HBM.out.mono HB0.out.size))
        clear p3 y0 y1 y2 y3 z0
        clear q0 q1 q2 q3
        by_cases hneg : od < 0
        · go_wp2_with fail
          go_roundw
          case rel => exact ⟨k + 1 + 1, by omega, by go_num, Lib.hid (ext_ok HA.out (by rw [HK.out]; exact okV_yes hy0 HYH.out HAL.out (by rw [HOD.out]; exact hneg))), HBM.out⟩
          case measure => simp [intOf]; omega
        · go_wp2_with fail
          go_ret
          exact ⟨ret_bool (listB_no hlt (by rw [HK.out]; exact okV_ord (by omega) (by rw [HOD.out]; omega))), HBMw.out⟩
    · have hge : ¬ k < x.n := by omega
      clear hxn
      go_wp2
      go_ret
      exact ⟨ret_bool (listB_yes h16' (by have h := HA.out; intro j hj; exact h j (by omega))), HBw.out⟩

set_option maxRecDepth 100000 in
set_option maxHeartbeats 400000 in
theorem refFormed_any (w : World) (x : Val) (l : List Val) (hf : Full w x l) :
    Calls Tryz.prog 56 #[x.v] w fun e w' => e = .returned (.bool (x.formed l)) ∧ Below w.heap.size w w' := by
  by_cases hk : x.k = 5
  · have e : x.formed l = (x.i == 0 && (x.s.toList.isEmpty && listB l)) := by rw [Val.formed, if_pos (by simpa using hk)]
    rw [e]
    by_cases h1 : x.i = 0
    · by_cases h2 : x.s.toList.isEmpty = true
      · by_cases h16 : 16 < x.n
        · have hlf : listB l = false := (listB_long (by have := hf.len; omega)).symm
          rw [hlf]
          have hmost := hf.most
          unfold maxLen at hmost
          clear hlf e hf
          unfold Val.v
          go_enter Tryz.func56, Tryz.ntmps56
          go_wp2_with fail
          all_goals
            go_ret
            refine ⟨ret_bool ?_, (Below.refl _ _).alloc (Nat.le_refl _) _⟩
            simp
        · rw [show (x.i == 0 && (x.s.toList.isEmpty && listB l)) = listB l by simp [h1, h2]]
          exact refFormed_bag w x l hf hk h1 h2 h16
      · clear e hf
        unfold Val.v
        go_enter Tryz.func56, Tryz.ntmps56
        go_wp2_with fail
        all_goals
          go_ret
          refine ⟨ret_bool ?_, (Below.refl _ _).alloc (Nat.le_refl _) _⟩
          simp_all
    · clear e hf
      unfold Val.v
      go_enter Tryz.func56, Tryz.ntmps56
      go_wp2_with fail
      all_goals
        go_ret
        refine ⟨ret_bool ?_, (Below.refl _ _).alloc (Nat.le_refl _) _⟩
        simp_all
  · have e : x.formed l = x.alone := by rw [Val.formed, if_neg (by simpa using hk)]
    rw [e]
    have F := Lib.hid (fun W => one_any x.k x.i x.s x.a x.n x.c W hf.size)
    have hk' : (x.k != 5) = true := by simpa using hk
    clear e hf
    unfold Val.v
    go_enter Tryz.func56, Tryz.ntmps56
    go_wp2_with fail
    refine (F.out _).mono ?_
    rintro e w1 ⟨rfl, hb1⟩
    have HB := Lib.hid (((Below.refl w.heap.size w).alloc (Nat.le_refl _) _).trans (hb1.mono (by simp)))
    clear hb1 F
    go_wp2_with fail
    go_ret
    exact ⟨rfl, HB.out⟩
end Go.Proofs.YtllgodaphoncnaaGreatDoor
