/- slices.Insert of one value ahead of others, in room; slices.Insert of one value ahead of others, without room; and on any road. -/
import Derived.Test.YtllgodaphoncnaaGreatDoorJ11
namespace Go.Proofs.YtllgodaphoncnaaGreatDoor
open Go.RowKit

set_option maxRecDepth 100000 in
theorem splice_mid (A X Z xc : List Value) (h : X.length = xc.length) : splice (A ++ (X ++ Z)) A.length xc = A ++ (xc ++ Z) := by
  unfold splice
  rw [List.take_left' rfl, ← h, ← List.append_assoc A X Z, List.drop_left' (by simp)]
set_option maxRecDepth 100000 in
theorem three_parts (cur A : List Value) (p q : Nat) (hA : cur.take A.length = A) (hlen : A.length + p + q ≤ cur.length) :
    ∃ X Y, X.length = p ∧ Y.length = q ∧ cur = A ++ (X ++ (Y ++ cur.drop (A.length + p + q))) := by
  refine ⟨(cur.drop A.length).take p, (cur.drop (A.length + p)).take q, by simp; omega, by simp; omega, ?_⟩
  conv => lhs; rw [← List.take_append_drop A.length cur, hA]
  congr 1
  conv => lhs; rw [← List.take_append_drop p (cur.drop A.length)]
  congr 1
  rw [List.drop_drop]
  conv => lhs; rw [← List.take_append_drop q (cur.drop (A.length + p))]
  congr 1
  rw [List.drop_drop]
set_option maxRecDepth 100000 in
theorem splice_back (cur A xc D : List Value) (hA : cur.take A.length = A) (hlen : A.length + xc.length + D.length ≤ cur.length) :
    splice (splice cur (A.length + xc.length) D) A.length xc = A ++ (xc ++ (D ++ cur.drop (A.length + xc.length + D.length))) := by
  obtain ⟨X, Y, hX, hY, e⟩ := three_parts cur A xc.length D.length hA hlen
  generalize cur.drop (A.length + xc.length + D.length) = Z at *
  rw [e, ← List.append_assoc A X, show A.length + xc.length = (A ++ X).length by simp [hX], splice_mid (A ++ X) Y Z D hY, List.append_assoc, splice_mid A X _ xc hX]
set_option maxRecDepth 100000 in
theorem splice_forth (cur A xc D : List Value) (hA : cur.take A.length = A) (hlen : A.length + xc.length + D.length ≤ cur.length) :
    splice (splice cur A.length xc) (A.length + xc.length) D = A ++ (xc ++ (D ++ cur.drop (A.length + xc.length + D.length))) := by
  obtain ⟨X, Y, hX, hY, e⟩ := three_parts cur A xc.length D.length hA hlen
  generalize cur.drop (A.length + xc.length + D.length) = Z at *
  rw [e, splice_mid A X _ xc hX, ← List.append_assoc A xc, show A.length + xc.length = (A ++ xc).length by simp, splice_mid (A ++ xc) Y Z D hY, List.append_assoc]
set_option maxRecDepth 100000 in
/-- a row that holds values, one put in between -/
theorem own_put {w : World} {base g cap : Nat} {l : List Val} {x : Val} {i : Nat} {cur : List Value} {Z : List Value} (hi : i ≤ l.length) (hb : base ≤ g) (hcap : l.length + 1 ≤ cap) (hm : cap ≤ maxLen)
    (e : cur = cellsL (l.take i) ++ (x.cells ++ (cellsL (l.drop i) ++ Z))) (hz : cur.length = cap * 4) (hg : w.heap[g]? = some (.cells cur.toArray 24 (0, 0))) :
    w.ownsRow base 24 4 (.slice (some ⟨g, 0, none⟩) (l.length + 1) cap) (l.length + 1) (cellsL (l.take i ++ x :: l.drop i)) := by
  have ee : cellsL (l.take i ++ x :: l.drop i) = cellsL (l.take i) ++ (x.cells ++ cellsL (l.drop i)) := by rw [cellsL_append]; simp [cellsL]
  refine ⟨by rw [length_cellsL]; simp; omega, .inr ⟨g, cap, cur.toArray, rfl, hb, hg, hcap, hm, by simpa using hz, ?_⟩⟩
  rw [ee, e]
  show List.take _ (cellsL (l.take i) ++ (x.cells ++ (cellsL (l.drop i) ++ Z))) = _
  rw [← List.append_assoc x.cells, ← List.append_assoc]
  refine List.take_left' ?_
  simp only [List.length_append, length_cellsL, List.length_take, List.length_drop, show x.cells.length = 4 from rfl]
  omega

set_option maxRecDepth 100000 in
set_option maxHeartbeats 2000000 in
theorem insert_shift (w : World) (base g cap : Nat) (l : List Val) (i : Nat) (hi : i < l.length) (hl : l.length ≤ 1000) (cur : List Value) (hb : base ≤ g) (hg : w.heap[g]? = some (.cells cur.toArray 24 (0, 0))) (hroom : l.length + 1 ≤ cap) (hm : cap ≤ maxLen) (hcs : cur.length = cap * 4) (ht : cur.take (l.length * 4) = cellsL l)
    (G : Nat) (x : Val) (hG : w.heap[G]? = some (.cells x.cells.toArray 24 (0, 0))) (hne : G ≠ g) :
    Calls Tryz.prog 169 #[.slice (some ⟨g, 0, none⟩) l.length cap, .int .i64 i, .slice (some ⟨G, 0, none⟩) 1 1] w fun e w' => ∃ v', e = .returned v' ∧ w'.ownsRow base 24 4 v' (l.length + 1) (cellsL (l.take i ++ x :: l.drop i)) ∧ Below base w w' := by
  have hsz : (Tryz.prog.info? 24).map (·.size) = some 4 := by kernel_rfl
  have hszo : ∀ w, (Go.sizeOf 24).run Tryz.prog w = .ok 4 w := fun _ => by kernel_rfl
  have hov : ∀ ob lb cb, (callFunc 179 #[.slice (some ⟨G, 0, none⟩) 1 1, .slice (some ⟨g, ob, none⟩) lb cb]).run Tryz.prog w = .ok (.value (.bool false)) w := fun ob lb cb => by
    rw [run_callFunc_extern Tryz.func179 (by kernel_rfl) (by kernel_rfl) (by kernel_rfl) (e := Extern.SlicesOverlaps.overlaps #[22, 22] #[4]) (by kernel_rfl),
      Lib.run_overlaps_apart w 22 4 24 Tryz.underlying22 4 hszo ⟨G, 0, none⟩ ⟨g, ob, none⟩ 1 1 lb cb hne 24 24 4 cur.length (by simp [World.shape?, hG, Val.cells]) (by simp [World.shape?, hg]) (by omega) (by simp [World.frozen?, hG]) (by simp [World.frozen?, hG])]
    rfl
  unfold maxLen at hm
  have HG := Lib.hid hG
  have HG2 := Lib.hid hg
  clear hG hg
  go_enter Tryz.func169, Tryz.ntmps169
  go_wp2_with (simp only [hov])
  clear hov hszo
  have hA : cur.take (cellsL (l.take i)).length = cellsL (l.take i) := by
    rw [← take_cellsL l i (by omega), ← ht, List.take_take, List.length_take]
    congr 1
    have := length_cellsL l
    rw [← ht, List.length_take] at this
    omega
  have hAl : (cellsL (l.take i)).length = i * 4 := by rw [length_cellsL, List.length_take, Nat.min_eq_left (by omega)]
  have hDl : (cellsL (l.drop i)).length = (l.length - i) * 4 := by rw [length_cellsL, List.length_drop]
  have hx4 : x.cells.length = 4 := rfl
  have hS := splice_back cur (cellsL (l.take i)) x.cells (cellsL (l.drop i)) hA (by omega)
  rw [hAl, hDl, hx4] at hS
  have hsl := length_splice cur ((i + 1) * 4) (cellsL (l.drop i)) (by omega)
  refine wp_region_quiet_tailB 8 (by kernel_rfl) (by kernel_rfl) ?_
  simp only [List.take_succ_cons, List.take_zero, List.drop_succ_cons, List.drop_zero]
  iterate 8 (go_big_quiet_step (fail))
  refine wpQuiet_nil ?_
  intro m
  have hgm := HG2.out
  rw [← m.below.block g (lt_block hgm)] at hgm
  have HGM := Lib.hid hgm
  clear hgm
  have hbase : base ≤ w.heap.size := Nat.le_trans hb (Nat.le_of_lt (lt_block HG2.out))
  have hGlt := lt_block HG.out
  refine wpList_copy_wide rfl (.tmp 73) (.tmp 76) 22 22 rfl 24 4 Tryz.underlying22 hsz _ _ _ _ _ _ _ rfl rfl cur 24 HGM.out (cellsL (l.drop i)) ?_ ?_ ?_ (one_cellsL _) g w (m.below.mono (Nat.le_of_lt (lt_block HG2.out))) (Nat.le_refl _) ?_
  · rw [hDl]
    show _ = min _ _ * 4
    omega
  · intro j v hj
    rw [Addr.add_mid, cell_block HGM.out]
    rw [← drop_cellsL l i (by omega), ← ht, List.getElem?_drop, List.getElem?_take] at hj
    split at hj
    · simpa using hj
    · cases hj
  · rw [hDl]; omega
  intro w2 hg2 hb2 ho2
  obtain ⟨cur1, hcur1⟩ : ∃ cur1, splice cur ((i + 1) * 4) (cellsL (l.drop i)) = cur1 := ⟨_, rfl⟩
  rw [hcur1] at hg2 hsl
  rw [show i * 4 + 4 = (i + 1) * 4 by omega, hcur1] at hS
  have hG2 : w2.heap[G]? = some (.cells x.cells.toArray 24 (0, 0)) := by
    rw [ho2.out G hne, m.below.block G hGlt]; exact HG.out
  have HGx := Lib.hid hG2
  have HB2 := Lib.hid hb2
  have HS := Lib.hid hS
  clear hA hAl hDl hcur1 HGM hb2 hS hG2 ht
  have hci : ¬ cap = i := by omega
  have hsrc : Hid (∀ j u, x.cells[j]? = some u → w2.cell? ((⟨G, 0, none⟩ : Addr).add j) = some u) := Lib.hid (by
    intro j u hu
    rw [Addr.add_mid, Nat.zero_add, cell_block HGx.out j]; simpa using hu)
  obtain ⟨w3, hcp, hg3, hb3, _⟩ := run_copy_ex (P := Tryz.prog) 22 22 3 24 4 Tryz.underlying22 hsz g (i * 4) (l.length + 1 - i) (cap - i) ⟨G, 0, none⟩ 1 1 cur1 24 hg2.out x.cells (by rw [hx4]; show _ = min _ _ * 4; omega) hsrc.out (by omega) (one_cells x) g w HB2.out (Nat.le_refl _)
  have HB3 := Lib.hid hb3
  clear hb3 hsrc HB2 hg2 HGx
  go_wp2_with (simp only [hcp])
  go_ret
  exact ⟨_, rfl, own_put (by omega) hb hroom hm HS.out (by rw [length_splice _ _ _ (by omega)]; omega) hg3.out, HB3.out.mono hb⟩
end Go.Proofs.YtllgodaphoncnaaGreatDoor
namespace Go.Proofs.YtllgodaphoncnaaGreatDoor
open Go.RowKit

set_option maxRecDepth 100000 in
set_option maxHeartbeats 2000000 in
theorem insert_grow (w : World) (base g cap : Nat) (l : List Val) (i : Nat) (hi : i < l.length) (hl : l.length ≤ 1000) (cur : List Value) (hb : base ≤ g) (hg : w.heap[g]? = some (.cells cur.toArray 24 (0, 0))) (hroom : cap < l.length + 1) (hnc : l.length ≤ cap) (ht : cur.take (l.length * 4) = cellsL l)
    (G : Nat) (x : Val) (hG : w.heap[G]? = some (.cells x.cells.toArray 24 (0, 0))) :
    Calls Tryz.prog 169 #[.slice (some ⟨g, 0, none⟩) l.length cap, .int .i64 i, .slice (some ⟨G, 0, none⟩) 1 1] w fun e w' => ∃ v', e = .returned v' ∧ w'.ownsRow base 24 4 v' (l.length + 1) (cellsL (l.take i ++ x :: l.drop i)) ∧ Below base w w' := by
  obtain ⟨i0, hi0, hz0, hzs, hzb⟩ := info_parts (show (Tryz.prog.info? 24).map (fun i => (i.zero, i.size, i.bytes)) = some (some (.agg zeroCells.toArray), 4, 56) by kernel_rfl)
  have hsz : (Tryz.prog.info? 24).map (·.size) = some 4 := by kernel_rfl
  have hglt := lt_block hg
  have hGlt := lt_block hG
  have hkk : (l.length : Int) + 1 - (i : Int) = ((l.length + 1 - i : Nat) : Int) := by omega
  have hik : i + (l.length + 1 - i) = l.length + 1 := by omega
  have hAl : (cellsL (l.take i)).length = i * 4 := by rw [length_cellsL, List.length_take, Nat.min_eq_left (by omega)]
  have hDl : (cellsL (l.drop i)).length = (l.length - i) * 4 := by rw [length_cellsL, List.length_drop]
  have hx4 : x.cells.length = 4 := rfl
  have hcell : ∀ W : World, W.heap[g]? = some (.cells cur.toArray 24 (0, 0)) → ∀ j v, (cellsL l)[j]? = some v → W.cell? ⟨g, j, none⟩ = some v := fun W hW j v hj => by
    rw [cell_block hW]
    rw [← ht, List.getElem?_take] at hj
    split at hj
    · simpa using hj
    · cases hj
  have hold : (Builtin.firstCells i0.size i (.slice (some ⟨g, 0, none⟩) i cap)).run Tryz.prog w.drew = .ok (cellsL (l.take i)).toArray w.drew := by
    rw [hzs]
    exact run_firstCells_some w.drew 4 i ⟨g, 0, none⟩ i cap (cellsL (l.take i)) (by rw [hAl]) (fun j v hj => by
      rw [Addr.add_mid, Nat.zero_add]
      rw [← take_cellsL l i (by omega), List.getElem?_take] at hj
      split at hj
      · exact hcell w hg j v hj
      · cases hj)
  obtain ⟨C, hC⟩ : ∃ C, C = grownCap w (l.length + 1) cap 24 := ⟨_, rfl⟩
  have hCn : l.length + 1 ≤ C := by rw [hC]; exact grownCap_ge w _ _ _
  have hC63 : C ≤ maxLen := by rw [hC]; exact grownCap_le_maxLen w (l.length + 1) cap 24 (by unfold maxLen; omega)
  obtain ⟨ROW, hROW⟩ : ∃ ROW : Array Value, ROW = (cellsL (l.take i)).toArray ++ Builtin.zeroCells (Value.agg zeroCells.toArray).cells (l.length + 1 - i) ++ Builtin.zeroCells (Value.agg zeroCells.toArray).cells (C - (l.length + 1)) := ⟨_, rfl⟩
  have hrz : ∀ ty, (Builtin.append_ #[22, 3] ty #[.slice (some ⟨g, 0, none⟩) i cap, .int .i64 ((l.length : Int) + 1 - (i : Int))]).run Tryz.prog w =
      .ok (.slice (some ⟨w.heap.size, 0, none⟩) (l.length + 1) C) (w.drew.alloc (.cells ROW 24)) := fun ty => by
    have h := Lib.run_append_grow_zeros w 22 3 ty 24 i0 _ .i64 .i64 Tryz.underlying22 Tryz.underlying3 hi0 hz0 (some ⟨g, 0, none⟩) i cap (cellsL (l.take i)) hold (l.length + 1 - i) (by omega) (by omega) (by omega) (by omega) (by rw [hzb]; omega) (by rw [hzb, hik]; exact growslice_fits hroom (by omega))
    rw [hik] at h
    rw [hkk, hROW, hC]
    exact h
  have hRl : ROW.toList.length = C * 4 := by
    rw [hROW]
    have e4 : (Value.agg zeroCells.toArray).cells.size = 4 := rfl
    simp [Builtin.zeroCells, e4, hAl]
    omega
  have hRt : ROW.toList.take (cellsL (l.take i)).length = cellsL (l.take i) := by
    rw [hROW]
    simp
  obtain ⟨row, hrow⟩ : ∃ row : List Value, row = ROW.toList := ⟨_, rfl⟩
  obtain rfl : ROW = row.toArray := by rw [hrow]
  simp only at hRl hRt
  obtain ⟨W1, hW1⟩ : ∃ W1, W1 = w.drew.alloc (.cells row.toArray 24) := ⟨_, rfl⟩
  rw [← hW1] at hrz
  have hN : W1.heap[w.heap.size]? = some (.cells row.toArray 24 (0, 0)) := by rw [hW1]; exact heap_alloc_new w.drew _
  have hB1 : Below w.heap.size w W1 := by
    rw [hW1]
    have h : Below w.heap.size w w.drew := ⟨rfl, rfl, rfl, Nat.le_refl _, fun _ _ => rfl⟩
    exact h.alloc (Nat.le_refl _) _
  have hS := splice_forth row (cellsL (l.take i)) x.cells (cellsL (l.drop i)) hRt (by omega)
  rw [hAl, hDl, hx4] at hS
  have hsrc : ∀ j u, x.cells[j]? = some u → W1.cell? ((⟨G, 0, none⟩ : Addr).add j) = some u := by
    intro j u hu
    have h := hG
    rw [← hB1.block G hGlt] at h
    rw [Addr.add_mid, Nat.zero_add, cell_block h j]; simpa using hu
  obtain ⟨w2, hcp, hg2, hb2, ho2⟩ := run_copy_ex (P := Tryz.prog) 22 22 3 24 4 Tryz.underlying22 hsz w.heap.size (i * 4) (l.length + 1 - i) (C - i) ⟨G, 0, none⟩ 1 1 row 24 hN x.cells (by rw [hx4]; show _ = min _ _ * 4; omega) hsrc (by omega) (one_cells x) w.heap.size w hB1 (Nat.le_refl _)
  have hsl := length_splice row (i * 4) x.cells (by omega)
  obtain ⟨row1, hrow1⟩ : ∃ row1, splice row (i * 4) x.cells = row1 := ⟨_, rfl⟩
  rw [hrow1] at hg2 hsl
  rw [show i * 4 + 4 = (i + 1) * 4 by omega, hrow1] at hS
  have hg2' : w2.heap[g]? = some (.cells cur.toArray 24 (0, 0)) := by rw [hb2.block g hglt]; exact hg
  have HCL := Lib.hid (hcell)
  have HGG := Lib.hid hg2'
  have HB2 := Lib.hid hb2
  have HS := Lib.hid hS
  have hm : C ≤ 2 ^ 63 - 1 := hC63
  have hCi : ¬ C = i := by omega
  have hCi1 : ¬ C = i + 1 := by omega
  have hci : ¬ cap = i := by omega
  have hb1 : (i : Int) ≤ (l.length : Int) := by omega
  have hb2' : i ≤ l.length := by omega
  clear hkk hik hold hROW hC hrow hW1 hN hB1 hsrc ho2 hrow1 hRt hcell hg2' hg hG hi0 hz0 hzs hzb hb2 hS ht
  go_enter Tryz.func169, Tryz.ntmps169
  go_wp2_with (first
    | (at_builtin; refine Lib.wpList_append_run _ rfl _ _ _ _ rfl _ _ rfl rfl _ _ (hrz _) ?_)
    | simp only [hcp])
  clear hrz hcp
  refine wp_region_quiet_tailB 8 (by kernel_rfl) (by kernel_rfl) ?_
  simp only [List.take_succ_cons, List.take_zero, List.drop_succ_cons, List.drop_zero]
  iterate 8 (go_big_quiet_step (fail))
  refine wpQuiet_nil ?_
  intro m
  have hs2 := HB2.out.size
  have hlt2 := lt_block hg2.out
  have hgm := hg2.out
  rw [← m.below.block w.heap.size hlt2] at hgm
  have HBM : Below w.heap.size w m.wr := HB2.out.trans (m.below.mono hs2)
  have hggm : m.wr.heap[g]? = some (.cells cur.toArray 24 (0, 0)) := by rw [m.below.block g (by omega)]; exact HGG.out
  refine wpList_copy_wide rfl (.tmp 50) (.tmp 53) 22 22 rfl 24 4 Tryz.underlying22 hsz _ _ _ _ _ _ _ rfl rfl row1 24 hgm (cellsL (l.drop i)) ?_ ?_ ?_ (one_cellsL _) w.heap.size w HBM (Nat.le_refl _) ?_
  · rw [hDl]
    show _ = min _ _ * 4
    omega
  · intro j v hj
    rw [Addr.add_mid]
    refine HCL.out _ hggm _ v ?_
    rw [← drop_cellsL l i (by omega), List.getElem?_drop] at hj
    exact hj
  · rw [hDl]; omega
  intro w3 hg3 hb3 _
  have HB3 := Lib.hid hb3
  clear hb3 hgm HBM hggm HB2 HGG HCL hg2
  go_wp2_with fail
  go_ret
  exact ⟨_, rfl, own_put (by omega) (by omega) hCn hC63 HS.out (by rw [length_splice _ _ _ (by omega)]; omega) hg3.out, HB3.out.mono (by omega)⟩

set_option maxRecDepth 100000 in
/-- one value put into a row of values -/
theorem insert_any (w : World) (base : Nat) (v : Value) (l : List Val) (i : Nat) (hi : i ≤ l.length) (hl : l.length ≤ 1000) (hown : w.ownsRow base 24 4 v l.length (cellsL l)) (G : Nat) (x : Val) (hG : w.heap[G]? = some (.cells x.cells.toArray 24 (0, 0))) (hne : v.ownBlock ≠ some G) (hbase : base ≤ w.heap.size) :
    Calls Tryz.prog 169 #[v, .int .i64 i, .slice (some ⟨G, 0, none⟩) 1 1] w fun e w' => ∃ v', e = .returned v' ∧ w'.ownsRow base 24 4 v' (l.length + 1) (cellsL (l.take i ++ x :: l.drop i)) ∧ Below base w w' := by
  rcases Nat.lt_or_ge i l.length with h | h
  · rcases hown.2 with ⟨_, hn⟩ | ⟨g, cap, cur, rfl, hb, hg, hc, hm, hcs, ht⟩
    · omega
    · have hgne : G ≠ g := fun e => hne (by rw [e]; rfl)
      rcases Nat.lt_or_ge cap (l.length + 1) with hr | hr
      · exact insert_grow w base g cap l i h hl cur.toList hb (by simpa using hg) hr hc ht G x hG
      · exact insert_shift w base g cap l i h hl cur.toList hb (by simpa using hg) hr hm (by simpa using hcs) ht G x hG hgne
  · obtain rfl : i = l.length := by omega
    have h := insert_end w base v l hl hown G x hG hbase
    rwa [List.take_length, List.drop_length]
end Go.Proofs.YtllgodaphoncnaaGreatDoor
