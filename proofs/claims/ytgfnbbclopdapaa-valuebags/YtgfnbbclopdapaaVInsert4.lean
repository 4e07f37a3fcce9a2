/- slices.Insert of one value ahead of others, without room; and on any road. -/
import Derived.Test.YtgfnbbclopdapaaVInsert3
namespace Go.Proofs.Ytgfnbbclopdapaa
open Go.RowKit

set_option maxRecDepth 100000 in
set_option maxHeartbeats 2000000 in
theorem insert_grow (w : World) (base g cap : Nat) (l : List Val) (i : Nat) (hi : i < l.length) (hl : l.length ≤ 1000) (cur : List Value) (hb : base ≤ g) (hg : w.heap[g]? = some (.cells cur.toArray 24 (0, 0))) (hroom : cap < l.length + 1) (hnc : l.length ≤ cap) (ht : cur.take (l.length * 4) = cellsL l)
    (G : Nat) (x : Val) (hG : w.heap[G]? = some (.cells x.cells.toArray 24 (0, 0))) :
    Calls Try.prog 40 #[.slice (some ⟨g, 0, none⟩) l.length cap, .int .i64 i, .slice (some ⟨G, 0, none⟩) 1 1] w fun e w' => ∃ v', e = .returned v' ∧ w'.ownsRow base 24 4 v' (l.length + 1) (cellsL (l.take i ++ x :: l.drop i)) ∧ Below base w w' := by
  obtain ⟨i0, hi0, hz0, hzs, hzb⟩ := info_parts (show (Try.prog.info? 24).map (fun i => (i.zero, i.size, i.bytes)) = some (some (.agg zeroCells.toArray), 4, 56) by kernel_rfl)
  have hsz : (Try.prog.info? 24).map (·.size) = some 4 := by kernel_rfl
  have hglt := lt_block hg
  have hGlt := lt_block hG
  have hkk : (l.length : Int) + 1 - (i : Int) = ((l.length + 1 - i : Nat) : Int) := by omega
  have hik : i + (l.length + 1 - i) = l.length + 1 := by omega
  have hAl : (cellsL (l.take i)).length = i * 4 := by rw [length_cellsL, List.length_take, Nat.min_eq_left (by omega)]
  have hDl : (cellsL (l.drop i)).length = (l.length - i) * 4 := by rw [length_cellsL, List.length_drop]
  have hx4 : x.cells.length = 4 := rfl
  have hcell : ∀ W : World, W.heap[g]? = some (.cells cur.toArray 24 (0, 0)) → ∀ j v, (cellsL l)[j]? = some v → W.cell? ⟨g, j, none⟩ = some v := fun W hW j v hj => by
    rw [cell_block hW]
    rw [← ht, List.getElem?_take] at hj
    split at hj
    · simpa using hj
    · cases hj
  have hold : (Builtin.firstCells i0.size i (.slice (some ⟨g, 0, none⟩) i cap)).run Try.prog w.drew = .ok (cellsL (l.take i)).toArray w.drew := by
    rw [hzs]
    exact run_firstCells_some w.drew 4 i ⟨g, 0, none⟩ i cap (cellsL (l.take i)) (by rw [hAl]) (fun j v hj => by
      rw [Addr.add_mid, Nat.zero_add]
      rw [← take_cellsL l i (by omega), List.getElem?_take] at hj
      split at hj
      · exact hcell w hg j v hj
      · cases hj)
  obtain ⟨C, hC⟩ : ∃ C, C = grownCap w (l.length + 1) cap 24 := ⟨_, rfl⟩
  have hCn : l.length + 1 ≤ C := by rw [hC]; exact grownCap_ge w _ _ _
  have hC63 : C ≤ maxLen := by rw [hC]; exact grownCap_le_maxLen w (l.length + 1) cap 24 (by unfold maxLen; omega)
  obtain ⟨ROW, hROW⟩ : ∃ ROW : Array Value, ROW = (cellsL (l.take i)).toArray ++ Builtin.zeroCells (Value.agg zeroCells.toArray).cells (l.length + 1 - i) ++ Builtin.zeroCells (Value.agg zeroCells.toArray).cells (C - (l.length + 1)) := ⟨_, rfl⟩
  have hrz : ∀ ty, (Builtin.append_ #[22, 3] ty #[.slice (some ⟨g, 0, none⟩) i cap, .int .i64 ((l.length : Int) + 1 - (i : Int))]).run Try.prog w =
      .ok (.slice (some ⟨w.heap.size, 0, none⟩) (l.length + 1) C) (w.drew.alloc (.cells ROW 24)) := fun ty => by
    have h := Lib.run_append_grow_zeros w 22 3 ty 24 i0 _ .i64 .i64 Try.underlying22 Try.underlying3 hi0 hz0 (some ⟨g, 0, none⟩) i cap (cellsL (l.take i)) hold (l.length + 1 - i) (by omega) (by omega) (by omega) (by omega) (by rw [hzb]; omega) (by rw [hzb, hik]; exact growslice_fits hroom (by omega))
    rw [hik] at h
    rw [hkk, hROW, hC]
    exact h
  have hRl : ROW.toList.length = C * 4 := by
    rw [hROW]
    have e4 : (Value.agg zeroCells.toArray).cells.size = 4 := rfl
    simp [Builtin.zeroCells, e4, hAl]
    omega
  have hRt : ROW.toList.take (cellsL (l.take i)).length = cellsL (l.take i) := by
    rw [hROW]
    simp
  obtain ⟨row, hrow⟩ : ∃ row : List Value, row = ROW.toList := ⟨_, rfl⟩
  obtain rfl : ROW = row.toArray := by rw [hrow]
  simp only at hRl hRt
  obtain ⟨W1, hW1⟩ : ∃ W1, W1 = w.drew.alloc (.cells row.toArray 24) := ⟨_, rfl⟩
  rw [← hW1] at hrz
  have hN : W1.heap[w.heap.size]? = some (.cells row.toArray 24 (0, 0)) := by rw [hW1]; exact heap_alloc_new w.drew _
  have hB1 : Below w.heap.size w W1 := by
    rw [hW1]
    have h : Below w.heap.size w w.drew := ⟨rfl, rfl, rfl, Nat.le_refl _, fun _ _ => rfl⟩
    exact h.alloc (Nat.le_refl _) _
  have hS := splice_forth row (cellsL (l.take i)) x.cells (cellsL (l.drop i)) hRt (by omega)
  rw [hAl, hDl, hx4] at hS
  have hsrc : ∀ j u, x.cells[j]? = some u → W1.cell? ((⟨G, 0, none⟩ : Addr).add j) = some u := by
    intro j u hu
    have h := hG
    rw [← hB1.block G hGlt] at h
    rw [Addr.add_mid, Nat.zero_add, cell_block h j]; simpa using hu
  obtain ⟨w2, hcp, hg2, hb2, ho2⟩ := run_copy_ex (P := Try.prog) 22 22 3 24 4 Try.underlying22 hsz w.heap.size (i * 4) (l.length + 1 - i) (C - i) ⟨G, 0, none⟩ 1 1 row 24 hN x.cells (by rw [hx4]; show _ = min _ _ * 4; omega) hsrc (by omega) (one_cells x) w.heap.size w hB1 (Nat.le_refl _)
  have hsl := length_splice row (i * 4) x.cells (by omega)
  obtain ⟨row1, hrow1⟩ : ∃ row1, splice row (i * 4) x.cells = row1 := ⟨_, rfl⟩
  rw [hrow1] at hg2 hsl
  rw [show i * 4 + 4 = (i + 1) * 4 by omega, hrow1] at hS
  have hg2' : w2.heap[g]? = some (.cells cur.toArray 24 (0, 0)) := by rw [hb2.block g hglt]; exact hg
  have HCL := Lib.hid (hcell)
  have HGG := Lib.hid hg2'
  have HB2 := Lib.hid hb2
  have HS := Lib.hid hS
  have hm : C ≤ 2 ^ 63 - 1 := hC63
  have hCi : ¬ C = i := by omega
  have hCi1 : ¬ C = i + 1 := by omega
  have hci : ¬ cap = i := by omega
  have hb1 : (i : Int) ≤ (l.length : Int) := by omega
  have hb2' : i ≤ l.length := by omega
  clear hkk hik hold hROW hC hrow hW1 hN hB1 hsrc ho2 hrow1 hRt hcell hg2' hg hG hi0 hz0 hzs hzb hb2 hS ht
  go_enter Try.func40, Try.ntmps40
  go_wp2_with (first
    | (at_builtin; refine Lib.wpList_append_run _ rfl _ _ _ _ rfl _ _ rfl rfl _ _ (hrz _) ?_)
    | simp only [hcp])
  clear hrz hcp
  refine wp_region_quiet_tailB 8 (by kernel_rfl) (by kernel_rfl) ?_
  simp only [List.take_succ_cons, List.take_zero, List.drop_succ_cons, List.drop_zero]
  iterate 8 (go_big_quiet_step (fail))
  refine wpQuiet_nil ?_
  intro m
  have hs2 := HB2.out.size
  have hlt2 := lt_block hg2.out
  have hgm := hg2.out
  rw [← m.below.block w.heap.size hlt2] at hgm
  have HBM : Below w.heap.size w m.wr := HB2.out.trans (m.below.mono hs2)
  have hggm : m.wr.heap[g]? = some (.cells cur.toArray 24 (0, 0)) := by rw [m.below.block g (by omega)]; exact HGG.out
  refine wpList_copy_wide rfl (.tmp 50) (.tmp 53) 22 22 rfl 24 4 Try.underlying22 hsz _ _ _ _ _ _ _ rfl rfl row1 24 hgm (cellsL (l.drop i)) ?_ ?_ ?_ (one_cellsL _) w.heap.size w HBM (Nat.le_refl _) ?_
  · rw [hDl]
    show _ = min _ _ * 4
    omega
  · intro j v hj
    rw [Addr.add_mid]
    refine HCL.out _ hggm _ v ?_
    rw [← drop_cellsL l i (by omega), List.getElem?_drop] at hj
    exact hj
  · rw [hDl]; omega
  intro w3 hg3 hb3 _
  have HB3 := Lib.hid hb3
  clear hb3 hgm HBM hggm HB2 HGG HCL hg2
  go_wp2_with fail
  go_ret
  exact ⟨_, rfl, own_put (by omega) (by omega) hCn hC63 HS.out (by rw [length_splice _ _ _ (by omega)]; omega) hg3.out, HB3.out.mono (by omega)⟩

/-- one value put into a row of values -/
theorem insert_any (w : World) (base : Nat) (v : Value) (l : List Val) (i : Nat) (hi : i ≤ l.length) (hl : l.length ≤ 1000) (hown : w.ownsRow base 24 4 v l.length (cellsL l)) (G : Nat) (x : Val) (hG : w.heap[G]? = some (.cells x.cells.toArray 24 (0, 0))) (hne : v.ownBlock ≠ some G) (hbase : base ≤ w.heap.size) :
    Calls Try.prog 40 #[v, .int .i64 i, .slice (some ⟨G, 0, none⟩) 1 1] w fun e w' => ∃ v', e = .returned v' ∧ w'.ownsRow base 24 4 v' (l.length + 1) (cellsL (l.take i ++ x :: l.drop i)) ∧ Below base w w' := by
  rcases Nat.lt_or_ge i l.length with h | h
  · rcases hown.2 with ⟨_, hn⟩ | ⟨g, cap, cur, rfl, hb, hg, hc, hm, hcs, ht⟩
    · omega
    · have hgne : G ≠ g := fun e => hne (by rw [e]; rfl)
      rcases Nat.lt_or_ge cap (l.length + 1) with hr | hr
      · exact insert_grow w base g cap l i h hl cur.toList hb (by simpa using hg) hr hc ht G x hG
      · exact insert_shift w base g cap l i h hl cur.toList hb (by simpa using hg) hr hm (by simpa using hcs) ht G x hG hgne
  · obtain rfl : i = l.length := by omega
    have h := insert_end w base v l hl hown G x hG hbase
    rwa [List.take_length, List.drop_length]
end Go.Proofs.Ytgfnbbclopdapaa
