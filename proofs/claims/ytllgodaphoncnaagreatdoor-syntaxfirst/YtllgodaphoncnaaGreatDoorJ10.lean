/- slices.Insert of one value: behind the last; in room; without room; slices.Insert of one value ahead of others, in room. -/
import Derived.Test.YtllgodaphoncnaaGreatDoorJ09
namespace Go.Proofs.YtllgodaphoncnaaGreatDoor
open Go.RowKit

set_option maxRecDepth 100000 in
set_option maxHeartbeats 1000000 in
theorem insert_end (w : World) (base : Nat) (v : Value) (l : List Val) (hl : l.length ≤ 1000) (hown : w.ownsRow base 24 4 v l.length (cellsL l)) (G : Nat) (x : Val) (hG : w.heap[G]? = some (.cells x.cells.toArray 24 (0, 0))) (hbase : base ≤ w.heap.size) :
    Calls Tryz.prog 169 #[v, .int .i64 l.length, .slice (some ⟨G, 0, none⟩) 1 1] w fun e w' => ∃ v', e = .returned v' ∧ w'.ownsRow base 24 4 v' (l.length + 1) (cellsL (l ++ [x])) ∧ Below base w w' := by
  obtain ⟨i, hi, hz, hsz, hby⟩ := info_parts (show (Tryz.prog.info? 24).map (fun i => (i.zero, i.size, i.bytes)) = some (some (.agg zeroCells.toArray), 4, 56) by kernel_rfl)
  have hc4 : x.cells.length = 4 := rfl
  have hsrc : Hid (∀ W : World, W.heap[G]? = some (.cells x.cells.toArray 24 (0, 0)) → ∀ j u, x.cells[j]? = some u → W.cell? ((⟨G, 0, none⟩ : Addr).add j) = some u) := Lib.hid (by
    intro W hW j u hu
    rw [Addr.add_mid, Nat.zero_add, cell_block hW j]; simpa using hu)
  have H1 := Lib.hid (one_cells x)
  have HO := Lib.hid hown
  have HG := Lib.hid hG
  have HGl := Lib.hid (Below.refl base w)
  rcases hown.2 with ⟨rfl, hn⟩ | ⟨g, cap, cur, rfl, hb, hg, hc, hm, hcs, ht⟩
  · rw [hn] at HO ⊢
    clear hown hG
    go_enter Tryz.func169, Tryz.ntmps169
    go_wp2_with (at_builtin; refine wpList_append_own_wide _ rfl (.tmp 23) (.tmp 24) 22 rfl base 24 i _ 4 56 Tryz.underlying22 hi hz hsz hby rfl (by omega) _ 0 (cellsL l) rfl HO.out ⟨G, 0, none⟩ 1 1 x.cells rfl hc4 (hsrc.out _ HG.out) H1.out (by unfold maxLen; omega) (by omega) hbase ?_)
    intro v' w' hown' hgr _
    have HO' := Lib.hid hown'
    have HB' := Lib.hid ((Below.refl base w).grown hgr hbase (fun b hb => (HO.out.lt b hb).1))
    clear hown' hgr
    go_wp2_with fail
    go_ret
    exact ⟨v', rfl, by rw [cellsL_append, show cellsL [x] = x.cells by simp [cellsL]]; exact HO'.out, HB'.out⟩
  · clear hown hG
    unfold maxLen at hm
    go_enter Tryz.func169, Tryz.ntmps169
    go_wp2_with (at_builtin; refine wpList_append_own_wide _ rfl (.tmp 23) (.tmp 24) 22 rfl base 24 i _ 4 56 Tryz.underlying22 hi hz hsz hby rfl (by omega) _ l.length (cellsL l) rfl HO.out ⟨G, 0, none⟩ 1 1 x.cells rfl hc4 (hsrc.out _ HG.out) H1.out (by unfold maxLen; omega) (by omega) hbase ?_)
    all_goals
      intro v' w' hown' hgr _
      have HO' := Lib.hid hown'
      have HB' := Lib.hid ((Below.refl base w).grown hgr hbase (fun b hb => (HO.out.lt b hb).1))
      clear hown' hgr
      go_wp2_with fail
      go_ret
      exact ⟨v', rfl, by rw [cellsL_append, show cellsL [x] = x.cells by simp [cellsL]]; exact HO'.out, HB'.out⟩
end Go.Proofs.YtllgodaphoncnaaGreatDoor
namespace Go.Proofs.YtllgodaphoncnaaGreatDoor
open Go.RowKit

set_option maxRecDepth 100000 in
theorem splice_mid (A X Z xc : List Value) (h : X.length = xc.length) : splice (A ++ (X ++ Z)) A.length xc = A ++ (xc ++ Z) := by
  unfold splice
  rw [List.take_left' rfl, ← h, ← List.append_assoc A X Z, List.drop_left' (by simp)]
set_option maxRecDepth 100000 in
theorem three_parts (cur A : List Value) (p q : Nat) (hA : cur.take A.length = A) (hlen : A.length + p + q ≤ cur.length) :
    ∃ X Y, X.length = p ∧ Y.length = q ∧ cur = A ++ (X ++ (Y ++ cur.drop (A.length + p + q))) := by
  refine ⟨(cur.drop A.length).take p, (cur.drop (A.length + p)).take q, by simp; omega, by simp; omega, ?_⟩
  conv => lhs; rw [← List.take_append_drop A.length cur, hA]
  congr 1
  conv => lhs; rw [← List.take_append_drop p (cur.drop A.length)]
  congr 1
  rw [List.drop_drop]
  conv => lhs; rw [← List.take_append_drop q (cur.drop (A.length + p))]
  congr 1
  rw [List.drop_drop]
set_option maxRecDepth 100000 in
theorem splice_back (cur A xc D : List Value) (hA : cur.take A.length = A) (hlen : A.length + xc.length + D.length ≤ cur.length) :
    splice (splice cur (A.length + xc.length) D) A.length xc = A ++ (xc ++ (D ++ cur.drop (A.length + xc.length + D.length))) := by
  obtain ⟨X, Y, hX, hY, e⟩ := three_parts cur A xc.length D.length hA hlen
  generalize cur.drop (A.length + xc.length + D.length) = Z at *
  rw [e, ← List.append_assoc A X, show A.length + xc.length = (A ++ X).length by simp [hX], splice_mid (A ++ X) Y Z D hY, List.append_assoc, splice_mid A X _ xc hX]
set_option maxRecDepth 100000 in
theorem splice_forth (cur A xc D : List Value) (hA : cur.take A.length = A) (hlen : A.length + xc.length + D.length ≤ cur.length) :
    splice (splice cur A.length xc) (A.length + xc.length) D = A ++ (xc ++ (D ++ cur.drop (A.length + xc.length + D.length))) := by
  obtain ⟨X, Y, hX, hY, e⟩ := three_parts cur A xc.length D.length hA hlen
  generalize cur.drop (A.length + xc.length + D.length) = Z at *
  rw [e, splice_mid A X _ xc hX, ← List.append_assoc A xc, show A.length + xc.length = (A ++ xc).length by simp, splice_mid (A ++ xc) Y Z D hY, List.append_assoc]
set_option maxRecDepth 100000 in
/-- a row that holds values, one put in between -/
theorem own_put {w : World} {base g cap : Nat} {l : List Val} {x : Val} {i : Nat} {cur : List Value} {Z : List Value} (hi : i ≤ l.length) (hb : base ≤ g) (hcap : l.length + 1 ≤ cap) (hm : cap ≤ maxLen)
    (e : cur = cellsL (l.take i) ++ (x.cells ++ (cellsL (l.drop i) ++ Z))) (hz : cur.length = cap * 4) (hg : w.heap[g]? = some (.cells cur.toArray 24 (0, 0))) :
    w.ownsRow base 24 4 (.slice (some ⟨g, 0, none⟩) (l.length + 1) cap) (l.length + 1) (cellsL (l.take i ++ x :: l.drop i)) := by
  have ee : cellsL (l.take i ++ x :: l.drop i) = cellsL (l.take i) ++ (x.cells ++ cellsL (l.drop i)) := by rw [cellsL_append]; simp [cellsL]
  refine ⟨by rw [length_cellsL]; simp; omega, .inr ⟨g, cap, cur.toArray, rfl, hb, hg, hcap, hm, by simpa using hz, ?_⟩⟩
  rw [ee, e]
  show List.take _ (cellsL (l.take i) ++ (x.cells ++ (cellsL (l.drop i) ++ Z))) = _
  rw [← List.append_assoc x.cells, ← List.append_assoc]
  refine List.take_left' ?_
  simp only [List.length_append, length_cellsL, List.length_take, List.length_drop, show x.cells.length = 4 from rfl]
  omega

set_option maxRecDepth 100000 in
set_option maxHeartbeats 2000000 in
theorem insert_shift (w : World) (base g cap : Nat) (l : List Val) (i : Nat) (hi : i < l.length) (hl : l.length ≤ 1000) (cur : List Value) (hb : base ≤ g) (hg : w.heap[g]? = some (.cells cur.toArray 24 (0, 0))) (hroom : l.length + 1 ≤ cap) (hm : cap ≤ maxLen) (hcs : cur.length = cap * 4) (ht : cur.take (l.length * 4) = cellsL l)
    (G : Nat) (x : Val) (hG : w.heap[G]? = some (.cells x.cells.toArray 24 (0, 0))) (hne : G ≠ g) :
    Calls Tryz.prog 169 #[.slice (some ⟨g, 0, none⟩) l.length cap, .int .i64 i, .slice (some ⟨G, 0, none⟩) 1 1] w fun e w' => ∃ v', e = .returned v' ∧ w'.ownsRow base 24 4 v' (l.length + 1) (cellsL (l.take i ++ x :: l.drop i)) ∧ Below base w w' := by
  have hsz : (Tryz.prog.info? 24).map (·.size) = some 4 := by kernel_rfl
  have hszo : ∀ w, (Go.sizeOf 24).run Tryz.prog w = .ok 4 w := fun _ => by kernel_rfl
  have hov : ∀ ob lb cb, (callFunc 179 #[.slice (some ⟨G, 0, none⟩) 1 1, .slice (some ⟨g, ob, none⟩) lb cb]).run Tryz.prog w = .ok (.value (.bool false)) w := fun ob lb cb => by
    rw [run_callFunc_extern Tryz.func179 (by kernel_rfl) (by kernel_rfl) (by kernel_rfl) (e := Extern.SlicesOverlaps.overlaps #[22, 22] #[4]) (by kernel_rfl),
      Lib.run_overlaps_apart w 22 4 24 Tryz.underlying22 4 hszo ⟨G, 0, none⟩ ⟨g, ob, none⟩ 1 1 lb cb hne 24 24 4 cur.length (by simp [World.shape?, hG, Val.cells]) (by simp [World.shape?, hg]) (by omega) (by simp [World.frozen?, hG]) (by simp [World.frozen?, hG])]
    rfl
  unfold maxLen at hm
  have HG := Lib.hid hG
  have HG2 := Lib.hid hg
  clear hG hg
  go_enter Tryz.func169, Tryz.ntmps169
  go_wp2_with (simp only [hov])
  clear hov hszo
  have hA : cur.take (cellsL (l.take i)).length = cellsL (l.take i) := by
    rw [← take_cellsL l i (by omega), ← ht, List.take_take, List.length_take]
    congr 1
    have := length_cellsL l
    rw [← ht, List.length_take] at this
    omega
  have hAl : (cellsL (l.take i)).length = i * 4 := by rw [length_cellsL, List.length_take, Nat.min_eq_left (by omega)]
  have hDl : (cellsL (l.drop i)).length = (l.length - i) * 4 := by rw [length_cellsL, List.length_drop]
  have hx4 : x.cells.length = 4 := rfl
  have hS := splice_back cur (cellsL (l.take i)) x.cells (cellsL (l.drop i)) hA (by omega)
  rw [hAl, hDl, hx4] at hS
  have hsl := length_splice cur ((i + 1) * 4) (cellsL (l.drop i)) (by omega)
  refine wp_region_quiet_tailB 8 (by kernel_rfl) (by kernel_rfl) ?_
  simp only [List.take_succ_cons, List.take_zero, List.drop_succ_cons, List.drop_zero]
  iterate 8 (go_big_quiet_step (fail))
  refine wpQuiet_nil ?_
  intro m
  have hgm := HG2.out
  rw [← m.below.block g (lt_block hgm)] at hgm
  have HGM := Lib.hid hgm
  clear hgm
  have hbase : base ≤ w.heap.size := Nat.le_trans hb (Nat.le_of_lt (lt_block HG2.out))
  have hGlt := lt_block HG.out
  refine wpList_copy_wide rfl (.tmp 73) (.tmp 76) 22 22 rfl 24 4 Tryz.underlying22 hsz _ _ _ _ _ _ _ rfl rfl cur 24 HGM.out (cellsL (l.drop i)) ?_ ?_ ?_ (one_cellsL _) g w (m.below.mono (Nat.le_of_lt (lt_block HG2.out))) (Nat.le_refl _) ?_
  · rw [hDl]
    show _ = min _ _ * 4
    omega
  · intro j v hj
    rw [Addr.add_mid, cell_block HGM.out]
    rw [← drop_cellsL l i (by omega), ← ht, List.getElem?_drop, List.getElem?_take] at hj
    split at hj
    · simpa using hj
    · cases hj
  · rw [hDl]; omega
  intro w2 hg2 hb2 ho2
  obtain ⟨cur1, hcur1⟩ : ∃ cur1, splice cur ((i + 1) * 4) (cellsL (l.drop i)) = cur1 := ⟨_, rfl⟩
  rw [hcur1] at hg2 hsl
  rw [show i * 4 + 4 = (i + 1) * 4 by omega, hcur1] at hS
  have hG2 : w2.heap[G]? = some (.cells x.cells.toArray 24 (0, 0)) := by
    rw [ho2.out G hne, m.below.block G hGlt]; exact HG.out
  have HGx := Lib.hid hG2
  have HB2 := Lib.hid hb2
  have HS := Lib.hid hS
  clear hA hAl hDl hcur1 HGM hb2 hS hG2 ht
  have hci : ¬ cap = i := by omega
  have hsrc : Hid (∀ j u, x.cells[j]? = some u → w2.cell? ((⟨G, 0, none⟩ : Addr).add j) = some u) := Lib.hid (by
    intro j u hu
    rw [Addr.add_mid, Nat.zero_add, cell_block HGx.out j]; simpa using hu)
  obtain ⟨w3, hcp, hg3, hb3, _⟩ := run_copy_ex (P := Tryz.prog) 22 22 3 24 4 Tryz.underlying22 hsz g (i * 4) (l.length + 1 - i) (cap - i) ⟨G, 0, none⟩ 1 1 cur1 24 hg2.out x.cells (by rw [hx4]; show _ = min _ _ * 4; omega) hsrc.out (by omega) (one_cells x) g w HB2.out (Nat.le_refl _)
  have HB3 := Lib.hid hb3
  clear hb3 hsrc HB2 hg2 HGx
  go_wp2_with (simp only [hcp])
  go_ret
  exact ⟨_, rfl, own_put (by omega) hb hroom hm HS.out (by rw [length_splice _ _ _ (by omega)]; omega) hg3.out, HB3.out.mono hb⟩
end Go.Proofs.YtllgodaphoncnaaGreatDoor
