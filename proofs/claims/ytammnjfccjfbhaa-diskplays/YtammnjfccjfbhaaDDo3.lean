/- The document's flush. -/
import Derived.Test.YtammnjfccjfbhaaDDo2
namespace Go.Proofs.Ytammnjfccjfbhaa
open Go.RowKit

theorem set_flat {k : Nat} {R : List (List Value)} (h : Wide k R) (i j : Nat) (hi : i < R.length) (hj : j < k) (x : Value) : R.flatten.set (i * k + j) x = (R.set i ((R[i]).set j x)).flatten := by
  have hl : (R.take i).flatten.length = i * k := by rw [length_flat (h.take i), List.length_take, Nat.min_eq_left (by omega)]
  have hri : (R[i]).length = k := h _ (List.getElem_mem hi)
  have e : R.flatten = (R.take i).flatten ++ (R[i] ++ (R.drop (i + 1)).flatten) := by
    rw [← List.flatten_cons, ← List.flatten_append, ← List.drop_eq_getElem_cons hi, List.take_append_drop]
  rw [e, List.set_append_right _ _ (by omega), hl, Nat.add_sub_cancel_left, List.set_append_left _ _ (by omega)]
  generalize (R[i]).set j x = y
  rw [List.set_eq_take_append_cons_drop, if_pos hi]
  simp
theorem own_set {w : World} {N k n g cap : Nat} {t : TypeId} {C : List Value} (h : w.ownsRow N t k (.slice (some ⟨g, 0, none⟩) n cap) n C) (j : Nat) (hj : j < C.length) (x : Value) :
    (w.setCell ⟨g, j, none⟩ x).ownsRow N t k (.slice (some ⟨g, 0, none⟩) n cap) n (C.set j x) := by
  obtain ⟨h1, h2⟩ := h
  refine ⟨by rw [List.length_set]; exact h1, ?_⟩
  rcases h2 with ⟨h2, _⟩ | ⟨g', cap', cur, e, hb, hg, hc, hm, hsz, ht⟩
  · cases h2
  · injection e with e1 e2 e3
    injection e1 with e1
    injection e1 with e1
    subst e1 e3
    refine .inr ⟨g, cap, cur.setIfInBounds j x, rfl, hb, heap_setCell_same w g j cur t x hg, hc, hm, by simpa using hsz, ?_⟩
    rw [← ht]
    apply List.ext_getElem?
    intro i
    simp only [Array.toList_setIfInBounds, List.getElem?_take, List.getElem?_set, List.length_take]
    have hlen : C.length ≤ n * k := by omega
    have hcs : C.length ≤ cur.toList.length := by rw [← ht, List.length_take]; omega
    grind
/-- so far marked -/
def markK (L : List RWr) (k : Nat) : List RWr := (L.take k).map RWr.mark ++ L.drop k
theorem length_markK (L : List RWr) (k : Nat) : (markK L k).length = L.length := by simp [markK]; omega
theorem markK_succ (L : List RWr) (k : Nat) (h : k < L.length) : (markK L k).set k (L[k]).mark = markK L (k + 1) := by
  unfold markK
  rw [List.set_append_right _ _ (by simp; omega), List.take_succ_eq_append_getElem h, List.map_append, List.append_assoc]
  congr 1
  rw [List.length_map, List.length_take, Nat.min_eq_left (by omega), Nat.sub_self, List.drop_eq_getElem_cons h]
  rfl
theorem markK_get (L : List RWr) (k : Nat) (h : k < L.length) : (markK L k)[k]'(by rw [length_markK]; exact h) = L[k] := by
  unfold markK
  rw [List.getElem_append_right (by simp; omega)]
  simp [Nat.min_eq_left (Nat.le_of_lt h)]
theorem mark_cells (L : List RWr) (k : Nat) (h : k < L.length) (M : List RWr) (hM : M.length = L.length) (hk : M[k]'(by omega) = L[k]) : (cellsR M).set (k * 3 + 2) (.bool true) = cellsR (M.set k (L[k]).mark) := by
  unfold cellsR
  rw [set_flat (wide_R M) k 2 (by simp; omega) (by omega), List.map_set]
  congr 2
  rw [List.getElem_map, hk]
  rfl
set_option maxRecDepth 100000 in
set_option maxHeartbeats 4000000 in
theorem do_flush (w : World) (N d : Nat) (v : Value) (t : RSt) (h : RAt w N d v t) (x : OpR) (hq : x.k.toNat % 5 = 2) (hf : t.fuse ≠ 0) (hL : t.L.length ≤ 100000) :
    Calls Try.prog 17 #[.pointer (some ⟨d, 0, none⟩), x.val] w fun e w' => e = .returned (.tuple #[noS, .int .i64 0]) ∧ ∃ v', Did w N d v ⟨t.n, t.L.map RWr.mark, t.fuse⟩ v' w' := by
  obtain ⟨c0, c1, c2⟩ := h.cell
  have hd := lt_block h.blk
  have hk := x.k.toNat_lt
  have f1 := h.frozen 1
  have f2 := h.frozen 2
  obtain ⟨ad, cp, rfl⟩ := h.slice
  unfold OpR.val
  try unfold noS
  obtain ⟨W, hW⟩ : ∃ W, w.alloc (.cells #[.int .u8 (x.k.toNat : Int), .int .i64 x.i, .int .i64 x.n, .slice x.ba x.l.length x.bc, .slice x.pa x.bs.length x.pc] 33) = W := ⟨_, rfl⟩
  have hB : Below w.heap.size w W := by rw [← hW]; exact (Below.refl _ _).alloc (Nat.le_refl _) _
  have hO : W.heap[w.heap.size]? = some (.cells #[.int .u8 (x.k.toNat : Int), .int .i64 x.i, .int .i64 x.n, .slice x.ba x.l.length x.bc, .slice x.pa x.bs.length x.pc] 33 (0, 0)) := by rw [← hW]; exact heap_alloc_new _ _
  have HR := Lib.hid (h.below hB)
  have H := Lib.hid h
  have HB := Lib.hid hB
  have HO := Lib.hid hO
  clear h c0 c1 c2 f1 f2
  obtain ⟨c0, c1, c2⟩ := HR.out.cell
  have f1 := HR.out.frozen 1
  have f2 := HR.out.frozen 2
  have o0 : W.cell? ⟨w.heap.size, 0, none⟩ = some (.int .u8 (x.k.toNat : Int)) := cell_block hO 0
  have o1 : W.cell? ⟨w.heap.size, 1, none⟩ = some (.int .i64 x.i) := cell_block hO 1
  have o2 : W.cell? ⟨w.heap.size, 2, none⟩ = some (.int .i64 x.n) := cell_block hO 2
  have o3 : W.cell? ⟨w.heap.size, 3, none⟩ = some (.slice x.ba x.l.length x.bc) := cell_block hO 3
  have o4 : W.cell? ⟨w.heap.size, 4, none⟩ = some (.slice x.pa x.bs.length x.pc) := cell_block hO 4
  have ldW : d < W.heap.size := lt_block HR.out.blk
  have loW : w.heap.size < W.heap.size := lt_block hO
  clear hB hO
  have hqi : (x.k.toNat : Int) % 5 = 2 := by omega
  clear hq
  have d3 : (t.fuse == 0) = false := by simpa using hf
  have d3' : (t.fuse != 0) = true := by simpa using hf
  clear hf
  have R0 : Hid (∀ W2, Below W.heap.size W W2 → RAt W2 N d (.slice ad t.L.length cp) ⟨t.n, markK t.L 0, t.fuse⟩ ∧ KeptF (footR d (.slice ad t.L.length cp)) W W2) := Lib.hid fun W2 hb => ⟨by simpa [markK] using HR.out.below hb, .of_below hb⟩
  go_enter Try.func17, Try.ntmps17
  go_wp2_with fail
  go_quiet (fail)
  go_wp2_with fail
  clear c0 c1 c2 f1 f2 o0 o1 o2 o3 o4
  go_loopw [7] (fun i wr => ∃ k : Nat, k ≤ t.L.length ∧ i = .int .i64 k ∧ RAt wr N d (.slice ad t.L.length cp) ⟨t.n, markK t.L k, t.fuse⟩ ∧ KeptF (footR d (.slice ad t.L.length cp)) W wr) (fun i _ => t.L.length - (intOf i).toNat)
  case atStart => exact ⟨0, by omega, rfl, (R0.out _ (below_drewN (Below.refl _ _) _)).1, (R0.out _ (below_drewN (Below.refl _ _) _)).2⟩
  case round =>
    obtain ⟨k, hk, rfl, hR, hK⟩ := hrel
    obtain ⟨-, c1, -⟩ := hR.cell
    by_cases hlt : k < t.L.length
    · have hd1 : decide ((k : Int) < (t.L.length : Int)) = true := by simp; omega
      have hd2 : decide (k < t.L.length) = true := by simp; omega
      have hml := length_markK t.L k
      obtain ⟨g, hg, he⟩ : ∃ g, ad = some ⟨g, 0, none⟩ ∧ wr.ownsRow N 71 3 (.slice (some ⟨g, 0, none⟩) t.L.length cp) t.L.length (cellsR (markK t.L k)) := by
        have hrow := hR.row
        dsimp only at hrow
        rw [hml] at hrow
        rcases hrow.2 with ⟨_, hn⟩ | ⟨g, cap, cur, e, _⟩
        · omega
        · injection e with e1 e2 e3
          subst e1
          exact ⟨g, rfl, hrow⟩
      subst hg
      have hidx : k * 3 + 2 < (cellsR (markK t.L k)).length := by rw [length_cellsR, hml]; omega
      have hx : wr.cell? ⟨g, k * 3 + 2, none⟩ = some ((cellsR (markK t.L k))[k * 3 + 2]) := by rw [he.cellAt _ (by omega), List.getElem?_eq_getElem hidx]
      generalize (cellsR (markK t.L k))[k * 3 + 2] = old at hx
      have hfr : wr.frozen? ⟨g, k * 3 + 2, none⟩ = false := by
        rcases he.2 with ⟨h2, _⟩ | ⟨g', cap', cur, e, _, hgb, _⟩
        · cases h2
        · injection e with e1
          injection e1 with e1
          injection e1 with e1
          subst e1
          exact frozen_of_row wr g _ _ _ hgb
      have he2 := own_set he (k * 3 + 2) hidx (.bool true)
      rw [mark_cells t.L k hlt _ hml (markK_get t.L k hlt), markK_succ t.L k hlt] at he2
      have hgd : g ≠ d := fun e => hR.nd (by rw [← e]; rfl)
      have k1 : Kept1 g wr (wr.setCell ⟨g, k * 3 + 2, none⟩ (.bool true)) := (Kept1.refl g wr).setCell ⟨g, k * 3 + 2, none⟩ (.inl rfl) _
      have R1 : Hid (RAt (wr.setCell ⟨g, k * 3 + 2, none⟩ (.bool true)) N d (.slice (some ⟨g, 0, none⟩) t.L.length cp) ⟨t.n, markK t.L (k + 1), t.fuse⟩ ∧ KeptF (footR d (.slice (some ⟨g, 0, none⟩) t.L.length cp)) W (wr.setCell ⟨g, k * 3 + 2, none⟩ (.bool true))) :=
        Lib.hid ⟨⟨(k1.block d (lt_block hR.blk) (Ne.symm hgd)).trans hR.blk, by dsimp only; rw [length_markK]; exact he2, hR.nd, hR.dN⟩, hK.trans (KeptF.of_kept1 (F := footR d (.slice (some ⟨g, 0, none⟩) t.L.length cp)) k1 fun _ => .inr rfl) fun _ _ h => h⟩
      clear hR hK he he2 k1 hml hidx R0 HR H
      go_wp2_with fail
      go_roundw
      case rel => exact ⟨k + 1, by omega, by go_num, R1.out.1, R1.out.2⟩
      case measure => simp [intOf]; omega
    · obtain rfl : k = t.L.length := by omega
      have hd1 : decide ((t.L.length : Int) < (t.L.length : Int)) = false := by simp
      have e : markK t.L t.L.length = t.L.map RWr.mark := by simp [markK]
      rw [e] at hR
      have R1 := Lib.hid hR
      have K1 := Lib.hid ((KeptF.of_below (F := footR d (.slice ad t.L.length cp)) HB.out).trans hK fun _ _ h => h)
      clear hR hK e R0
      go_wp2_with fail
      go_ret2
      exact ⟨rfl, _, ⟨R1.out, K1.out, fun _ h => .inl h⟩⟩
end Go.Proofs.Ytammnjfccjfbhaa
