/- Read; The head behind a record; The head behind a list. -/
import Derived.Test.YtlhfdlfbnnfjjaaDoorJ22
import Derived.Test.YtlhfdlfbnnfjjaaDoorJ06
import Derived.Deep.WholeRow
import Derived.Test.YtlhfdlfbnnfjjaaDoorJ20
namespace Go.Proofs.YtlhfdlfbnnfjjaaDoor
open Go.RowKit

/-- 64 noughts -/
def z64 : List UInt8 := List.replicate 64 0
set_option maxRecDepth 100000 in
theorem length_z64 : z64.length = 64 := rfl
set_option maxRecDepth 100000 in
theorem zero_sec : ∀ w, (zeroValue 86).run Tryd.prog w = .ok (.agg (z64.map B).toArray) w := fun _ => by kernel_rfl
set_option maxRecDepth 100000 in
theorem info_sec (n : Nat) (h : n = 64) : (Tryd.prog.info? 86).map (·.size) = some n := by subst h; kernel_rfl
set_option maxRecDepth 100000 in
theorem range_row {w : World} {g : Nat} {t : TypeId} {fr : Nat × Nat} {R : List (List Value)} {k : Nat} (h : w.heap[g]? = some (.cells R.flatten.toArray t fr)) (hw : Wide k R) (i : Nat) (hi : i < R.length) : w.rangeAt g (i * k) R[i] := fun j v hv => by
  have hj : j < k := by have := (List.getElem?_eq_some_iff.1 hv).1; rwa [hw _ (List.getElem_mem hi)] at this
  rw [cell_block h, List.getElem?_toArray, get_flat hw i hi j hj, hv]
set_option maxRecDepth 100000 in
theorem range_block0 {w : World} {g : Nat} {t : TypeId} {fr : Nat × Nat} {L : List Value} (h : w.heap[g]? = some (.cells L.toArray t fr)) : w.rangeAt g 0 L := fun j v hv => by
  rw [cell_block h, Nat.zero_add, List.getElem?_toArray, hv]
set_option maxRecDepth 100000 in
theorem there_blk {w : World} {g : Nat} {t : TypeId} {L : List Value} (h : w.heap[g]? = some (.cells L.toArray t (0, 0))) (o n : Nat) (hl : o + n ≤ L.length) : w.there g o n := fun j hj =>
  ⟨by rw [cell_block h]; simp; omega, frozen_of_row w g _ _ _ h⟩
set_option maxRecDepth 100000 in
/-- a sector's cells -/
theorem DAt.range {w : World} {N d gs : Nat} {v : Value} {s : DSt} (h : DAt w N d gs v s) (i : Nat) (hi : i < s.S.length) : w.rangeAt gs (i * 64) (s.S[i].map B) := by
  have := range_row h.sec (wide_secs h.ok.len) i (by simpa using hi)
  simpa using this

set_option maxRecDepth 100000 in
theorem read_gone (w : World) (N d gs : Nat) (v : Value) (s : DSt) (h : DAt w N d gs v s) (hg : s.gone = true) (i : Int) :
    Calls Tryd.prog 29 #[.pointer (some ⟨d, 0, none⟩), .int .i64 i] w fun e w' => e = .returned (.tuple #[.slice none 0 0, .int .i64 5]) ∧ w = w' := by
  obtain ⟨c0, c1, c2, c3⟩ := h.cell
  rw [hg] at c3
  clear h c0 c1 c2 hg
  go_enter Tryd.func29, Tryd.ntmps29
  go_wp2_with fail
  go_ret2
  exact ⟨rfl, rfl⟩
set_option maxRecDepth 100000 in
theorem read_arg (w : World) (N d gs : Nat) (v : Value) (s : DSt) (h : DAt w N d gs v s) (hg : s.gone = false) (i : Int) (hi : ¬ (0 ≤ i ∧ i < s.S.length)) :
    Calls Tryd.prog 29 #[.pointer (some ⟨d, 0, none⟩), .int .i64 i] w fun e w' => e = .returned (.tuple #[.slice none 0 0, .int .i64 1]) ∧ w = w' := by
  obtain ⟨c0, c1, c2, c3⟩ := h.cell
  rw [hg] at c3
  have H := Lib.hid h
  have Hi := Lib.hid hi
  clear h c0 c1 c2 hg hi
  go_enter Tryd.func29, Tryd.ntmps29
  go_wp2_with fail
  refine (has_no w N d gs v s H.out i Hi.out).mono ?_
  rintro e w' ⟨rfl, rfl⟩
  go_wp2_with fail
  go_ret2
  exact ⟨rfl, rfl⟩
set_option maxRecDepth 100000 in
theorem dread_any (w : World) (N d gs : Nat) (v : Value) (s : DSt) (h : DAt w N d gs v s) (hg : s.gone = false) (i : Nat) (hi : i < s.S.length) (b : List UInt8) (hb : s.S[i]? = some b) :
    Calls Tryd.prog 29 #[.pointer (some ⟨d, 0, none⟩), .int .i64 (i : Int)] w fun e w' => e = .returned (.tuple #[.slice (some ⟨w.heap.size, 0, none⟩) 64 64, .int .i64 0]) ∧ Below w.heap.size w w' ∧
      w'.heap[w.heap.size]? = some (.cells (b.map B).toArray 86 (0, 0)) ∧ w'.heap.size = w.heap.size + 1 := by
  obtain ⟨c0, c1, c2, c3⟩ := h.cell
  rw [hg] at c3
  have hr := h.range i hi
  have hbi : s.S[i] = b := by rw [List.getElem?_eq_getElem hi] at hb; exact Option.some.inj hb
  have hlb : (b.map B).length = 64 := by rw [List.length_map, ← hbi]; exact h.ok.len _ (List.getElem_mem hi)
  rw [hbi] at hr
  have hone := done_bytes b
  generalize b.map B = L at *
  have H := Lib.hid h
  have hlim := h.ok.lim
  have hz := zero_sec
  have hzl : (z64.map B).length = 64 := rfl
  generalize z64.map B = Z at *
  have Hr := Lib.hid hr
  have Hl := Lib.hid hlb
  have Hz := Lib.hid hzl
  have d2 : decide ((i : Int) < (s.S.length : Int)) = true := by simp; omega
  clear h c1 c2 hg hr hb hbi hlb hzl
  go_enter Tryd.func29, Tryd.ntmps29
  go_wp2_with fail
  refine (has_yes w N d gs v s H.out i hi).mono ?_
  rintro e w' ⟨rfl, rfl⟩
  go_wp2_with (first
    | (refine wpList_load_mid rfl 86 (.tmp 20) rfl gs (i * 64) rfl L _ Hr.out Tryd.underlying86 rfl (info_sec _ Hl.out) ?_)
    | (refine wpList_store_row rfl 86 (.tmp 6) (.tmp 21) rfl w.heap.size L.toArray rfl rfl 86 Z.toArray (heap_alloc_new _ _) (info_sec _ (by simp [Hl.out])) (by simp [Hl.out, Hz.out]) (all_oneCell_toArray hone) ?_))
  go_ret2
  have s1 := set1_setRow (w := w.alloc (.cells Z.toArray 86)) (G := w.heap.size) (cells := L.toArray) (heap_alloc_new _ _)
  exact ⟨rfl, s1.below ((Below.refl _ _).alloc (Nat.le_refl _) _) (Nat.le_refl _), s1.new, by rw [s1.size]; simp⟩
end Go.Proofs.YtlhfdlfbnnfjjaaDoor
namespace Go.Proofs.YtlhfdlfbnnfjjaaDoor
open Go.RowKit

set_option maxRecDepth 100000 in
theorem H_lnk (P l : List UInt8) : H (P ++ (len4 l.length ++ l)) = .agg ((lnk P l).map B).toArray := rfl
set_option maxRecDepth 100000 in
theorem range_hash {w : World} {g : Nat} {P : List UInt8} {n : Int} {t : TypeId} {fr : Nat × Nat} (h : w.heap[g]? = some (.cells (HC P n).toArray t fr)) : w.rangeAt g 0 (P.map B) := fun j v hv => by
  rw [Nat.zero_add, cell_block h, List.getElem?_toArray, HC, List.getElem?_append_left (List.getElem?_eq_some_iff.1 hv).1]
  exact hv
set_option maxRecDepth 100000 in
theorem cell_count {w : World} {g : Nat} {P : List UInt8} (hP : P.length = 32) {n : Int} {t : TypeId} {fr : Nat × Nat} (h : w.heap[g]? = some (.cells (HC P n).toArray t fr)) : w.cell? ⟨g, 32, none⟩ = some (.int .i64 n) := by
  rw [cell_block h, List.getElem?_toArray, HC, List.getElem?_append_right (by simp [hP])]
  simp [hP]

set_option maxRecDepth 100000 in
set_option maxHeartbeats 1000000 in
theorem next_any (w : World) (P : List UInt8) (hP : P.length = 32) (n : Int) (hn : -9223372036854775808 ≤ n ∧ n ≤ 4611686018427387904) (p : Part) (hp : p.In w) (ht : Tab w) (hl : p.l.length ≤ 5000) :
    Calls Tryd.prog 37 #[HV P n, p.val] w fun e w' => e = .returned (HV (lnk P p.l) (n + 1)) ∧ Below w.heap.size w w' := by
  have h0 := ht.size
  have hL33 := length_HC P hP n
  have hone := one_HC P n
  have hz : ∀ w, (zeroValue 42).run Tryd.prog w = .ok (.agg (HC z32 0).toArray) w := fun _ => by kernel_rfl
  have HLk : Hid (∀ W, Below w.heap.size w W → Calls Tryd.prog 52 #[.agg (P.map B).toArray, .slice p.ad p.l.length p.cap] W fun e w' => e = .returned (.agg ((lnk P p.l).map B).toArray) ∧ Below W.heap.size W w') := Lib.hid (by
    intro W hW; exact link_any W P hP p (hp.below hW) (ht.below hW h0) hl)
  have hgP : ∀ (W : World) (g : Nat) (fr : Nat × Nat), W.heap[g]? = some (.cells (HC P n).toArray 42 fr) → W.rangeAt g 0 (P.map B) ∧ W.cell? ⟨g, 32, none⟩ = some (.int .i64 n) := fun W g fr h => ⟨range_hash h, cell_count hP h⟩
  have hbu := builtHead (lnk P p.l) (length_lnk _ _) (n + 1)
  have hLP : (P.map B).length = 32 := by simp [hP]
  unfold Part.val
  clear hp ht
  unfold HV
  have hZ33 : (HC z32 0).length = 33 := rfl
  generalize HC z32 0 = Z at *
  generalize HC P n = L at *
  generalize P.map B = PL at *
  generalize hD : HC (lnk P p.l) (n + 1) = D at *
  have hD33 : D.length = 33 := by rw [← hD]; exact length_HC _ (length_lnk _ _) _
  have hDone : ∀ v ∈ D, v.oneCell' = true := by rw [← hD]; exact one_HC _ _
  generalize ((lnk P p.l).map B).toArray = X at *
  clear hD
  have HBU := Lib.hid hbu
  clear hbu
  go_enter Tryd.func37, Tryd.ntmps37
  go_wp2_with fail
  generalize hW : World.alloc _ _ = W0 at *
  have hb0 : Below w.heap.size w W0 := by rw [← hW]; exact ((Below.refl _ _).alloc (Nat.le_refl _) _).alloc (by simp) _
  have gP : W0.heap[w.heap.size]? = some (.cells L.toArray 42 (0, 0)) := by rw [← hW, Below.heap_alloc _ _ _ (by simp)]; exact heap_alloc_new _ _
  have gR : W0.heap[w.heap.size + 1]? = some (.cells Z.toArray 42 (0, 0)) := by rw [← hW]; exact heap_alloc2_new _ _ _
  clear hW
  have HB0 := Lib.hid hb0
  have GP := Lib.hid gP
  have GR := Lib.hid gR
  have HG := Lib.hid hgP
  have hlt0 := lt_block gP
  have hcc : ∀ W : World, Below W0.heap.size W0 W → W.cell? ⟨w.heap.size, 32, none⟩ = some (.int .i64 n) := fun W hW => (hgP W _ _ ((hW.block _ (lt_block gP)).trans gP)).2
  clear hb0 gP gR hgP
  refine wp_region_quiet_tailB 7 (by kernel_rfl) (by kernel_rfl) ?_
  simp only [List.take_succ_cons, List.take_zero, List.drop_succ_cons, List.drop_zero]
  go_big_quiet_step (fail)
  refine wpQuiet_load_mid rfl 40 (.tmp 5) rfl w.heap.size 0 rfl PL _ (fun w' ⟨m, hw'⟩ => hw' ▸ (HG.out _ _ _ ((m.below.block _ (lt_block GP.out)).trans GP.out)).1) Tryd.underlying40 rfl (infoHash _ hLP) ?_
  simp only [Act.put, List.setIfInBounds_toArray, List.set_cons_succ, List.set_cons_zero]
  iterate 3 (go_big_quiet_step ((go_at_call 52; with_reducible exact Calls.quiet_b (HLk.out _ (HB0.out.trans ((Bl.below _).mono HB0.out.size))))))
  refine wpQuiet_of_op rfl (.int .i64 n) (fun w' ⟨m, hw'⟩ => by subst hw'; have c := hcc _ m.below; clear hcc; go_simp) ?_
  simp only [Act.put, List.setIfInBounds_toArray, List.set_cons_succ, List.set_cons_zero]
  clear hcc
  go_big_quiet_step (fail)
  refine wpQuiet_nil ?_
  intro m
  have HBM := Lib.hid (HB0.out.trans (m.below.mono HB0.out.size))
  have GM := Lib.hid ((m.below.block _ (lt_block GR.out)).trans GR.out)
  generalize m.wr = W1 at *
  clear m HB0 GP GR HLk HG
  refine wpList_buildd rfl 42 #[(0, .tmp 8), (1, .tmp 11)] rfl [(0, .agg X), (1, .int .i64 (n + 1))] (by kernel_rfl) D.toArray HBU.out ?_
  simp only [Act.put, List.setIfInBounds_toArray, List.set_cons_succ, List.set_cons_zero]
  have hthere := there_block GM.out 0 33 (by omega)
  have hend := heap_setCells _ _ D 0 _ _ GM.out (by omega)
  rw [over_all _ _ (by omega)] at hend
  have hkl := (Kept1.setCells (b := w.heap.size + 1) (w.heap.size + 1) (Or.inl rfl) D 0 (Kept1.of_below HBM.out)).below (by omega)
  have Hend := Lib.hid hend
  have Hkl := Lib.hid hkl
  clear hend hkl
  go_wp2_with (refine wpList_store_mid rfl 42 (.tmp 4) (.tmp 12) rfl (w.heap.size + 1) 0 D.toArray rfl rfl (by simpa [hD33] using hthere) (infoHead _ (by simpa using hD33)) (all_oneCell_toArray hDone) ?_)
  exact bodyPost_ret (v := .agg D.toArray) (results_cell_row Tryd.results37 _ _ (w.heap.size + 1) 42 D.toArray (0, 0) _ rfl Hend.out Tryd.underlying42 rfl (infoHead _ (by simpa using hD33))) rfl ⟨rfl, Hkl.out⟩
end Go.Proofs.YtlhfdlfbnnfjjaaDoor
namespace Go.Proofs.YtlhfdlfbnnfjjaaDoor
open Go.RowKit

/-- what the loop over records keeps -/
structure BehRel (w : World) (P : List UInt8) (n : Int) (ps : List Part) (k : Nat) (wr : World) : Prop where
  at' : wr.heap[w.heap.size]? = some (.cells (HC (folded P (ps.take k)) (n + k)).toArray 42 (0, 0))
  res : wr.heap[w.heap.size + 1]? = some (.cells (HC z32 0).toArray 42 (0, 0))
  below : Below w.heap.size w wr
set_option maxRecDepth 100000 in
theorem zeroHeadV : ∀ w, (zeroValue 42).run Tryd.prog w = .ok (.agg (HC z32 0).toArray) w := fun _ => by kernel_rfl

end Go.Proofs.YtlhfdlfbnnfjjaaDoor
