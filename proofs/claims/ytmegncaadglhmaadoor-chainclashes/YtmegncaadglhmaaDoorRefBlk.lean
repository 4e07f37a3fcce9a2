/- Eight words behind a block, as the reference makes them. -/
import Derived.Test.YtmegncaadglhmaaDoorRefBlk1
namespace Go.Proofs.YtmegncaadglhmaaDoor
open Go.RowKit

/-- what the rounds keep -/
structure BlkRel (w : World) (G g' : Nat) (s v : St8) (P : List (BitVec 32)) (wr : World) : Prop where
  hb : wr.heap[w.heap.size]? = some (.cells (rowC s.list).toArray 58 (0, 0))
  res : wr.heap[w.heap.size + 1]? = some (.cells (rowC (List.replicate 8 0)).toArray 58 (0, 0))
  vb : wr.heap[G]? = some (.cells (rowC v.list).toArray 58 (0, 0))
  rng : ∀ i, i < 64 → wr.rangeAt g' (i * 32) (bitsV (P.getD i 0))
  lt : g' < wr.heap.size
  below : Below w.heap.size w wr
theorem BlkRel.next {w : World} {G g' : Nat} {s v v' : St8} {P : List (BitVec 32)} {wr w5 w6 : World} (h : BlkRel w G g' s v P wr) (hb : Below wr.heap.size wr w5) (hs : Set1 G (.cells (rowC v'.list).toArray 58 (0, 0)) w5 w6) (hG : w.heap.size + 2 ≤ G) (hg : g' < G) : BlkRel w G g' s v' P w6 := by
  have l1 := lt_block h.hb
  have l2 := lt_block h.res
  refine ⟨by rw [hs.old _ (by omega), hb.block _ l1]; exact h.hb, by rw [hs.old _ (by omega), hb.block _ l2]; exact h.res, hs.new, fun i hi j u hu => ?_, by rw [hs.size]; exact Nat.lt_of_lt_of_le h.lt hb.size, hs.below (h.below.trans (hb.mono h.below.size)) (by omega)⟩
  have e : w6.heap[g']? = wr.heap[g']? := by rw [hs.old _ (by omega), hb.block _ h.lt]
  have := h.rng i hi j u hu
  simp only [World.cell?] at this ⊢
  rw [e]; exact this
/-- the words when i of them are added -/
def hm (s v : St8) (i : Nat) : List (BitVec 32) := (s.plus v).list.take i ++ s.list.drop i
theorem length_hm (s v : St8) (i : Nat) (hi : i ≤ 8) : (hm s v i).length = 8 := by simp [hm, St8.list]; omega
theorem hm_get (s v : St8) (i : Nat) (hi : i < 8) : (hm s v i).getD i 0 = s.list.getD i 0 := by
  rcases (show i = 0 ∨ i = 1 ∨ i = 2 ∨ i = 3 ∨ i = 4 ∨ i = 5 ∨ i = 6 ∨ i = 7 by omega) with rfl | rfl | rfl | rfl | rfl | rfl | rfl | rfl <;> rfl
theorem hm_set (s v : St8) (i : Nat) (hi : i < 8) : (hm s v i).set i (s.list.getD i 0 + v.list.getD i 0) = hm s v (i + 1) := by
  rcases (show i = 0 ∨ i = 1 ∨ i = 2 ∨ i = 3 ∨ i = 4 ∨ i = 5 ∨ i = 6 ∨ i = 7 by omega) with rfl | rfl | rfl | rfl | rfl | rfl | rfl | rfl <;> rfl
theorem hm_end (s v : St8) : hm s v 8 = (s.plus v).list := rfl
theorem row8_range {w : World} {G : Nat} {t : TypeId} {fr : Nat × Nat} {v : St8} (h : w.heap[G]? = some (.cells (rowC v.list).toArray t fr)) (i : Nat) (hi : i < 8) : w.rangeAt G (32 * i) (bitsV (v.list.getD i 0)) := row_range h i hi
structure HRel (w : World) (G : Nat) (s v : St8) (i : Nat) (wr : World) : Prop where
  hb : wr.heap[w.heap.size]? = some (.cells (rowC (hm s v i)).toArray 58 (0, 0))
  res : wr.heap[w.heap.size + 1]? = some (.cells (rowC (List.replicate 8 0)).toArray 58 (0, 0))
  vb : wr.heap[G]? = some (.cells (rowC v.list).toArray 58 (0, 0))
  below : Below w.heap.size w wr

set_option maxRecDepth 100000 in
set_option maxHeartbeats 4000000 in
theorem block_any (s : St8) (w : World) (p : Part) (hp : p.In w) (hl : p.l.length = 64) :
    Calls Tryd.prog 27 #[.agg (rowC s.list).toArray, p.val] w fun e w' => e = .returned (.agg (rowC (mixW s p.l).list).toArray) ∧ Below w.heap.size w w' := by
  have hzv : ∀ w, (zeroValue 57).run Tryd.prog w = .ok (.agg (bitsC fun _ => false).toArray) w := fun _ => by kernel_rfl
  have hzv8 : ∀ w, (zeroValue 58).run Tryd.prog w = .ok (.agg (rowC (List.replicate 8 0)).toArray) w := fun _ => by kernel_rfl
  have hL0 := length_row8 s
  have hone0 := one_rowC s.list
  have hZ8 : (rowC (List.replicate 8 0)).length = 256 := by rw [length_rowC]; rfl
  have hZ32 : (bitsC fun _ => false).length = 32 := length_bitsC _
  generalize (bitsC fun _ => false) = Z at *
  generalize hZZ : rowC (List.replicate 8 0) = Z8 at *
  have HZZ := Lib.hid hZZ
  generalize hLL : rowC s.list = L0 at *
  have HLL := Lib.hid hLL
  generalize hpv : p.val = pv
  have Hpv := Lib.hid hpv
  have Hp := Lib.hid hp
  have Hl := Lib.hid hl
  have Hone0 := Lib.hid hone0
  clear hLL hZZ hpv hp hl hone0
  go_enter Tryd.func27, Tryd.ntmps27
  go_wp2_with fail
  have hh := heap_allocs [.cells L0.toArray 58, .cells Z8.toArray 58] w
  have hA : ((w.alloc (.cells L0.toArray 58)).alloc (.cells Z8.toArray 58)).heap[w.heap.size]? = some (.cells L0.toArray 58 (0, 0)) := hh 0 (by simp)
  have hB : ((w.alloc (.cells L0.toArray 58)).alloc (.cells Z8.toArray 58)).heap[w.heap.size + 1]? = some (.cells Z8.toArray 58 (0, 0)) := hh 1 (by simp)
  have hsz : ((w.alloc (.cells L0.toArray 58)).alloc (.cells Z8.toArray 58)).heap.size = w.heap.size + 2 := by simp only [World.size_alloc]
  have hbW : Below w.heap.size w ((w.alloc (.cells L0.toArray 58)).alloc (.cells Z8.toArray 58)) := below_allocs [_, _] w (Below.refl _ _) (Nat.le_refl _)
  clear hh
  generalize (w.alloc (.cells L0.toArray 58)).alloc (.cells Z8.toArray 58) = W1 at *
  have hrow := row_any W1 p (Hp.out.below hbW) Hl.out
  rw [Hpv.out] at hrow
  refine hrow.mono ?_
  rintro e wb ⟨vv, rfl, hrr⟩
  clear hrow
  obtain ⟨g', cap', hv⟩ : ∃ g' cap', vv = .slice (some ⟨g', 0, none⟩) 64 cap' := by
    obtain ⟨_, h | ⟨g', cap', _, h, _⟩⟩ := hrr.own
    · omega
    · exact ⟨g', cap', h⟩
  subst hv
  have hpl := length_plan p.l 64
  have hrng : ∀ i, i < 64 → wb.rangeAt g' (i * 32) (bitsV ((plan p.l 64).getD i 0)) := fun i hi => own_range hrr.own i (by omega) hi
  have hglt : g' < wb.heap.size := (hrr.own.lt g' rfl).2
  have hA' : wb.heap[w.heap.size]? = some (.cells L0.toArray 58 (0, 0)) := (hrr.below.block _ (by omega)).trans hA
  have hB' : wb.heap[w.heap.size + 1]? = some (.cells Z8.toArray 58 (0, 0)) := (hrr.below.block _ (by omega)).trans hB
  have hbb : Below w.heap.size w wb := hbW.trans (hrr.below.mono (by omega))
  have hszb : w.heap.size + 2 ≤ wb.heap.size := by have := hrr.below.size; omega
  have HA := Lib.hid hA'
  have HB := Lib.hid hB'
  have Hbb := Lib.hid hbb
  have Hrng := Lib.hid hrng
  clear hA hB hbW hsz hrr hA' hB' hbb hrng hpl
  go_wp2_with (first
    | (refine wpList_load_mid rfl 58 (.tmp 2) rfl w.heap.size 0 rfl L0 _ (range_block HA.out) Tryd.underlying58 rfl (infoRow _ hL0) ?_)
    | (refine wpList_store_row rfl 58 (.tmp 6) (.tmp 14) rfl wb.heap.size L0.toArray rfl rfl 58 Z8.toArray (heap_alloc_new _ _) (infoRow _ (by simp [hL0])) (by simp [hL0, hZ8]) (all_oneCell_toArray Hone0.out) ?_))
  have sv := set1_setRow (cells := L0.toArray) (heap_alloc_new wb (.cells Z8.toArray 58))
  have hG := hszb
  have hbal : Below wb.heap.size wb (wb.alloc (.cells Z8.toArray 58)) := (Below.refl _ _).alloc (Nat.le_refl _) _
  have R0 : BlkRel w wb.heap.size g' s s (plan p.l 64) ((wb.alloc (.cells Z8.toArray 58)).setRow wb.heap.size L0.toArray) := by
    have hbs : Below wb.heap.size wb ((wb.alloc (.cells Z8.toArray 58)).setRow wb.heap.size L0.toArray) := sv.below hbal (Nat.le_refl _)
    refine ⟨by rw [hbs.block _ (by omega), HA.out, ← HLL.out], by rw [hbs.block _ (by omega), HB.out, ← HZZ.out], by rw [sv.new, ← HLL.out], fun i hi => range_below hbs (Hrng.out i hi) hglt, Nat.lt_of_lt_of_le hglt hbs.size, Hbb.out.trans (hbs.mono Hbb.out.size)⟩
  clear sv hbal HA HB Hbb Hrng hszb
  have hgG : g' < wb.heap.size := hglt
  generalize (wb.alloc (.cells Z8.toArray 58)).setRow wb.heap.size L0.toArray = wc at *
  generalize wb.heap.size = G at *
  clear hglt hL0
  go_loopw [7] (fun i wr => ∃ k : Nat, k ≤ 64 ∧ i = .int .i64 k ∧ BlkRel w G g' s (rnds s (plan p.l 64) k) (plan p.l 64) wr) (fun i _ => 64 - (intOf i).toNat)
  case atStart => exact ⟨0, by omega, rfl, R0⟩
  case round =>
    clear R0
    obtain ⟨k, hk, rfl, hr⟩ := hrel
    by_cases hlt : k < 64
    · have hd : decide ((k : Int) < 64) = true := by simp; omega
      have hvk : rnds s (plan p.l 64) (k + 1) = rnd (rnds s (plan p.l 64) k) (consts.getD k 0) ((plan p.l 64).getD k 0) := rfl
      have hrk := hr.rng k hlt
      have hp0 : (0 : Int) ≤ (k : Int) := by omega
      have hnk : ((k : Int)).toNat = k := by omega
      have hk64 : (k : Int) < 64 := by omega
      have hvb := hr.vb
      have Glt : G < wr.heap.size := lt_block hvb
      have gglt := hr.lt
      have Hr := Lib.hid hr
      have Hvk := Lib.hid hvk
      generalize rnds s (plan p.l 64) k = v at *
      generalize (plan p.l 64).getD k 0 = pk at *
      have HV := Lib.hid hvb
      have Hrk := Lib.hid hrk
      clear hr hvk hvb hrk
      go_wp2_with fail
      refine wp_region_fresh 11 [.calm, .calm, .calm, .calm, .calm, .calm, .calm, .calm, .calm, .calm, .fresh] (fun _ => .cells Z.toArray 57) (fun _ => .cells Z.toArray 57) (fun _ G => .pointer (some ⟨G, 0, none⟩)) (by kernel_rfl) (by kernel_rfl) (by kernel_rfl) ?_
      intro R hR
      have hne := hR.nonempty
      simp only [List.take_succ_cons, List.take_zero, List.drop_succ_cons, List.drop_zero, calmL]
      iterate 1 (go_big_quiet_step (fail))
      refine wpQuiet_load_mid rfl 57 (.tmp 19) rfl G 128 rfl (bitsV (v.e)) _ (fun w' ⟨m, hw'⟩ => hw' ▸ range_below m.below (row8_range HV.out 4 (by decide)) Glt) Tryd.underlying57 rfl (infoBitsL _ (length_bitsV _)) ?_
      simp only [Act.put, List.setIfInBounds_toArray, List.set_cons_succ, List.set_cons_zero]
      go_big_quiet_step ((go_at_call 35; exact Calls.quiet_r hR (right_any (v.e) 6 true _ (by decide) (by decide))))
      iterate 1 (go_big_quiet_step (fail))
      refine wpQuiet_load_mid rfl 57 (.tmp 22) rfl G 128 rfl (bitsV (v.e)) _ (fun w' ⟨m, hw'⟩ => hw' ▸ range_below m.below (row8_range HV.out 4 (by decide)) Glt) Tryd.underlying57 rfl (infoBitsL _ (length_bitsV _)) ?_
      simp only [Act.put, List.setIfInBounds_toArray, List.set_cons_succ, List.set_cons_zero]
      go_big_quiet_step ((go_at_call 35; exact Calls.quiet_r hR (right_any (v.e) 11 true _ (by decide) (by decide))))
      iterate 1 (go_big_quiet_step (fail))
      refine wpQuiet_load_mid rfl 57 (.tmp 25) rfl G 128 rfl (bitsV (v.e)) _ (fun w' ⟨m, hw'⟩ => hw' ▸ range_below m.below (row8_range HV.out 4 (by decide)) Glt) Tryd.underlying57 rfl (infoBitsL _ (length_bitsV _)) ?_
      simp only [Act.put, List.setIfInBounds_toArray, List.set_cons_succ, List.set_cons_zero]
      go_big_quiet_step ((go_at_call 35; exact Calls.quiet_r hR (right_any (v.e) 25 true _ (by decide) (by decide))))
      go_big_quiet_step ((go_at_call 34; exact Calls.quiet_r hR (odd_any _ _ _ _)))
      refine wpQuiet_nil ?_
      refine ⟨?_, ?_⟩
      · simp only [obF, Nat.reduceAdd]
        exact ⟨⟨fun a' w' _ _ => run_alloc_op 57 rfl Z hzv w', .inl trivial⟩, trivial⟩
      intro γ w1 hf
      clear hR hne R
      simp only [putF, Nat.reduceAdd, Act.put, List.setIfInBounds_toArray, List.set_cons_succ, List.set_cons_zero]
      obtain ⟨gna, hn⟩ := hf.block 10 rfl
      have hb1 := hf.below
      clear hf
      generalize γ 10 = G8 at *
      refine wpList_store_row rfl 57 (.tmp 8) (.tmp 28) rfl G8 (bitsV (trn v.e 6 11 25)).toArray rfl rfl 57 Z.toArray hn (infoBitsL _ (by simp [length_bitsV])) (by simp [hZ32, length_bitsV]) (all_oneCell_toArray (one_bitsC _)) ?_
      simp only [Act.put]
      have sn := set1_setRow (cells := (bitsV (trn v.e 6 11 25)).toArray) hn
      generalize w1.setRow G8 (bitsV (trn v.e 6 11 25)).toArray = w2 at *
      have hn' := sn.new
      have hbn := sn.below hb1 gna
      clear hn sn hb1 gna
      have lG8 := lt_block hn'
      have HG8 := Lib.hid hn'
      clear hn'
      have hv' := (hbn.block G Glt).trans HV.out
      have hrk' := range_below hbn Hrk.out gglt
      have hbw : Below wr.heap.size wr w2 := hbn
      have Glt' := Nat.lt_of_lt_of_le Glt hbn.size
      have gglt' := Nat.lt_of_lt_of_le gglt hbn.size
      clear HV Hrk Glt gglt 
      have HV := Lib.hid hv'
      have Hrk := Lib.hid hrk'
      have Hbw := Lib.hid hbw
      have Glt := Glt'
      have gglt := gglt'
      clear hv' hrk' hbw Glt' gglt'
      clear hbn
      go_wp2_with fail
      refine wp_region_fresh 21 [.calm, .calm, .calm, .calm, .calm, .calm, .calm, .calm, .calm, .calm, .calm, .calm, .calm, .calm, .calm, .calm, .calm, .calm, .calm, .calm, .fresh] (fun _ => .cells Z.toArray 57) (fun _ => .cells Z.toArray 57) (fun _ G => .pointer (some ⟨G, 0, none⟩)) (by kernel_rfl) (by kernel_rfl) (by kernel_rfl) ?_
      intro R hR
      have hne := hR.nonempty
      simp only [List.take_succ_cons, List.take_zero, List.drop_succ_cons, List.drop_zero, calmL]
      iterate 1 (go_big_quiet_step (fail))
      refine wpQuiet_load_mid rfl 57 (.tmp 29) rfl G 224 rfl (bitsV (v.h)) _ (fun w' ⟨m, hw'⟩ => hw' ▸ range_below m.below (row8_range HV.out 7 (by decide)) Glt) Tryd.underlying57 rfl (infoBitsL _ (length_bitsV _)) ?_
      simp only [Act.put, List.setIfInBounds_toArray, List.set_cons_succ, List.set_cons_zero]
      refine wpQuiet_load_mid rfl 57 (.tmp 8) rfl G8 0 rfl (bitsV (trn v.e 6 11 25)) _ (fun w' ⟨m, hw'⟩ => hw' ▸ range_below m.below (range_block HG8.out) lG8) Tryd.underlying57 rfl (infoBitsL _ (length_bitsV _)) ?_
      simp only [Act.put, List.setIfInBounds_toArray, List.set_cons_succ, List.set_cons_zero]
      go_big_quiet_step ((go_at_call 36; exact Calls.quiet_r hR (plus_any _ _ _)))
      iterate 1 (go_big_quiet_step (fail))
      refine wpQuiet_load_mid rfl 57 (.tmp 33) rfl G 128 rfl (bitsV (v.e)) _ (fun w' ⟨m, hw'⟩ => hw' ▸ range_below m.below (row8_range HV.out 4 (by decide)) Glt) Tryd.underlying57 rfl (infoBitsL _ (length_bitsV _)) ?_
      simp only [Act.put, List.setIfInBounds_toArray, List.set_cons_succ, List.set_cons_zero]
      iterate 1 (go_big_quiet_step (fail))
      refine wpQuiet_load_mid rfl 57 (.tmp 35) rfl G 160 rfl (bitsV (v.f)) _ (fun w' ⟨m, hw'⟩ => hw' ▸ range_below m.below (row8_range HV.out 5 (by decide)) Glt) Tryd.underlying57 rfl (infoBitsL _ (length_bitsV _)) ?_
      simp only [Act.put, List.setIfInBounds_toArray, List.set_cons_succ, List.set_cons_zero]
      iterate 1 (go_big_quiet_step (fail))
      refine wpQuiet_load_mid rfl 57 (.tmp 37) rfl G 192 rfl (bitsV (v.g)) _ (fun w' ⟨m, hw'⟩ => hw' ▸ range_below m.below (row8_range HV.out 6 (by decide)) Glt) Tryd.underlying57 rfl (infoBitsL _ (length_bitsV _)) ?_
      simp only [Act.put, List.setIfInBounds_toArray, List.set_cons_succ, List.set_cons_zero]
      go_big_quiet_step ((go_at_call 37; exact Calls.quiet_r hR (pickW _ _ _ _)))
      go_big_quiet_step ((go_at_call 36; exact Calls.quiet_r hR (plus_any _ _ _)))
      iterate 1 (go_big_quiet_step (fail))
      go_big_quiet_step ((go_at_call 26; exact Calls.quiet_r hR (hexK k hlt _ (by kernel_rfl) _)))
      go_big_quiet_step ((go_at_call 36; exact Calls.quiet_r hR (plus_any _ _ _)))
      iterate 3 (go_big_quiet_step (fail))
      refine wpQuiet_load_mid rfl 57 (.tmp 46) rfl g' (k * 32) (by first | rfl | (simp [Act.eval]; omega)) (bitsV (pk)) _ (fun w' ⟨m, hw'⟩ => hw' ▸ range_below m.below (Hrk.out) gglt) Tryd.underlying57 rfl (infoBitsL _ (length_bitsV _)) ?_
      simp only [Act.put, List.setIfInBounds_toArray, List.set_cons_succ, List.set_cons_zero]
      go_big_quiet_step ((go_at_call 36; exact Calls.quiet_r hR (plus_any _ _ _)))
      refine wpQuiet_nil ?_
      refine ⟨?_, ?_⟩
      · simp only [obF, Nat.reduceAdd]
        exact ⟨⟨fun a' w' _ _ => run_alloc_op 57 rfl Z hzv w', .inl trivial⟩, trivial⟩
      intro γ w1 hf
      clear hR hne R
      simp only [putF, Nat.reduceAdd, Act.put, List.setIfInBounds_toArray, List.set_cons_succ, List.set_cons_zero]
      obtain ⟨gna, hn⟩ := hf.block 20 rfl
      have hb1 := hf.below
      clear hf
      generalize γ 20 = G9 at *
      refine wpList_store_row rfl 57 (.tmp 9) (.tmp 48) rfl G9 (bitsV (v.h + trn v.e 6 11 25 + ch v.e v.f v.g + consts.getD k 0 + pk)).toArray rfl rfl 57 Z.toArray hn (infoBitsL _ (by simp [length_bitsV])) (by simp [hZ32, length_bitsV]) (all_oneCell_toArray (one_bitsC _)) ?_
      simp only [Act.put]
      have sn := set1_setRow (cells := (bitsV (v.h + trn v.e 6 11 25 + ch v.e v.f v.g + consts.getD k 0 + pk)).toArray) hn
      generalize w1.setRow G9 (bitsV (v.h + trn v.e 6 11 25 + ch v.e v.f v.g + consts.getD k 0 + pk)).toArray = w3 at *
      have hn' := sn.new
      have hbn := sn.below hb1 gna
      clear hn sn hb1 gna
      have lG9 := lt_block hn'
      have HG9 := Lib.hid hn'
      clear hn'
      have hv' := (hbn.block G Glt).trans HV.out
      have hrk' := range_below hbn Hrk.out gglt
      have hbw : Below wr.heap.size wr w3 := Hbw.out.trans (hbn.mono Hbw.out.size)
      have Glt' := Nat.lt_of_lt_of_le Glt hbn.size
      have gglt' := Nat.lt_of_lt_of_le gglt hbn.size
      clear HV Hrk Glt gglt Hbw
      have HV := Lib.hid hv'
      have Hrk := Lib.hid hrk'
      have Hbw := Lib.hid hbw
      have Glt := Glt'
      have gglt := gglt'
      clear hv' hrk' hbw Glt' gglt'
      clear hbn HG8 lG8
      go_wp2_with fail
      refine wp_region_fresh 11 [.calm, .calm, .calm, .calm, .calm, .calm, .calm, .calm, .calm, .calm, .fresh] (fun _ => .cells Z.toArray 57) (fun _ => .cells Z.toArray 57) (fun _ G => .pointer (some ⟨G, 0, none⟩)) (by kernel_rfl) (by kernel_rfl) (by kernel_rfl) ?_
      intro R hR
      have hne := hR.nonempty
      simp only [List.take_succ_cons, List.take_zero, List.drop_succ_cons, List.drop_zero, calmL]
      iterate 1 (go_big_quiet_step (fail))
      refine wpQuiet_load_mid rfl 57 (.tmp 49) rfl G 0 rfl (bitsV (v.a)) _ (fun w' ⟨m, hw'⟩ => hw' ▸ range_below m.below (row8_range HV.out 0 (by decide)) Glt) Tryd.underlying57 rfl (infoBitsL _ (length_bitsV _)) ?_
      simp only [Act.put, List.setIfInBounds_toArray, List.set_cons_succ, List.set_cons_zero]
      go_big_quiet_step ((go_at_call 35; exact Calls.quiet_r hR (right_any (v.a) 2 true _ (by decide) (by decide))))
      iterate 1 (go_big_quiet_step (fail))
      refine wpQuiet_load_mid rfl 57 (.tmp 52) rfl G 0 rfl (bitsV (v.a)) _ (fun w' ⟨m, hw'⟩ => hw' ▸ range_below m.below (row8_range HV.out 0 (by decide)) Glt) Tryd.underlying57 rfl (infoBitsL _ (length_bitsV _)) ?_
      simp only [Act.put, List.setIfInBounds_toArray, List.set_cons_succ, List.set_cons_zero]
      go_big_quiet_step ((go_at_call 35; exact Calls.quiet_r hR (right_any (v.a) 13 true _ (by decide) (by decide))))
      iterate 1 (go_big_quiet_step (fail))
      refine wpQuiet_load_mid rfl 57 (.tmp 55) rfl G 0 rfl (bitsV (v.a)) _ (fun w' ⟨m, hw'⟩ => hw' ▸ range_below m.below (row8_range HV.out 0 (by decide)) Glt) Tryd.underlying57 rfl (infoBitsL _ (length_bitsV _)) ?_
      simp only [Act.put, List.setIfInBounds_toArray, List.set_cons_succ, List.set_cons_zero]
      go_big_quiet_step ((go_at_call 35; exact Calls.quiet_r hR (right_any (v.a) 22 true _ (by decide) (by decide))))
      go_big_quiet_step ((go_at_call 34; exact Calls.quiet_r hR (odd_any _ _ _ _)))
      refine wpQuiet_nil ?_
      refine ⟨?_, ?_⟩
      · simp only [obF, Nat.reduceAdd]
        exact ⟨⟨fun a' w' _ _ => run_alloc_op 57 rfl Z hzv w', .inl trivial⟩, trivial⟩
      intro γ w1 hf
      clear hR hne R
      simp only [putF, Nat.reduceAdd, Act.put, List.setIfInBounds_toArray, List.set_cons_succ, List.set_cons_zero]
      obtain ⟨gna, hn⟩ := hf.block 10 rfl
      have hb1 := hf.below
      clear hf
      generalize γ 10 = G10 at *
      refine wpList_store_row rfl 57 (.tmp 10) (.tmp 58) rfl G10 (bitsV (trn v.a 2 13 22)).toArray rfl rfl 57 Z.toArray hn (infoBitsL _ (by simp [length_bitsV])) (by simp [hZ32, length_bitsV]) (all_oneCell_toArray (one_bitsC _)) ?_
      simp only [Act.put]
      have sn := set1_setRow (cells := (bitsV (trn v.a 2 13 22)).toArray) hn
      generalize w1.setRow G10 (bitsV (trn v.a 2 13 22)).toArray = w4 at *
      have hn' := sn.new
      have hbn := sn.below hb1 gna
      have ge10 : wr.heap.size ≤ G10 := Nat.le_trans Hbw.out.size gna
      have ne9 : G9 ≠ G10 := by omega
      clear hn sn hb1 gna
      have lG10 := lt_block hn'
      have HG10 := Lib.hid hn'
      clear hn'
      have hG9' := (hbn.block G9 lG9).trans HG9.out
      have lG9' := Nat.lt_of_lt_of_le lG9 hbn.size
      clear HG9 lG9
      have HG9 := Lib.hid hG9'
      have lG9 := lG9'
      clear hG9' lG9'
      have hv' := (hbn.block G Glt).trans HV.out
      have hrk' := range_below hbn Hrk.out gglt
      have hbw : Below wr.heap.size wr w4 := Hbw.out.trans (hbn.mono Hbw.out.size)
      have Glt' := Nat.lt_of_lt_of_le Glt hbn.size
      have gglt' := Nat.lt_of_lt_of_le gglt hbn.size
      clear HV Hrk Glt gglt Hbw
      have HV := Lib.hid hv'
      have Hrk := Lib.hid hrk'
      have Hbw := Lib.hid hbw
      have Glt := Glt'
      have gglt := gglt'
      clear hv' hrk' hbw Glt' gglt'
      clear hbn
      go_wp2_with fail
      refine wp_region_fresh 9 [.calm, .calm, .calm, .calm, .calm, .calm, .calm, .calm, .calm] (fun _ => .cells Z.toArray 57) (fun _ => .cells Z.toArray 57) (fun _ G => .pointer (some ⟨G, 0, none⟩)) (by kernel_rfl) (by kernel_rfl) (by kernel_rfl) ?_
      intro R hR
      have hne := hR.nonempty
      simp only [List.take_succ_cons, List.take_zero, List.drop_succ_cons, List.drop_zero, calmL]
      refine wpQuiet_load_mid rfl 57 (.tmp 10) rfl G10 0 rfl (bitsV (trn v.a 2 13 22)) _ (fun w' ⟨m, hw'⟩ => hw' ▸ range_below m.below (range_block HG10.out) lG10) Tryd.underlying57 rfl (infoBitsL _ (length_bitsV _)) ?_
      simp only [Act.put, List.setIfInBounds_toArray, List.set_cons_succ, List.set_cons_zero]
      iterate 1 (go_big_quiet_step (fail))
      refine wpQuiet_load_mid rfl 57 (.tmp 60) rfl G 0 rfl (bitsV (v.a)) _ (fun w' ⟨m, hw'⟩ => hw' ▸ range_below m.below (row8_range HV.out 0 (by decide)) Glt) Tryd.underlying57 rfl (infoBitsL _ (length_bitsV _)) ?_
      simp only [Act.put, List.setIfInBounds_toArray, List.set_cons_succ, List.set_cons_zero]
      iterate 1 (go_big_quiet_step (fail))
      refine wpQuiet_load_mid rfl 57 (.tmp 62) rfl G 32 rfl (bitsV (v.b)) _ (fun w' ⟨m, hw'⟩ => hw' ▸ range_below m.below (row8_range HV.out 1 (by decide)) Glt) Tryd.underlying57 rfl (infoBitsL _ (length_bitsV _)) ?_
      simp only [Act.put, List.setIfInBounds_toArray, List.set_cons_succ, List.set_cons_zero]
      iterate 1 (go_big_quiet_step (fail))
      refine wpQuiet_load_mid rfl 57 (.tmp 64) rfl G 64 rfl (bitsV (v.c)) _ (fun w' ⟨m, hw'⟩ => hw' ▸ range_below m.below (row8_range HV.out 2 (by decide)) Glt) Tryd.underlying57 rfl (infoBitsL _ (length_bitsV _)) ?_
      simp only [Act.put, List.setIfInBounds_toArray, List.set_cons_succ, List.set_cons_zero]
      go_big_quiet_step ((go_at_call 38; exact Calls.quiet_r hR (mostW _ _ _ _)))
      go_big_quiet_step ((go_at_call 36; exact Calls.quiet_r hR (plus_any _ _ _)))
      refine wpQuiet_nil ?_
      refine ⟨by simp only [obF], ?_⟩
      intro γ w1 hf
      clear hR hne R
      simp only [putF]
      have hb1 := hf.below
      clear hf
      have h10 := (hb1.block G10 lG10).trans HG10.out
      refine wpList_store_row rfl 57 (.tmp 10) (.tmp 67) rfl G10 (bitsV (trn v.a 2 13 22 + maj v.a v.b v.c)).toArray rfl rfl 57 _ h10 (infoBitsL _ (by simp [length_bitsV])) (by simp [length_bitsV]) (all_oneCell_toArray (one_bitsC _)) ?_
      simp only [Act.put]
      have sn := set1_setRow (cells := (bitsV (trn v.a 2 13 22 + maj v.a v.b v.c)).toArray) h10
      generalize w1.setRow G10 (bitsV (trn v.a 2 13 22 + maj v.a v.b v.c)).toArray = w5 at *
      have hn' := sn.new
      have hbw : Below wr.heap.size wr w5 := sn.below (Hbw.out.trans (hb1.mono Hbw.out.size)) ge10
      have hv' : w5.heap[G]? = some (.cells (rowC v.list).toArray 58 (0, 0)) := by rw [sn.old _ (by have := Hr.out.vb; have := lt_block this; omega), hb1.block _ Glt]; exact HV.out
      have h9' : w5.heap[G9]? = some (.cells (bitsV (v.h + trn v.e 6 11 25 + ch v.e v.f v.g + consts.getD k 0 + pk)).toArray 57 (0, 0)) := by rw [sn.old _ ne9, hb1.block _ lG9]; exact HG9.out
      clear h10 sn hb1 HV Hbw HG9 HG10 Glt lG9 lG10 Hrk
      have Glt := lt_block hv'
      have lG9 := lt_block h9'
      have lG10 := lt_block hn'
      have HV := Lib.hid hv'
      have HG9 := Lib.hid h9'
      have HG10 := Lib.hid hn'
      have Hbw := Lib.hid hbw
      clear hv' h9' hn' hbw
      go_wp2_with fail
      refine wp_region_fresh 20 [.calm, .calm, .calm, .calm, .calm, .calm, .calm, .calm, .calm, .calm, .calm, .calm, .calm, .calm, .calm, .calm, .calm, .calm, .calm, .calm] (fun _ => .cells Z.toArray 57) (fun _ => .cells Z.toArray 57) (fun _ G => .pointer (some ⟨G, 0, none⟩)) (by kernel_rfl) (by kernel_rfl) (by kernel_rfl) ?_
      intro R hR
      have hne := hR.nonempty
      simp only [List.take_succ_cons, List.take_zero, List.drop_succ_cons, List.drop_zero, calmL]
      refine wpQuiet_load_mid rfl 57 (.tmp 9) rfl G9 0 rfl (bitsV (v.h + trn v.e 6 11 25 + ch v.e v.f v.g + consts.getD k 0 + pk)) _ (fun w' ⟨m, hw'⟩ => hw' ▸ range_below m.below (range_block HG9.out) lG9) Tryd.underlying57 rfl (infoBitsL _ (length_bitsV _)) ?_
      simp only [Act.put, List.setIfInBounds_toArray, List.set_cons_succ, List.set_cons_zero]
      refine wpQuiet_load_mid rfl 57 (.tmp 10) rfl G10 0 rfl (bitsV (trn v.a 2 13 22 + maj v.a v.b v.c)) _ (fun w' ⟨m, hw'⟩ => hw' ▸ range_below m.below (range_block HG10.out) lG10) Tryd.underlying57 rfl (infoBitsL _ (length_bitsV _)) ?_
      simp only [Act.put, List.setIfInBounds_toArray, List.set_cons_succ, List.set_cons_zero]
      go_big_quiet_step ((go_at_call 36; exact Calls.quiet_r hR (plus_any _ _ _)))
      iterate 1 (go_big_quiet_step (fail))
      refine wpQuiet_load_mid rfl 57 (.tmp 71) rfl G 0 rfl (bitsV (v.a)) _ (fun w' ⟨m, hw'⟩ => hw' ▸ range_below m.below (row8_range HV.out 0 (by decide)) Glt) Tryd.underlying57 rfl (infoBitsL _ (length_bitsV _)) ?_
      simp only [Act.put, List.setIfInBounds_toArray, List.set_cons_succ, List.set_cons_zero]
      iterate 1 (go_big_quiet_step (fail))
      refine wpQuiet_load_mid rfl 57 (.tmp 73) rfl G 32 rfl (bitsV (v.b)) _ (fun w' ⟨m, hw'⟩ => hw' ▸ range_below m.below (row8_range HV.out 1 (by decide)) Glt) Tryd.underlying57 rfl (infoBitsL _ (length_bitsV _)) ?_
      simp only [Act.put, List.setIfInBounds_toArray, List.set_cons_succ, List.set_cons_zero]
      iterate 1 (go_big_quiet_step (fail))
      refine wpQuiet_load_mid rfl 57 (.tmp 75) rfl G 64 rfl (bitsV (v.c)) _ (fun w' ⟨m, hw'⟩ => hw' ▸ range_below m.below (row8_range HV.out 2 (by decide)) Glt) Tryd.underlying57 rfl (infoBitsL _ (length_bitsV _)) ?_
      simp only [Act.put, List.setIfInBounds_toArray, List.set_cons_succ, List.set_cons_zero]
      iterate 1 (go_big_quiet_step (fail))
      refine wpQuiet_load_mid rfl 57 (.tmp 77) rfl G 96 rfl (bitsV (v.d)) _ (fun w' ⟨m, hw'⟩ => hw' ▸ range_below m.below (row8_range HV.out 3 (by decide)) Glt) Tryd.underlying57 rfl (infoBitsL _ (length_bitsV _)) ?_
      simp only [Act.put, List.setIfInBounds_toArray, List.set_cons_succ, List.set_cons_zero]
      refine wpQuiet_load_mid rfl 57 (.tmp 9) rfl G9 0 rfl (bitsV (v.h + trn v.e 6 11 25 + ch v.e v.f v.g + consts.getD k 0 + pk)) _ (fun w' ⟨m, hw'⟩ => hw' ▸ range_below m.below (range_block HG9.out) lG9) Tryd.underlying57 rfl (infoBitsL _ (length_bitsV _)) ?_
      simp only [Act.put, List.setIfInBounds_toArray, List.set_cons_succ, List.set_cons_zero]
      go_big_quiet_step ((go_at_call 36; exact Calls.quiet_r hR (plus_any _ _ _)))
      iterate 1 (go_big_quiet_step (fail))
      refine wpQuiet_load_mid rfl 57 (.tmp 81) rfl G 128 rfl (bitsV (v.e)) _ (fun w' ⟨m, hw'⟩ => hw' ▸ range_below m.below (row8_range HV.out 4 (by decide)) Glt) Tryd.underlying57 rfl (infoBitsL _ (length_bitsV _)) ?_
      simp only [Act.put, List.setIfInBounds_toArray, List.set_cons_succ, List.set_cons_zero]
      iterate 1 (go_big_quiet_step (fail))
      refine wpQuiet_load_mid rfl 57 (.tmp 83) rfl G 160 rfl (bitsV (v.f)) _ (fun w' ⟨m, hw'⟩ => hw' ▸ range_below m.below (row8_range HV.out 5 (by decide)) Glt) Tryd.underlying57 rfl (infoBitsL _ (length_bitsV _)) ?_
      simp only [Act.put, List.setIfInBounds_toArray, List.set_cons_succ, List.set_cons_zero]
      iterate 1 (go_big_quiet_step (fail))
      refine wpQuiet_load_mid rfl 57 (.tmp 85) rfl G 192 rfl (bitsV (v.g)) _ (fun w' ⟨m, hw'⟩ => hw' ▸ range_below m.below (row8_range HV.out 6 (by decide)) Glt) Tryd.underlying57 rfl (infoBitsL _ (length_bitsV _)) ?_
      simp only [Act.put, List.setIfInBounds_toArray, List.set_cons_succ, List.set_cons_zero]
      have hbl : Tryd.prog.built 58 [(0, BV (v.h + trn v.e 6 11 25 + ch v.e v.f v.g + consts.getD k 0 + pk + (trn v.a 2 13 22 + maj v.a v.b v.c))), (1, BV v.a), (2, BV v.b), (3, BV v.c), (4, BV (v.d + (v.h + trn v.e 6 11 25 + ch v.e v.f v.g + consts.getD k 0 + pk))), (5, BV v.e), (6, BV v.f), (7, BV v.g)] = some (rowC (rnd v (consts.getD k 0) pk).list).toArray := built8 (v.h + trn v.e 6 11 25 + ch v.e v.f v.g + consts.getD k 0 + pk + (trn v.a 2 13 22 + maj v.a v.b v.c)) v.a v.b v.c (v.d + (v.h + trn v.e 6 11 25 + ch v.e v.f v.g + consts.getD k 0 + pk)) v.e v.f v.g
      refine wpQuiet_of_op rfl (.agg (rowC (rnd v (consts.getD k 0) pk).list).toArray) (fun w' _ => run_build_op 58 _ rfl [(0, BV (v.h + trn v.e 6 11 25 + ch v.e v.f v.g + consts.getD k 0 + pk + (trn v.a 2 13 22 + maj v.a v.b v.c))), (1, BV v.a), (2, BV v.b), (3, BV v.c), (4, BV (v.d + (v.h + trn v.e 6 11 25 + ch v.e v.f v.g + consts.getD k 0 + pk))), (5, BV v.e), (6, BV v.f), (7, BV v.g)] (by kernel_rfl) _ hbl w') ?_
      clear hbl
      simp only [Act.put, List.setIfInBounds_toArray, List.set_cons_succ, List.set_cons_zero]
      refine wpQuiet_nil ?_
      refine ⟨by simp only [obF], ?_⟩
      intro γ w1 hf
      clear hR hne R
      simp only [putF]
      have hb1 := hf.below
      clear hf
      have h6 := (hb1.block G Glt).trans HV.out
      refine wpList_store_row rfl 58 (.tmp 6) (.tmp 87) rfl G (rowC (rnd v (consts.getD k 0) pk).list).toArray rfl rfl 58 _ h6 (infoRow _ (by simp [length_row8])) (by simp [length_row8]) (all_oneCell_toArray (one_rowC _)) ?_
      simp only [Act.put]
      have sn := set1_setRow (cells := (rowC (rnd v (consts.getD k 0) pk).list).toArray) h6
      have hnext := Hr.out.next (Hbw.out.trans (hb1.mono Hbw.out.size)) sn hG hgG
      generalize w1.setRow G (rowC (rnd v (consts.getD k 0) pk).list).toArray = w6 at *
      rw [← Hvk.out] at hnext
      have Hnext := Lib.hid hnext
      clear hnext sn h6 hb1 HV HG9 HG10 Hbw Glt lG9 lG10 gglt ge10 ne9
      go_wp2_with fail
      go_roundw
      case rel => exact ⟨k + 1, by omega, by go_num, Hnext.out⟩
      case measure => simp [intOf]; omega
    · have hd : decide ((k : Int) < 64) = false := by simp; omega
      have hk64 : k = 64 := by omega
      rw [hk64] at hr
      have H0 : HRel w G s (rnds s (plan p.l 64) 64) 0 wr := ⟨hr.hb, hr.res, hr.vb, hr.below⟩
      have hmix : mixW s p.l = s.plus (rnds s (plan p.l 64) 64) := rfl
      have Hmix := Lib.hid hmix
      generalize rnds s (plan p.l 64) 64 = v at *
      clear hr hlt hk hk64 hmix
      go_wp2_with fail
      go_loopw [11] (fun i wr => ∃ j : Nat, j ≤ 8 ∧ i = .int .i64 j ∧ HRel w G s v j wr) (fun i _ => 8 - (intOf i).toNat)
      case atStart => exact ⟨0, by omega, rfl, H0⟩
      case round =>
        clear H0 hd
        obtain ⟨j, hj, rfl, hr⟩ := hrel
        by_cases hlt : j < 8
        · have hd : decide ((j : Int) < 8) = true := by simp; omega
          have hp0 : (0 : Int) ≤ (j : Int) := by omega
          have hnj : ((j : Int)).toNat = j := by omega
          have hj8 : (j : Int) < 8 := by omega
          have hrh := row_range hr.hb j (by rw [length_hm s v j (by omega)]; exact hlt)
          rw [hm_get s v j hlt] at hrh
          have hrv := row8_range hr.vb j hlt
          have hset := hm_set s v j hlt
          have Nlt : w.heap.size < wr.heap.size := lt_block hr.hb
          have Glt : G < wr.heap.size := lt_block hr.vb
          rw [Nat.mul_comm 32 j] at hrh hrv
          have Hr := Lib.hid hr
          have Hset := Lib.hid hset
          generalize s.list.getD j 0 = sj at *
          generalize v.list.getD j 0 = vj at *
          have Hrh := Lib.hid hrh
          have Hrv := Lib.hid hrv
          clear hr hset hrh hrv
          go_wp2_with fail
          refine wp_region_fresh 9 [.calm, .calm, .calm, .calm, .calm, .calm, .calm, .calm, .calm] (fun _ => .cells Z.toArray 57) (fun _ => .cells Z.toArray 57) (fun _ G => .pointer (some ⟨G, 0, none⟩)) (by kernel_rfl) (by kernel_rfl) (by kernel_rfl) ?_
          intro R hR
          have hne := hR.nonempty
          simp only [List.take_succ_cons, List.take_zero, List.drop_succ_cons, List.drop_zero, calmL]
          iterate 3 (go_big_quiet_step (fail))
          refine wpQuiet_load_mid rfl 57 (.tmp 94) rfl w.heap.size (j * 32) (by first | rfl | (simp [Act.eval]; omega)) (bitsV (sj)) _ (fun w' ⟨m, hw'⟩ => hw' ▸ range_below m.below (Hrh.out) Nlt) Tryd.underlying57 rfl (infoBitsL _ (length_bitsV _)) ?_
          simp only [Act.put, List.setIfInBounds_toArray, List.set_cons_succ, List.set_cons_zero]
          iterate 2 (go_big_quiet_step (fail))
          refine wpQuiet_load_mid rfl 57 (.tmp 97) rfl G (j * 32) (by first | rfl | (simp [Act.eval]; omega)) (bitsV (vj)) _ (fun w' ⟨m, hw'⟩ => hw' ▸ range_below m.below (Hrv.out) Glt) Tryd.underlying57 rfl (infoBitsL _ (length_bitsV _)) ?_
          simp only [Act.put, List.setIfInBounds_toArray, List.set_cons_succ, List.set_cons_zero]
          go_big_quiet_step ((go_at_call 36; exact Calls.quiet_r hR (plus_any _ _ _)))
          iterate 1 (go_big_quiet_step (fail))
          refine wpQuiet_nil ?_
          refine ⟨by simp only [obF], ?_⟩
          intro γ w1 hf
          clear hR hne R
          simp only [putF]
          have hb1 := hf.below
          clear hf
          have h2 := (hb1.block w.heap.size Nlt).trans Hr.out.hb
          have hlen := length_rowC (hm s v j)
          rw [length_hm s v j (by omega)] at hlen
          refine wpList_store_mid rfl 57 (.tmp 100) (.tmp 99) rfl w.heap.size (j * 32) (bitsV (sj + vj)).toArray (by first | rfl | (simp [Act.eval]; omega)) rfl (there_block h2 _ _ (by simp [length_bitsV]; omega)) (infoBitsL _ (by simp [length_bitsV])) (all_oneCell_toArray (one_bitsC _)) ?_
          simp only [Act.put]
          have hb2 := heap_setCells w.heap.size 58 (bitsV (sj + vj)) (j * 32) _ w1 h2 (by rw [length_bitsV]; omega)
          rw [Nat.mul_comm j 32, over_row _ j (by rw [length_hm s v j (by omega)]; exact hlt), Hset.out, Nat.mul_comm 32 j] at hb2
          have hk1 : Kept1 w.heap.size wr (w1.setCells w.heap.size (j * 32) (bitsV (sj + vj))) := Kept1.setCells _ (Or.inl rfl) _ _ (Kept1.of_below hb1)
          have hnext : HRel w G s v (j + 1) (w1.setCells w.heap.size (j * 32) (bitsV (sj + vj))) := by
            refine ⟨hb2, ?_, ?_, ?_⟩
            · rw [hk1.block _ (lt_block Hr.out.res) (by omega)]; exact Hr.out.res
            · rw [hk1.block _ Glt (by omega)]; exact Hr.out.vb
            · exact Kept1.mono Hr.out.below hk1 (Nat.le_refl _)
          generalize w1.setCells w.heap.size (j * 32) (bitsV (sj + vj)) = w6 at *
          have Hnext := Lib.hid hnext
          clear hnext hk1 hb2 hlen h2 hb1 Hrh Hrv Hr
          go_wp2_with fail
          go_roundw
          case rel => exact ⟨j + 1, by omega, by go_num, Hnext.out⟩
          case measure => simp [intOf]; omega
        · have hd : decide ((j : Int) < 8) = false := by simp; omega
          have hj8 : j = 8 := by omega
          rw [hj8] at hr
          have hb := hr.hb
          have hres := hr.res
          have hbe := hr.below
          rw [hm_end, ← Hmix.out] at hb
          have hlen := length_row8 (mixW s p.l)
          have hone := one_rowC (mixW s p.l).list
          rw [HZZ.out] at hres
          generalize hL1 : rowC (mixW s p.l).list = L1 at *
          have HL1 := Lib.hid hL1
          clear hL1
          have Hb := Lib.hid hb
          have Hres := Lib.hid hres
          have Hbe := Lib.hid hbe
          have Hone := Lib.hid hone
          clear hr hj8 hlt hb hres hbe hone hj
          go_wp2_with (first
            | (refine wpList_load_mid rfl 58 (.tmp 2) rfl w.heap.size 0 rfl L1 _ (range_block Hb.out) Tryd.underlying58 rfl (infoRow _ hlen) ?_)
            | (refine wpList_store_row rfl 58 (.tmp 4) (.tmp 101) rfl (w.heap.size + 1) L1.toArray rfl rfl 58 Z8.toArray Hres.out (infoRow _ (by simp [hlen])) (by simp [hlen, hZ8]) (all_oneCell_toArray Hone.out) ?_))
          have sn := set1_setRow (cells := L1.toArray) Hres.out
          have hbel : Below w.heap.size w (wr.setRow (w.heap.size + 1) L1.toArray) := sn.below Hbe.out (by omega)
          exact bodyPost_ret (v := .agg L1.toArray) (results_cell_row Tryd.results27 _ _ (w.heap.size + 1) 58 L1.toArray (0, 0) _ rfl sn.new Tryd.underlying58 rfl (infoRow _ (by simp [hlen]))) rfl ⟨by rw [HL1.out], hbel⟩
end Go.Proofs.YtmegncaadglhmaaDoor
