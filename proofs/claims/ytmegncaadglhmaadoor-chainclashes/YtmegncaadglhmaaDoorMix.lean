/- A block taken into the words. -/
import Derived.Test.YtmegncaadglhmaaDoorMixed
namespace Go.Proofs.YtmegncaadglhmaaDoor
open Go.RowKit

/-- a digest's cells -/
def dg (s : St8) (rest : List UInt8) (n : Nat) : List Value := s.list.map W ++ (rest.map B ++ [.int .u64 (n : Int)])
theorem length_dg (s : St8) (rest : List UInt8) (n : Nat) (h : rest.length = 64) : (dg s rest n).length = 73 := by simp [dg, St8.list, h]
/-- a digest lies in block b -/
structure DgAt (w : World) (b : Nat) (t : TypeId) (s : St8) (rest : List UInt8) (n : Nat) : Prop where
  len : rest.length = 64
  blk : w.heap[b]? = some (.cells (dg s rest n).toArray t (0, 0))
theorem DgAt.words {w : World} {b : Nat} {t : TypeId} {s : St8} {rest : List UInt8} {n : Nat} (h : DgAt w b t s rest n) : w.rangeAt b 0 (s.list.map W) := fun j v hv => by
  rw [cell_block h.blk]
  have hj : j < (s.list.map W).length := (List.getElem?_eq_some_iff.1 hv).1
  simp only [dg, List.getElem?_toArray, Nat.zero_add]
  rw [List.getElem?_append_left hj]; exact hv
theorem DgAt.rest {w : World} {b : Nat} {t : TypeId} {s : St8} {rest : List UInt8} {n : Nat} (h : DgAt w b t s rest n) : w.rangeAt b 8 (rest.map B) := fun j v hv => by
  rw [cell_block h.blk]
  have hj : j < (rest.map B).length := (List.getElem?_eq_some_iff.1 hv).1
  simp only [dg, List.getElem?_toArray]
  rw [List.getElem?_append_right (by simp [St8.list]), show 8 + j - (s.list.map W).length = j by simp [St8.list], List.getElem?_append_left hj]; exact hv
theorem DgAt.size {w : World} {b : Nat} {t : TypeId} {s : St8} {rest : List UInt8} {n : Nat} (h : DgAt w b t s rest n) : w.cell? ⟨b, 72, none⟩ = some (.int .u64 (n : Int)) := by
  rw [cell_block h.blk]
  simp only [dg, List.getElem?_toArray]
  rw [List.getElem?_append_right (by simp [St8.list]), List.getElem?_append_right (by simp [St8.list, h.len])]
  simp [St8.list, h.len]
theorem DgAt.kept {w w' : World} {b c : Nat} {t : TypeId} {s : St8} {rest : List UInt8} {n : Nat} (h : DgAt w b t s rest n) (hk : Kept1 c w w') (hb : b ≠ c) : DgAt w' b t s rest n :=
  ⟨h.len, (hk.block b (lt_block h.blk) hb).trans h.blk⟩
theorem DgAt.below {w w' : World} {b : Nat} {t : TypeId} {s : St8} {rest : List UInt8} {n : Nat} (h : DgAt w b t s rest n) (hk : Below w.heap.size w w') : DgAt w' b t s rest n :=
  ⟨h.len, (hk.block b (lt_block h.blk)).trans h.blk⟩
/-- other words -/
theorem DgAt.put {w : World} {b : Nat} {t : TypeId} {s : St8} {rest : List UInt8} {n : Nat} (h : DgAt w b t s rest n) (s' : St8) : DgAt (w.setCells b 0 (s'.list.map W)) b t s' rest n := by
  refine ⟨h.len, ?_⟩
  rw [heap_setCells b t (s'.list.map W) 0 _ _ h.blk (by rw [length_dg _ _ _ h.len]; simp [St8.list])]
  congr 2
theorem DgAt.there {w : World} {b : Nat} {t : TypeId} {s : St8} {rest : List UInt8} {n : Nat} (h : DgAt w b t s rest n) (o k : Nat) (hk : o + k ≤ 73) : w.there b o k :=
  there_block h.blk o k (by rw [length_dg _ _ _ h.len]; exact hk)

/-- the words at the beginning -/
def start8 : St8 := ⟨0x6a09e667, 0xbb67ae85, 0x3c6ef372, 0xa54ff53a, 0x510e527f, 0x9b05688c, 0x1f83d9ab, 0x5be0cd19⟩
/-- the words behind a block -/
def mixW (s : St8) (rest : List UInt8) : St8 := s.plus (rnds s (plan rest 64) 64)
theorem one_list (s : St8) : (s.list.map W).toArray.all (·.oneCell') = true := one_W _
theorem len_list (s : St8) : (s.list.map W).toArray.size = 8 := rfl
theorem info52 : (Tryd.prog.info? 80).map (·.size) = some 8 := by kernel_rfl
theorem info53 (n : Nat) (h : n = 64) : (Tryd.prog.info? 81).map (·.size) = some n := by subst h; kernel_rfl

theorem Tab.kept {w w' : World} {b : Nat} (h : Tab w) (hk : Kept1 b w w') (hb : 0 ≠ b) : Tab w' := fun k hk' => by rw [hk.cell (by exact h.size) (by exact hb)]; exact h k hk'

set_option maxHeartbeats 400000 in
theorem mix_some (w : World) (b : Nat) (t : TypeId) (s : St8) (rest : List UInt8) (n : Nat) (hd : DgAt w b t s rest n) (ht : Tab w) (hn : ((n : Int) == 64) = false) :
    Calls Tryd.prog 46 #[.pointer (some ⟨b, 0, none⟩)] w fun e w' => e = .returned (.tuple #[]) ∧ DgAt w' b t (mixW s rest) rest n ∧ Kept1 b w w' := by
  have hsz := hd.size
  have Hd := Lib.hid hd
  have Ht := Lib.hid ht
  clear hd ht
  go_enter Tryd.func46, Tryd.ntmps46
  go_wp2_with fail
  refine wp_region_quiet_tailB 13 (by kernel_rfl) (by kernel_rfl) ?_
  simp only [List.take_succ_cons, List.take_zero, List.drop_succ_cons, List.drop_zero]
  iterate 4 (go_big_quiet_step (fail))
  refine wpQuiet_load_mid rfl 80 (.tmp 14) rfl b 0 rfl (s.list.map W) _ (fun w' ⟨m, hw'⟩ => hw' ▸ (Hd.out.below m.below).words) Tryd.underlying80 rfl info52 ?_
  simp only [Act.put, List.setIfInBounds_toArray, List.set_cons_succ, List.set_cons_zero]
  iterate 3 (go_big_quiet_step (fail))
  refine wpQuiet_load_mid rfl 81 (.tmp 18) rfl b 8 rfl (rest.map B) _ (fun w' ⟨m, hw'⟩ => hw' ▸ (Hd.out.below m.below).rest) Tryd.underlying81 rfl (info53 _ (by simp [Hd.out.len])) ?_
  simp only [Act.put, List.setIfInBounds_toArray, List.set_cons_succ, List.set_cons_zero]
  iterate 4 (go_big_quiet_step ((first | (go_at_call 49; exact Calls.quiet_b (sched_any rest Hd.out.len _)) | (go_at_call 48; exact Calls.quiet_b (mixed_any s _ (length_plan _ _) _ (Ht.out.below (Bl.below _) Ht.out.size))))))
  refine wpQuiet_nil ?_
  intro m
  have hd1 := Hd.out.below m.below
  refine wpList_store_mid rfl 80 (.tmp 23) (.tmp 21) rfl b 0 ((mixW s rest).list.map W).toArray rfl rfl (hd1.there 0 8 (by omega)) info52 (one_list _) ?_
  have hk : Kept1 b w (m.wr.setCells b 0 ((mixW s rest).list.map W)) := Kept1.setCells b (Or.inl rfl) _ _ (Kept1.of_below m.below)
  have hp := hd1.put (mixW s rest)
  have HK := Lib.hid hk
  have HP := Lib.hid hp
  clear hk hp hd1
  go_wp2
  go_end0
  exact ⟨rfl, HP.out, HK.out⟩

set_option maxHeartbeats 400000 in
theorem mix_first (w : World) (b : Nat) (t : TypeId) (s : St8) (rest : List UInt8) (hd : DgAt w b t s rest 64) (ht : Tab w) (hbn : b ≠ 0) :
    Calls Tryd.prog 46 #[.pointer (some ⟨b, 0, none⟩)] w fun e w' => e = .returned (.tuple #[]) ∧ DgAt w' b t (mixW start8 rest) rest 64 ∧ Kept1 b w w' := by
  have hsz : w.cell? ⟨b, 72, none⟩ = some (.int .u64 64) := hd.size
  have Hd := Lib.hid hd
  have Ht := Lib.hid ht
  clear hd ht
  go_enter Tryd.func46, Tryd.ntmps46
  go_wp2_with fail
  refine (start_any _).mono ?_
  rintro e w1 ⟨rfl, hb1⟩
  have hd1 := Hd.out.below hb1
  have Hd1 := Lib.hid hd1
  have HK1 := Lib.hid hb1
  have hth := hd1.there 0 8 (by omega)
  clear hd1 hb1
  go_wp2_with (refine wpList_store_mid rfl 80 (.tmp 10) (.tmp 8) rfl b 0 #[W 0x6a09e667, W 0xbb67ae85, W 0x3c6ef372, W 0xa54ff53a, W 0x510e527f, W 0x9b05688c, W 0x1f83d9ab, W 0x5be0cd19] rfl rfl hth info52 (one_list start8) ?_)
  have hd2 : DgAt (w1.setCells b 0 (start8.list.map W)) b t start8 rest 64 := Hd1.out.put start8
  have hk2 : Kept1 b w (w1.setCells b 0 (start8.list.map W)) := Kept1.setCells b (Or.inl rfl) _ _ (Kept1.of_below HK1.out)
  have ht2 : Tab (w1.setCells b 0 (start8.list.map W)) := Ht.out.kept hk2 (Ne.symm hbn)
  have hw2 : w1.setCells b 0 [W 0x6a09e667, W 0xbb67ae85, W 0x3c6ef372, W 0xa54ff53a, W 0x510e527f, W 0x9b05688c, W 0x1f83d9ab, W 0x5be0cd19] = w1.setCells b 0 (start8.list.map W) := rfl
  rw [hw2]
  simp only [Act.put]
  generalize w1.setCells b 0 (start8.list.map W) = w2 at *
  have Hd := Lib.hid hd2
  have Ht := Lib.hid ht2
  have Hk2 := Lib.hid hk2
  clear hd2 ht2 hk2 hsz hth hw2
  refine wp_region_quiet_tailB 13 (by kernel_rfl) (by kernel_rfl) ?_
  simp only [List.take_succ_cons, List.take_zero, List.drop_succ_cons, List.drop_zero]
  iterate 4 (go_big_quiet_step (fail))
  refine wpQuiet_load_mid rfl 80 (.tmp 14) rfl b 0 rfl (start8.list.map W) _ (fun w' ⟨m, hw'⟩ => hw' ▸ (Hd.out.below m.below).words) Tryd.underlying80 rfl info52 ?_
  simp only [Act.put, List.setIfInBounds_toArray, List.set_cons_succ, List.set_cons_zero]
  iterate 3 (go_big_quiet_step (fail))
  refine wpQuiet_load_mid rfl 81 (.tmp 18) rfl b 8 rfl (rest.map B) _ (fun w' ⟨m, hw'⟩ => hw' ▸ (Hd.out.below m.below).rest) Tryd.underlying81 rfl (info53 _ (by simp [Hd.out.len])) ?_
  simp only [Act.put, List.setIfInBounds_toArray, List.set_cons_succ, List.set_cons_zero]
  iterate 4 (go_big_quiet_step ((first | (go_at_call 49; exact Calls.quiet_b (sched_any rest Hd.out.len _)) | (go_at_call 48; exact Calls.quiet_b (mixed_any start8 _ (length_plan _ _) _ (Ht.out.below (Bl.below _) Ht.out.size))))))
  refine wpQuiet_nil ?_
  intro m
  have hd1 := Hd.out.below m.below
  refine wpList_store_mid rfl 80 (.tmp 23) (.tmp 21) rfl b 0 ((mixW start8 rest).list.map W).toArray rfl rfl (hd1.there 0 8 (by omega)) info52 (one_list _) ?_
  have hk : Kept1 b w (m.wr.setCells b 0 ((mixW start8 rest).list.map W)) := Kept1.setCells b (Or.inl rfl) _ _ (Hk2.out.trans (Kept1.of_below m.below))
  have hp := hd1.put (mixW start8 rest)
  have HK := Lib.hid hk
  have HP := Lib.hid hp
  clear hk hp hd1
  go_wp2
  go_end0
  exact ⟨rfl, HP.out, HK.out⟩
end Go.Proofs.YtmegncaadglhmaaDoor
