/- A block taken into the words; What a stream that took bytes holds, as plain lists; Bytes put behind the rest, and each block that gets whole mixed. -/
import Derived.Test.YtlhfdlfbnnfjjaaDoorJ09
import Derived.Laws.CopyOwn
namespace Go.Proofs.YtlhfdlfbnnfjjaaDoor
open Go.RowKit

/-- a digest's cells -/
def dg (s : St8) (rest : List UInt8) (n : Nat) : List Value := s.list.map W ++ (rest.map B ++ [.int .u64 (n : Int)])
set_option maxRecDepth 100000 in
theorem length_dg (s : St8) (rest : List UInt8) (n : Nat) (h : rest.length = 64) : (dg s rest n).length = 73 := by simp [dg, St8.list, h]
/-- a digest lies in block b -/
structure DgAt (w : World) (b : Nat) (t : TypeId) (s : St8) (rest : List UInt8) (n : Nat) : Prop where
  len : rest.length = 64
  blk : w.heap[b]? = some (.cells (dg s rest n).toArray t (0, 0))
set_option maxRecDepth 100000 in
theorem DgAt.words {w : World} {b : Nat} {t : TypeId} {s : St8} {rest : List UInt8} {n : Nat} (h : DgAt w b t s rest n) : w.rangeAt b 0 (s.list.map W) := fun j v hv => by
  rw [cell_block h.blk]
  have hj : j < (s.list.map W).length := (List.getElem?_eq_some_iff.1 hv).1
  simp only [dg, List.getElem?_toArray, Nat.zero_add]
  rw [List.getElem?_append_left hj]; exact hv
set_option maxRecDepth 100000 in
theorem DgAt.rest {w : World} {b : Nat} {t : TypeId} {s : St8} {rest : List UInt8} {n : Nat} (h : DgAt w b t s rest n) : w.rangeAt b 8 (rest.map B) := fun j v hv => by
  rw [cell_block h.blk]
  have hj : j < (rest.map B).length := (List.getElem?_eq_some_iff.1 hv).1
  simp only [dg, List.getElem?_toArray]
  rw [List.getElem?_append_right (by simp [St8.list]), show 8 + j - (s.list.map W).length = j by simp [St8.list], List.getElem?_append_left hj]; exact hv
set_option maxRecDepth 100000 in
theorem DgAt.size {w : World} {b : Nat} {t : TypeId} {s : St8} {rest : List UInt8} {n : Nat} (h : DgAt w b t s rest n) : w.cell? ⟨b, 72, none⟩ = some (.int .u64 (n : Int)) := by
  rw [cell_block h.blk]
  simp only [dg, List.getElem?_toArray]
  rw [List.getElem?_append_right (by simp [St8.list]), List.getElem?_append_right (by simp [St8.list, h.len])]
  simp [St8.list, h.len]
set_option maxRecDepth 100000 in
theorem DgAt.kept {w w' : World} {b c : Nat} {t : TypeId} {s : St8} {rest : List UInt8} {n : Nat} (h : DgAt w b t s rest n) (hk : Kept1 c w w') (hb : b ≠ c) : DgAt w' b t s rest n :=
  ⟨h.len, (hk.block b (lt_block h.blk) hb).trans h.blk⟩
set_option maxRecDepth 100000 in
theorem DgAt.below {w w' : World} {b : Nat} {t : TypeId} {s : St8} {rest : List UInt8} {n : Nat} (h : DgAt w b t s rest n) (hk : Below w.heap.size w w') : DgAt w' b t s rest n :=
  ⟨h.len, (hk.block b (lt_block h.blk)).trans h.blk⟩
set_option maxRecDepth 100000 in
/-- other words -/
theorem DgAt.put {w : World} {b : Nat} {t : TypeId} {s : St8} {rest : List UInt8} {n : Nat} (h : DgAt w b t s rest n) (s' : St8) : DgAt (w.setCells b 0 (s'.list.map W)) b t s' rest n := by
  refine ⟨h.len, ?_⟩
  rw [heap_setCells b t (s'.list.map W) 0 _ _ h.blk (by rw [length_dg _ _ _ h.len]; simp [St8.list])]
  congr 2
set_option maxRecDepth 100000 in
theorem DgAt.there {w : World} {b : Nat} {t : TypeId} {s : St8} {rest : List UInt8} {n : Nat} (h : DgAt w b t s rest n) (o k : Nat) (hk : o + k ≤ 73) : w.there b o k :=
  there_block h.blk o k (by rw [length_dg _ _ _ h.len]; exact hk)

/-- the words at the beginning -/
def start8 : St8 := ⟨0x6a09e667, 0xbb67ae85, 0x3c6ef372, 0xa54ff53a, 0x510e527f, 0x9b05688c, 0x1f83d9ab, 0x5be0cd19⟩
/-- the words behind a block -/
def mixW (s : St8) (rest : List UInt8) : St8 := s.plus (rnds s (plan rest 64) 64)
set_option maxRecDepth 100000 in
theorem one_list (s : St8) : (s.list.map W).toArray.all (·.oneCell') = true := one_W _
set_option maxRecDepth 100000 in
theorem len_list (s : St8) : (s.list.map W).toArray.size = 8 := rfl
set_option maxRecDepth 100000 in
theorem info52 : (Tryd.prog.info? 138).map (·.size) = some 8 := by kernel_rfl
set_option maxRecDepth 100000 in
theorem info53 (n : Nat) (h : n = 64) : (Tryd.prog.info? 85).map (·.size) = some n := by subst h; kernel_rfl

set_option maxRecDepth 100000 in
theorem Tab.kept {w w' : World} {b : Nat} (h : Tab w) (hk : Kept1 b w w') (hb : 0 ≠ b) : Tab w' := fun k hk' => by rw [hk.cell (by exact h.size) (by exact hb)]; exact h k hk'

set_option maxRecDepth 100000 in
set_option maxHeartbeats 400000 in
theorem mix_some (w : World) (b : Nat) (t : TypeId) (s : St8) (rest : List UInt8) (n : Nat) (hd : DgAt w b t s rest n) (ht : Tab w) (hn : ((n : Int) == 64) = false) :
    Calls Tryd.prog 85 #[.pointer (some ⟨b, 0, none⟩)] w fun e w' => e = .returned (.tuple #[]) ∧ DgAt w' b t (mixW s rest) rest n ∧ Kept1 b w w' := by
  have hsz := hd.size
  have Hd := Lib.hid hd
  have Ht := Lib.hid ht
  clear hd ht
  go_enter Tryd.func85, Tryd.ntmps85
  go_wp2_with fail
  refine wp_region_quiet_tailB 13 (by kernel_rfl) (by kernel_rfl) ?_
  simp only [List.take_succ_cons, List.take_zero, List.drop_succ_cons, List.drop_zero]
  iterate 4 (go_big_quiet_step (fail))
  refine wpQuiet_load_mid rfl 138 (.tmp 14) rfl b 0 rfl (s.list.map W) _ (fun w' ⟨m, hw'⟩ => hw' ▸ (Hd.out.below m.below).words) Tryd.underlying138 rfl info52 ?_
  simp only [Act.put, List.setIfInBounds_toArray, List.set_cons_succ, List.set_cons_zero]
  iterate 3 (go_big_quiet_step (fail))
  refine wpQuiet_load_mid rfl 85 (.tmp 18) rfl b 8 rfl (rest.map B) _ (fun w' ⟨m, hw'⟩ => hw' ▸ (Hd.out.below m.below).rest) Tryd.underlying85 rfl (info53 _ (by simp [Hd.out.len])) ?_
  simp only [Act.put, List.setIfInBounds_toArray, List.set_cons_succ, List.set_cons_zero]
  iterate 4 (go_big_quiet_step ((first | (go_at_call 88; exact Calls.quiet_b (sched_any rest Hd.out.len _)) | (go_at_call 87; exact Calls.quiet_b (mixed_any s _ (length_plan _ _) _ (Ht.out.below (Bl.below _) Ht.out.size))))))
  refine wpQuiet_nil ?_
  intro m
  have hd1 := Hd.out.below m.below
  refine wpList_store_mid rfl 138 (.tmp 23) (.tmp 21) rfl b 0 ((mixW s rest).list.map W).toArray rfl rfl (hd1.there 0 8 (by omega)) info52 (one_list _) ?_
  have hk : Kept1 b w (m.wr.setCells b 0 ((mixW s rest).list.map W)) := Kept1.setCells b (Or.inl rfl) _ _ (Kept1.of_below m.below)
  have hp := hd1.put (mixW s rest)
  have HK := Lib.hid hk
  have HP := Lib.hid hp
  clear hk hp hd1
  go_wp2
  go_end0
  exact ⟨rfl, HP.out, HK.out⟩

set_option maxRecDepth 100000 in
set_option maxHeartbeats 400000 in
theorem mix_first (w : World) (b : Nat) (t : TypeId) (s : St8) (rest : List UInt8) (hd : DgAt w b t s rest 64) (ht : Tab w) (hbn : b ≠ 0) :
    Calls Tryd.prog 85 #[.pointer (some ⟨b, 0, none⟩)] w fun e w' => e = .returned (.tuple #[]) ∧ DgAt w' b t (mixW start8 rest) rest 64 ∧ Kept1 b w w' := by
  have hsz : w.cell? ⟨b, 72, none⟩ = some (.int .u64 64) := hd.size
  have Hd := Lib.hid hd
  have Ht := Lib.hid ht
  clear hd ht
  go_enter Tryd.func85, Tryd.ntmps85
  go_wp2_with fail
  refine (start_any _).mono ?_
  rintro e w1 ⟨rfl, hb1⟩
  have hd1 := Hd.out.below hb1
  have Hd1 := Lib.hid hd1
  have HK1 := Lib.hid hb1
  have hth := hd1.there 0 8 (by omega)
  clear hd1 hb1
  go_wp2_with (refine wpList_store_mid rfl 138 (.tmp 10) (.tmp 8) rfl b 0 #[W 0x6a09e667, W 0xbb67ae85, W 0x3c6ef372, W 0xa54ff53a, W 0x510e527f, W 0x9b05688c, W 0x1f83d9ab, W 0x5be0cd19] rfl rfl hth info52 (one_list start8) ?_)
  have hd2 : DgAt (w1.setCells b 0 (start8.list.map W)) b t start8 rest 64 := Hd1.out.put start8
  have hk2 : Kept1 b w (w1.setCells b 0 (start8.list.map W)) := Kept1.setCells b (Or.inl rfl) _ _ (Kept1.of_below HK1.out)
  have ht2 : Tab (w1.setCells b 0 (start8.list.map W)) := Ht.out.kept hk2 (Ne.symm hbn)
  have hw2 : w1.setCells b 0 [W 0x6a09e667, W 0xbb67ae85, W 0x3c6ef372, W 0xa54ff53a, W 0x510e527f, W 0x9b05688c, W 0x1f83d9ab, W 0x5be0cd19] = w1.setCells b 0 (start8.list.map W) := rfl
  rw [hw2]
  simp only [Act.put]
  generalize w1.setCells b 0 (start8.list.map W) = w2 at *
  have Hd := Lib.hid hd2
  have Ht := Lib.hid ht2
  have Hk2 := Lib.hid hk2
  clear hd2 ht2 hk2 hsz hth hw2
  refine wp_region_quiet_tailB 13 (by kernel_rfl) (by kernel_rfl) ?_
  simp only [List.take_succ_cons, List.take_zero, List.drop_succ_cons, List.drop_zero]
  iterate 4 (go_big_quiet_step (fail))
  refine wpQuiet_load_mid rfl 138 (.tmp 14) rfl b 0 rfl (start8.list.map W) _ (fun w' ⟨m, hw'⟩ => hw' ▸ (Hd.out.below m.below).words) Tryd.underlying138 rfl info52 ?_
  simp only [Act.put, List.setIfInBounds_toArray, List.set_cons_succ, List.set_cons_zero]
  iterate 3 (go_big_quiet_step (fail))
  refine wpQuiet_load_mid rfl 85 (.tmp 18) rfl b 8 rfl (rest.map B) _ (fun w' ⟨m, hw'⟩ => hw' ▸ (Hd.out.below m.below).rest) Tryd.underlying85 rfl (info53 _ (by simp [Hd.out.len])) ?_
  simp only [Act.put, List.setIfInBounds_toArray, List.set_cons_succ, List.set_cons_zero]
  iterate 4 (go_big_quiet_step ((first | (go_at_call 88; exact Calls.quiet_b (sched_any rest Hd.out.len _)) | (go_at_call 87; exact Calls.quiet_b (mixed_any start8 _ (length_plan _ _) _ (Ht.out.below (Bl.below _) Ht.out.size))))))
  refine wpQuiet_nil ?_
  intro m
  have hd1 := Hd.out.below m.below
  refine wpList_store_mid rfl 138 (.tmp 23) (.tmp 21) rfl b 0 ((mixW start8 rest).list.map W).toArray rfl rfl (hd1.there 0 8 (by omega)) info52 (one_list _) ?_
  have hk : Kept1 b w (m.wr.setCells b 0 ((mixW start8 rest).list.map W)) := Kept1.setCells b (Or.inl rfl) _ _ (Hk2.out.trans (Kept1.of_below m.below))
  have hp := hd1.put (mixW start8 rest)
  have HK := Lib.hid hk
  have HP := Lib.hid hp
  clear hk hp hd1
  go_wp2
  go_end0
  exact ⟨rfl, HP.out, HK.out⟩
end Go.Proofs.YtlhfdlfbnnfjjaaDoor
namespace Go.Proofs.YtlhfdlfbnnfjjaaDoor
open Go.RowKit

/-- the k-th block of 64 bytes -/
def blk (l : List UInt8) (k : Nat) : List UInt8 := (l.drop (64 * k)).take 64
/-- the words behind k blocks -/
def hw (l : List UInt8) : Nat → St8
  | 0 => start8
  | k + 1 => mixW (hw l k) (blk l k)
/-- what a stream's words are: none ahead of the first whole block -/
def wordsOf (l : List UInt8) : St8 := if l.length < 64 then ⟨0, 0, 0, 0, 0, 0, 0, 0⟩ else hw l (l.length / 64)
/-- bytes written over others from k on -/
def setR (rest : List UInt8) (k : Nat) (bs : List UInt8) : List UInt8 := rest.take k ++ (bs ++ rest.drop (k + bs.length))
set_option maxRecDepth 100000 in
theorem length_setR (rest : List UInt8) (k : Nat) (bs : List UInt8) (h : k + bs.length ≤ rest.length) : (setR rest k bs).length = rest.length := by simp [setR]; omega

set_option maxRecDepth 100000 in
theorem blk_append (l m : List UInt8) (k : Nat) (h : 64 * k + 64 ≤ l.length) : blk (l ++ m) k = blk l k := by
  unfold blk
  rw [List.drop_append_of_le_length (by omega), List.take_append_of_le_length (by simp; omega)]
set_option maxRecDepth 100000 in
theorem hw_append (l m : List UInt8) : ∀ k, 64 * k ≤ l.length → hw (l ++ m) k = hw l k
  | 0, _ => rfl
  | k + 1, h => by rw [hw, hw, hw_append l m k (by omega), blk_append l m k (by omega)]

/-- what the rest of a block is, and the words, when bytes have been taken -/
structure Took (l : List UInt8) (s : St8) (rest : List UInt8) : Prop where
  words : s = wordsOf l
  len : rest.length = 64
  rest : rest.take (l.length % 64) = l.drop (64 * (l.length / 64))

set_option maxRecDepth 100000 in
theorem took_part {l : List UInt8} {s : St8} {rest : List UInt8} (h : Took l s rest) (bs : List UInt8) (hb : l.length % 64 + bs.length < 64) : Took (l ++ bs) s (setR rest (l.length % 64) bs) := by
  have h1 : (l.length + bs.length) / 64 = l.length / 64 := by omega
  have h2 : (l.length + bs.length) % 64 = l.length % 64 + bs.length := by omega
  refine ⟨?_, by rw [length_setR _ _ _ (by rw [h.len]; omega)]; exact h.len, ?_⟩
  · rw [h.words]
    unfold wordsOf
    rw [List.length_append, h1]
    by_cases hl : l.length < 64
    · rw [if_pos hl, if_pos (by omega)]
    · rw [if_neg hl, if_neg (by omega), hw_append _ _ _ (by omega)]
  · rw [List.length_append, h1, h2, List.drop_append_of_le_length (by omega), ← h.rest]
    unfold setR
    rw [← List.append_assoc, List.take_append_of_le_length (by simp [h.len]; omega), List.take_of_length_le (by simp [h.len]; omega)]
set_option maxRecDepth 100000 in
theorem took_full {l : List UInt8} {s : St8} {rest : List UInt8} (h : Took l s rest) (bs : List UInt8) (hb : l.length % 64 + bs.length = 64) :
    Took (l ++ bs) (mixW (if l.length + bs.length = 64 then start8 else s) (setR rest (l.length % 64) bs)) (setR rest (l.length % 64) bs) := by
  have h1 : (l.length + bs.length) / 64 = l.length / 64 + 1 := by omega
  have h2 : (l.length + bs.length) % 64 = 0 := by omega
  refine ⟨?_, by rw [length_setR _ _ _ (by rw [h.len]; omega)]; exact h.len, ?_⟩
  · have e1 : setR rest (l.length % 64) bs = blk (l ++ bs) (l.length / 64) := by
      unfold setR blk
      rw [List.drop_append_of_le_length (by omega), ← h.rest, List.drop_of_length_le (by rw [h.len]; omega), List.append_nil]
      exact (List.take_of_length_le (by simp [h.len]; omega)).symm
    have e2 : wordsOf (l ++ bs) = mixW (hw (l ++ bs) (l.length / 64)) (blk (l ++ bs) (l.length / 64)) := by
      unfold wordsOf
      rw [List.length_append, h1, if_neg (by omega)]; rfl
    rw [e1, e2]
    congr 1
    by_cases hl : l.length + bs.length = 64
    · rw [if_pos hl, show l.length / 64 = 0 by omega]; rfl
    · rw [if_neg hl, h.words, hw_append _ _ _ (by omega)]
      unfold wordsOf
      rw [if_neg (by omega)]
  · rw [List.length_append, h1, h2, List.drop_of_length_le (by simp; omega)]; rfl
set_option maxRecDepth 100000 in
theorem took_none (rest : List UInt8) (h : rest.length = 64) : Took [] ⟨0, 0, 0, 0, 0, 0, 0, 0⟩ rest := ⟨rfl, h, rfl⟩

/-- a stream that took l lies in block b -/
structure Holds (w : World) (b : Nat) (t : TypeId) (l : List UInt8) : Prop where
  here : ∃ s rest, Took l s rest ∧ DgAt w b t s rest l.length
set_option maxRecDepth 100000 in
theorem Holds.kept {w w' : World} {b c : Nat} {t : TypeId} {l : List UInt8} (h : Holds w b t l) (hk : Kept1 c w w') (hb : b ≠ c) : Holds w' b t l := by
  obtain ⟨s, rest, h1, h2⟩ := h.here; exact ⟨s, rest, h1, h2.kept hk hb⟩
set_option maxRecDepth 100000 in
theorem Holds.below {w w' : World} {b : Nat} {t : TypeId} {l : List UInt8} (h : Holds w b t l) (hk : Below w.heap.size w w') : Holds w' b t l := by
  obtain ⟨s, rest, h1, h2⟩ := h.here; exact ⟨s, rest, h1, h2.below hk⟩
set_option maxRecDepth 100000 in
theorem Holds.lt {w : World} {b : Nat} {t : TypeId} {l : List UInt8} (h : Holds w b t l) : b < w.heap.size := by
  obtain ⟨s, rest, _, h2⟩ := h.here; exact lt_block h2.blk

set_option maxRecDepth 100000 in
/-- the block behind a copy into its rest -/
theorem DgAt.copy {w : World} {b : Nat} {t : TypeId} {s : St8} {rest : List UInt8} {n : Nat} (h : DgAt w b t s rest n) (k : Nat) (bs : List UInt8) (hk : k + bs.length ≤ 64) :
    DgAt (w.setRow b ((dg s rest n).toArray.toList.take (8 + k) ++ (bs.map B ++ (dg s rest n).toArray.toList.drop (8 + k + (bs.map B).length))).toArray) b t s (setR rest k bs) n := by
  refine ⟨by rw [length_setR _ _ _ (by rw [h.len]; exact hk)]; exact h.len, ?_⟩
  rw [setRow_heap w b _ _ t _ h.blk]
  congr 2
  simp only [dg, setR]
  have e1 : (s.list.map W).length = 8 := rfl
  rw [List.take_append, List.drop_append, e1, List.take_of_length_le (by omega), List.drop_of_length_le (by omega)]
  simp only [Nat.add_sub_cancel_left, List.nil_append]
  rw [show 8 + k + (bs.map B).length - 8 = k + bs.length by simp; omega]
  have e2 : (rest.map B).length = 64 := by simp [h.len]
  rw [List.take_append_of_le_length (by omega), List.drop_append_of_le_length (by omega)]
  simp [List.map_take, List.map_drop]
set_option maxRecDepth 100000 in
theorem DgAt.setSize {w : World} {b : Nat} {t : TypeId} {s : St8} {rest : List UInt8} {n : Nat} (h : DgAt w b t s rest n) (m : Nat) : DgAt (w.setCell ⟨b, 72, none⟩ (.int .u64 (m : Int))) b t s rest m := by
  refine ⟨h.len, ?_⟩
  rw [heap_setCell_same w b 72 _ t _ h.blk]
  congr 2
  simp only [dg, List.setIfInBounds_toArray]
  rw [List.set_append_right _ _ (by simp [St8.list]), List.set_append_right _ _ (by simp [St8.list, h.len])]
  simp [St8.list, h.len]
end Go.Proofs.YtlhfdlfbnnfjjaaDoor
namespace Go.Proofs.YtlhfdlfbnnfjjaaDoor
open Go.RowKit

/-- a slice value whose bytes are l; where there are any they lie in block g -/
structure BytesAt (w : World) (ad : Option Addr) (g o : Nat) (l : List UInt8) : Prop where
  at' : l ≠ [] → ad = some ⟨g, o, none⟩
  cell : ∀ j, (h : j < l.length) → w.cell? ⟨g, o + j, none⟩ = some (B (l[j]))
set_option maxRecDepth 100000 in
theorem BytesAt.kept {w w' : World} {ad : Option Addr} {g o c : Nat} {l : List UInt8} (h : BytesAt w ad g o l) (hk : Kept1 c w w') (hg : g ≠ c) : BytesAt w' ad g o l :=
  ⟨h.at', fun j hj => by rw [hk.cell (block_lt_of_cell (h.cell j hj)) hg]; exact h.cell j hj⟩

set_option maxRecDepth 100000 in
/-- 'b[n:]' -/
theorem slice_from (ad : Option Addr) (g o len cap n : Nat) (hn : n ≤ len) (hc : len ≤ cap) (had : ad = some ⟨g, o, none⟩) : ∃ ad', (n < len → ad' = some ⟨g, o + n, none⟩) ∧
    ∀ w, (Instr.sliceAt 32 (.slice ad len cap) (some (.int .i64 (n : Int))) none none).run Tryd.prog w = .ok (.slice ad' (len - n) (cap - n)) w := by
  refine ⟨if cap = n then ad else some ⟨g, o + n, none⟩, fun h => by rw [if_neg (by omega)], fun w => ?_⟩
  have e3 : ∀ w, (sizeOf 5).run Tryd.prog w = .ok 1 w := fun _ => by kernel_rfl
  have e1 : Tryd.prog.elem 32 = 5 := by kernel_rfl
  rw [run_sliceAt_slice (P := Tryd.prog) w 32 _ _ _ _ (by kernel_rfl), run_slice_l (P := Tryd.prog) w 32 ad len cap (by kernel_rfl) .i64 n (by omega) (by omega), e1, e3]
  subst had
  simp [sliced, Result.andThen, Addr.add_mid]

set_option maxRecDepth 100000 in
theorem slice64u (g o l : Nat) (x : Int) (hx : x = l) (hl : l < 64) (w : World) : (Instr.sliceAt 85 (.pointer (some ⟨g, o, none⟩)) (some (.int .u64 x)) none none).run Tryd.prog w = .ok (.slice (some ⟨g, o + l, none⟩) (64 - l) (64 - l)) w := by
  subst hx
  rw [run_sliceAt_array_l (P := Tryd.prog) w 85 ⟨g, o, none⟩ (by kernel_rfl) .u64 l (by omega) (by show (l : Int) ≤ 64; omega)]
  have e1 : Tryd.prog.elem 85 = 5 := by kernel_rfl
  have e2 : Tryd.prog.arrayLen 85 = 64 := by kernel_rfl
  have e3 : ∀ w, (sizeOf 5).run Tryd.prog w = .ok 1 w := fun _ => by kernel_rfl
  rw [e1, e2, e3]
  simp [slicedAt, Result.andThen, Addr.add_mid, show ¬ 64 = l by omega]
set_option maxRecDepth 100000 in
theorem info5 : (Tryd.prog.info? 5).map (·.size) = some 1 := by kernel_rfl

def sliceLen : Value → Nat | .slice _ n _ => n | _ => 0
set_option maxRecDepth 100000 in
theorem mix_any (w : World) (b : Nat) (t : TypeId) (s : St8) (rest : List UInt8) (n : Nat) (hd : DgAt w b t s rest n) (ht : Tab w) (hbn : b ≠ 0) :
    Calls Tryd.prog 85 #[.pointer (some ⟨b, 0, none⟩)] w fun e w' => e = .returned (.tuple #[]) ∧ DgAt w' b t (mixW (if n = 64 then start8 else s) rest) rest n ∧ Kept1 b w w' := by
  by_cases hn : n = 64
  · subst hn; rw [if_pos rfl]; exact mix_first w b t s rest hd ht hbn
  · rw [if_neg hn]; exact mix_some w b t s rest n hd ht (by simp; omega)
set_option maxRecDepth 100000 in
theorem slice_val {a b : Option Addr} {n n' c c' : Nat} (h1 : a = b) (h2 : n = n') (h3 : c = c') : Value.slice a n c = Value.slice b n' c' := by subst h1 h2 h3; rfl

set_option maxRecDepth 100000 in
set_option maxHeartbeats 1000000 in
theorem take_any (w : World) (b : Nat) (t : TypeId) (l0 l1 : List UInt8) (ad : Option Addr) (g o cap : Nat) (hh : Holds w b t l0) (ht : Tab w) (hbn : b ≠ 0)
    (hs : BytesAt w ad g o l1) (hg : g ≠ b) (hc : l1.length ≤ cap) (hm : l0.length + l1.length ≤ 1000000000000) :
    Calls Tryd.prog 83 #[.pointer (some ⟨b, 0, none⟩), .slice ad l1.length cap] w fun e w' => e = .returned (.tuple #[]) ∧ Holds w' b t (l0 ++ l1) ∧ Kept1 b w w' := by
  go_enter Tryd.func83, Tryd.ntmps83
  go_wp2_with fail
  go_loopw [1] (fun v wr => ∃ (j : Nat) (ad' : Option Addr), j ≤ l1.length ∧ v = .slice ad' (l1.length - j) (cap - j) ∧ (j < l1.length → ad' = some ⟨g, o + j, none⟩) ∧ Holds wr b t (l0 ++ l1.take j) ∧ Kept1 b w wr) (fun v _ => sliceLen v)
  case atStart => exact ⟨0, ad, by omega, rfl, fun h => hs.at' (by intro e; simp [e] at h), by simpa using hh, Kept1.refl _ _⟩
  case round =>
    obtain ⟨j, ad', hj, rfl, had, hr, hk⟩ := hrel
    by_cases hlt : j < l1.length
    · obtain ⟨s, rest, htk, hdg⟩ := hr.here
      have hlen : (l0 ++ l1.take j).length = l0.length + j := by simp; omega
      rw [hlen] at hdg
      obtain rfl := had hlt
      obtain ⟨n, hn⟩ : ∃ n, n = l0.length + j := ⟨_, rfl⟩
      rw [← hn] at hdg hlen
      obtain ⟨rem, hrem⟩ : ∃ rem, rem = l1.length - j := ⟨_, rfl⟩
      obtain ⟨cr, hcr⟩ : ∃ cr, cr = cap - j := ⟨_, rfl⟩
      rw [← hrem, ← hcr]
      obtain ⟨k, hk64⟩ : ∃ k, k = n % 64 := ⟨_, rfl⟩
      have hkl : k < 64 := by omega
      obtain ⟨m, hmm⟩ : ∃ m, m = Nat.min rem (64 - k) := ⟨_, rfl⟩
      have hm0 : 0 < m := by rw [hmm]; simp [Nat.min_def]; split <;> omega
      have hm1 : m ≤ rem := by rw [hmm]; exact Nat.min_le_left _ _
      have hm2 : m ≤ 64 - k := by rw [hmm]; exact Nat.min_le_right _ _
      obtain ⟨bs, hbs⟩ : ∃ bs, bs = (l1.drop j).take m := ⟨_, rfl⟩
      have hbl : bs.length = m := by rw [hbs]; simp; omega
      have hsrc : ∀ i v, (bs.map B)[i]? = some v → wr.cell? ((⟨g, o + j, none⟩ : Addr).add i) = some v := by
        intro i v hv
        obtain ⟨hi, rfl⟩ := List.getElem?_eq_some_iff.1 hv
        have hi' : i < m := by simpa [hbl] using hi
        have := hs.cell (j + i) (by omega)
        rw [Addr.add_mid, hk.cell (by rw [show o + j + i = o + (j + i) by omega]; exact block_lt_of_cell this) hg, Nat.add_assoc, this]
        simp [hbs]
      have hsz := hdg.size
      have hpos : decide ((0 : Int) < (rem : Int)) = true := by simp; omega
      have hsl := slice64u b 8 k (((n : Int) % 64)) (by omega)  hkl
      have hw1 : n ≤ 1000000000000 := by omega
      have hw2 : rem ≤ 1000000000000 := by omega
      have Htk := Lib.hid htk
      have Hdg := Lib.hid hdg
      have Hlen := Lib.hid hlen
      have Hn := Lib.hid hn
      have Hrem := Lib.hid hrem
      have Hcr := Lib.hid hcr
      have Hk64 := Lib.hid hk64
      have Hmm := Lib.hid hmm
      have Hbs := Lib.hid hbs
      have Hbl := Lib.hid hbl
      have Hk := Lib.hid hk
      have Hr := Lib.hid hr
      have Hsrc := Lib.hid hsrc
      clear htk hdg hlen hn hrem hcr hk64 hmm hbs hbl hk hr hsrc had
      go_wp2_with fail
      refine wp_region_quiet_tail 10 (by kernel_rfl) (by kernel_rfl) ?_
      simp only [List.take_succ_cons, List.take_zero, List.drop_succ_cons, List.drop_zero]
      iterate 10 (go_big_quiet_step (fail))
      refine wpQuiet_nil ?_
      intro q
      have hblk : (wr.drewN q).heap[b]? = some (.cells (dg s rest n).toArray t (0, 0)) := Hdg.out.blk
      refine wpList_copy_own rfl (.tmp 16) (.tmp 17) 32 32 rfl 5 Tryd.underlying32 info5 b (8 + k) (64 - k) (64 - k) ⟨g, o + j, none⟩ rem cr rfl rfl (dg s rest n).toArray t hblk (bs.map B) (by simp [Hbl.out, Hmm.out]) Hsrc.out (by simp [length_dg _ _ _ Hdg.out.len, Hbl.out]; omega) (by intro v hv; obtain ⟨x, _, rfl⟩ := List.mem_map.1 hv; rfl) ?_
      have hd2 := (DgAt.copy (w := wr.drewN q) ⟨Hdg.out.len, hblk⟩ k bs (by rw [Hbl.out]; omega))
      have hk2 : Kept1 b wr ((wr.drewN q).setRow b ((dg s rest n).toArray.toList.take (8 + k) ++ (bs.map B ++ (dg s rest n).toArray.toList.drop (8 + k + (bs.map B).length))).toArray) := Kept1.setRow ((Kept1.refl _ _).drewN q) b (Or.inl rfl) _
      rw [show goInt (bs.map B).length = .int .i64 (m : Int) by simp [goInt, Hbl.out]]
      generalize (wr.drewN q).setRow b ((dg s rest n).toArray.toList.take (8 + k) ++ (bs.map B ++ (dg s rest n).toArray.toList.drop (8 + k + (bs.map B).length))).toArray = w2 at *
      generalize hR : setR rest k bs = rest2 at *
      have HR := Lib.hid hR
      have hsz2 := hd2.size
      have hfr2 := frozen_of_row w2 b 72 _ _ hd2.blk
      obtain ⟨ad2, had2, hsl2⟩ := slice_from (some ⟨g, o + j, none⟩) g (o + j) rem cr m hm1 (by have := Hrem.out; have := Hcr.out; omega) rfl
      have Hd2 := Lib.hid hd2
      have Hk2 := Lib.hid hk2
      have Had2 := Lib.hid had2
      clear hR hd2 hk2 had2 hblk hsl hsz
      have hd3 : DgAt (w2.setCell ⟨b, 72, none⟩ (.int .u64 ((n : Int) + (m : Int)))) b t s rest2 (n + m) := Hd2.out.setSize (n + m)
      have hk3 : Kept1 b w (w2.setCell ⟨b, 72, none⟩ (.int .u64 ((n : Int) + (m : Int)))) := (Hk.out.trans Hk2.out).setCell _ (Or.inl rfl) _
      have Hd3 := Lib.hid hd3
      have Hk3 := Lib.hid hk3
      clear hd3 hk3
      have hsplit : l0 ++ l1.take (j + m) = (l0 ++ l1.take j) ++ bs := by rw [Hbs.out, List.take_add, List.append_assoc]
      have Hsplit := Lib.hid hsplit
      clear hsplit
      by_cases hfull : (n + m) % 64 = 0
      · have hB : ((((n : Int) + (m : Int)) % 64) == 0) = true := by simp; omega
        go_wp2_with fail
        refine (mix_any _ b t s rest2 (n + m) Hd3.out (ht.kept Hk3.out (Ne.symm hbn)) hbn).mono ?_
        rintro e w4 ⟨rfl, hd4, hk4⟩
        have Hd4 := Lib.hid hd4
        have Hk4 := Lib.hid hk4
        clear hd4 hk4
        go_wp2_with fail
        go_roundw
        case rel =>
          refine ⟨j + m, ad2, ?_, slice_val rfl ?_ ?_, ?_, ?_, Hk3.out.trans Hk4.out⟩
          · have := Hrem.out; omega
          · have := Hrem.out; omega
          · have := Hcr.out; omega
          · intro h; rw [Had2.out (by have := Hrem.out; omega)]; congr 2; omega
          · have htf := took_full Htk.out bs (by rw [Hlen.out, Hbl.out]; have := Hk64.out; omega)
            rw [Hlen.out, ← Hk64.out, Hbl.out, HR.out, ← Hsplit.out] at htf
            refine ⟨_, _, htf, ?_⟩
            rw [Hsplit.out, List.length_append, Hlen.out, Hbl.out]
            exact Hd4.out
        case measure => simp only [sliceLen]; omega
      · have hB : ((((n : Int) + (m : Int)) % 64) == 0) = false := by simp; omega
        go_wp2_with fail
        go_roundw
        case rel =>
          refine ⟨j + m, ad2, ?_, slice_val rfl ?_ ?_, ?_, ?_, Hk3.out⟩
          · have := Hrem.out; omega
          · have := Hrem.out; omega
          · have := Hcr.out; omega
          · intro h; rw [Had2.out (by have := Hrem.out; omega)]; congr 2; omega
          · have htp := took_part Htk.out bs (by rw [Hlen.out, Hbl.out]; have := Hk64.out; omega)
            rw [Hlen.out, ← Hk64.out, HR.out, ← Hsplit.out] at htp
            refine ⟨_, _, htp, ?_⟩
            rw [Hsplit.out, List.length_append, Hlen.out, Hbl.out]
            exact Hd3.out
        case measure => simp only [sliceLen]; omega
    · obtain rfl : j = l1.length := by omega
      have hpos : decide ((0 : Int) < ((l1.length - l1.length : Nat) : Int)) = false := by simp
      rw [List.take_length] at hr
      have Hr := Lib.hid hr
      have Hk := Lib.hid hk
      clear hr hk had hlt hj
      go_wp2_with fail
      go_end0
      exact ⟨rfl, Hr.out, Hk.out⟩
end Go.Proofs.YtlhfdlfbnnfjjaaDoor
