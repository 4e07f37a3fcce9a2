/- DiskOwn: what is handed in, and told, are bytes of their own: the walk. -/
import Derived.Test.YtammnjfccjfbhaaDWrite
namespace Go.Proofs.Ytammnjfccjfbhaa
open Go.RowKit

theorem Wrote.below {w0 w w' : World} {N d gs : Nat} {v v' : Value} {s s0 : DSt} (h : Wrote w N d gs v s v' w') (h0 : DAt w N d gs v s0) (hb : Below N w0 w) (hN : N ≤ w0.heap.size) : Below N w0 w' :=
  KeptF.mono hb h.kept hN fun _ hF => (h0.footN hF).1
set_option maxRecDepth 100000 in
set_option maxHeartbeats 1000000 in
theorem awake_any (w : World) : Calls Try.prog 8 #[] w fun e w' => e = .returned (.bool true) ∧ Below w.heap.size w w' := by
  go_enter Try.func8, Try.ntmps8
  go_wp2_with fail
  refine (new_any w 3).mono ?_
  rintro e w1 ⟨rfl, D1, b1, z1⟩
  rw [show secN 3 = 3 from rfl] at D1
  have hl : (DSt.new 3).S.length = 3 := rfl
  have hw : (DSt.new 3).ws.length = 0 := rfl
  have HD := Lib.hid D1
  have HB := Lib.hid b1
  have HL := Lib.hid hl
  have Hz := Lib.hid z1
  have S3 : Hid (Calls Try.prog 20 #[.pointer (some ⟨w.heap.size + 1, 0, none⟩)] w1 fun e w' => e = .returned (.int .i64 3) ∧ w1 = w') := Lib.hid (by
    have := sectors_any w1 _ _ _ _ _ D1
    rwa [hl] at this)
  clear D1 b1 hl hw z1
  go_wp2_with fail
  refine S3.out.mono ?_
  rintro e w' ⟨rfl, rfl⟩
  have hza : (w1.alloc (.cells (z64.map B).toArray 5)).heap[w1.heap.size]? = some (.cells (z64.map B).toArray 5 (0, 0)) := heap_alloc_new _ _
  have hA : Below w1.heap.size w1 (w1.alloc (.cells (z64.map B).toArray 5)) := (Below.refl _ _).alloc (Nat.le_refl _) _
  have DA := HD.out.below hA
  have W4 := Lib.hid (write_any _ _ _ _ _ _ DA rfl 1 (by rw [HL.out]; omega) z64 rfl w1.heap.size 0 64 (range_block0 hza) (by simp) (by simp [DSt.new]) (by simp [DSt.new]))
  have HDA := Lib.hid DA
  have HBA := Lib.hid (HB.out.trans (hA.mono HB.out.size))
  have hm := run_make64
  clear hza hA DA
  generalize (z64.map B) = Z at *
  go_wp2_with fail
  refine W4.out.mono ?_
  rintro e w2 ⟨rfl, v', hW⟩
  have HW := Lib.hid hW
  have W5 : Hid (Calls Try.prog 18 #[.pointer (some ⟨w.heap.size + 1, 0, none⟩)] w2 fun e w' => e = .returned (.int .i64 1) ∧ w2 = w') := Lib.hid (waits_any w2 _ _ _ _ _ hW.at')
  have HB2 := Lib.hid (hW.below HDA.out HBA.out (Nat.le_refl _))
  clear hW hm W4
  go_wp2_with fail
  refine W5.out.mono ?_
  rintro e w' ⟨rfl, rfl⟩
  go_wp2_with fail
  go_ret
  exact ⟨rfl, HB2.out⟩

theorem cell_sec {w : World} {g : Nat} {t : TypeId} {fr : Nat × Nat} {c : UInt8} (h : w.heap[g]? = some (.cells ((sec64 c).map B).toArray t fr)) (k : Nat) (hk : k < 64) : w.cell? ⟨g, k, none⟩ = some (B c) := by
  rw [cell_block h, List.getElem?_toArray]
  rw [List.getElem?_map, sec64, List.getElem?_replicate, if_pos hk]; rfl
set_option maxRecDepth 100000 in
set_option maxHeartbeats 1000000 in
theorem own_any (w : World) (c : UInt8) : Calls Try.prog 6 #[B c] w fun e w' => e = .returned (.bool true) ∧ Below w.heap.size w w' := by
  go_enter Try.func6, Try.ntmps6
  go_wp2_with fail
  refine (new_any w 1).mono ?_
  rintro e w1 ⟨rfl, D1, b1, -⟩
  rw [show secN 1 = 1 from rfl] at D1
  have HD := Lib.hid D1
  have HB := Lib.hid b1
  clear D1 b1
  go_wp2_with fail
  refine (awake_any w1).mono ?_
  rintro e w2 ⟨rfl, b2⟩
  have HD2 := Lib.hid (HD.out.below b2)
  have HB2 := Lib.hid (HB.out.trans (b2.mono HB.out.size))
  clear b2 HD HB
  go_wp2_with fail
  refine (sector_any w2 c).mono ?_
  rintro e w3 ⟨rfl, b3, hx, -⟩
  have HD3 := Lib.hid (HD2.out.below b3)
  have HB3 := Lib.hid (HB2.out.trans (b3.mono HB2.out.size))
  have hxlt : w2.heap.size < w3.heap.size := lt_block hx
  have HW := Lib.hid (write_any w3 _ _ _ _ _ HD3.out rfl 0 (by simp [DSt.new]) (sec64 c) (length_sec64 c) w2.heap.size 0 64 (range_block0 hx) hxlt (by simp [DSt.new]) (by simp [DSt.new]))
  have HX := Lib.hid hx
  have hft : ∀ k, foot (w.heap.size + 1) w.heap.size (.slice none 0 0) k → k < w2.heap.size := fun k hk => (HD2.out.footN hk).2
  have HF := Lib.hid hft
  clear b3 hx hft
  go_wp2_with fail
  refine HW.out.mono ?_
  rintro e w4 ⟨rfl, v', hw⟩
  have hx4 : w4.heap[w2.heap.size]? = some (.cells ((sec64 c).map B).toArray 5 (0, 0)) := hw.kept.heap HX.out (fun hF => by have := HF.out _ hF; omega)
  have cx := cell_sec hx4 5 (by omega)
  have fx := frozen_of_row w4 w2.heap.size 5 _ _ hx4
  have hv : ∀ k, v'.ownBlock = some k → w3.heap.size ≤ k := fun k hk => (hw.own k hk).resolve_left (fun e => by cases e)
  have hnx : ∀ k, foot (w.heap.size + 1) w.heap.size v' k → k ≠ w2.heap.size := fun k hk e => by
    subst e
    rcases hk with hk | hk | hk
    · have := HF.out _ (.inl hk); omega
    · have := HF.out _ (.inr (.inl hk)); omega
    · have := hv _ hk; omega
  have hk5 : Kept1 w2.heap.size w4 (w4.setCell ⟨w2.heap.size, 5, none⟩ (.int .u8 (((c.toNat : Int) + 1) % 256))) := (Kept1.refl w2.heap.size w4).setCell ⟨w2.heap.size, 5, none⟩ (.inl rfl) _
  have D5 := hw.at'.same fun k hk => hk5.block k (hw.at'.footN hk).2 (hnx k hk)
  have HB4 := hw.below HD3.out HB3.out (Nat.le_refl _)
  have HD5 := Lib.hid D5
  have HB5 := Lib.hid (Kept1.mono (HB4.mono (Nat.le_refl _)) hk5 HB2.out.size)
  have R5 := Lib.hid (read_any _ _ _ _ _ _ D5 rfl 0 (by simp [DSt.wrote, DSt.burnt, DSt.new]) (sec64 c) (by simp [DSt.wrote, DSt.burnt, DSt.new]))
  clear hx4 hv hnx hk5 D5 HB4 HX HW hw
  simp only [B] at *
  go_wp2_with fail
  generalize World.setCell w4 _ _ = w5 at *
  refine R5.out.mono ?_
  rintro e w6 ⟨rfl, b6, hy, z6⟩
  have HD6 := Lib.hid (HD5.out.below b6)
  have HB6 := Lib.hid (HB5.out.trans (b6.mono HB5.out.size))
  have c5 := cell_sec hy 5 (by omega)
  have c6 := cell_sec hy 6 (by omega)
  have f6 := frozen_of_row w6 w5.heap.size 6 _ _ hy
  have hk7 : Kept1 w5.heap.size w6 (w6.setCell ⟨w5.heap.size, 6, none⟩ (.int .u8 (((c.toNat : Int) + 1) % 256))) := (Kept1.refl w5.heap.size w6).setCell ⟨w5.heap.size, 6, none⟩ (.inl rfl) _
  have D7 := HD6.out.same fun k hk => hk7.block k (HD6.out.footN hk).2 (by have := (HD5.out.footN hk).2; omega)
  have HB7 := Lib.hid (Kept1.mono (HB6.out.mono (Nat.le_refl _)) hk7 HB5.out.size)
  have R7 := Lib.hid (read_any _ _ _ _ _ _ D7 rfl 0 (by simp [DSt.wrote, DSt.burnt, DSt.new]) (sec64 c) (by simp [DSt.wrote, DSt.burnt, DSt.new]))
  clear b6 hy z6 hk7 D7 R5
  simp only [B] at *
  go_wp2_with fail
  generalize World.setCell w6 _ _ = w7 at *
  refine R7.out.mono ?_
  rintro e w8 ⟨rfl, b8, hz, z8⟩
  have c8 := cell_sec hz 6 (by omega)
  have HB8 := Lib.hid (HB7.out.trans (b8.mono HB7.out.size))
  simp only [B] at *
  clear b8 hz z8 R7
  go_wp2_with fail
  go_ret
  exact ⟨rfl, HB8.out⟩
end Go.Proofs.Ytammnjfccjfbhaa
