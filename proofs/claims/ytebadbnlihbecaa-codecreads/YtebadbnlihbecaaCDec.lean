/- P3.3: Decode; and that the program is awake. -/
import Derived.Test.YtebadbnlihbecaaCEnc
namespace Go.Proofs.Ytebadbnlihbecaa
open Go.RowKit

/-- whether these bytes are a value's -/
def decOk (l : List UInt8) : Bool := overM (readS (some ⟨l.toArray⟩))
def decE (l : List UInt8) : Int := if decOk l = true then 0 else 2
theorem decOk_val {l : List UInt8} (h : decOk l = true) : valOk (some ⟨l.toArray⟩) = true := by
  unfold decOk overM at h
  rw [Bool.and_eq_true] at h
  have h1 := h.1
  unfold readS at h1
  unfold valOk
  cases hf : readF (some ⟨l.toArray⟩)
  · rw [hf] at h1; cases h1
  · rw [hf] at h1
    simpa using h1

set_option maxRecDepth 100000 in
set_option maxHeartbeats 2000000 in
theorem decode_any (w : World) (v : Value) (l : List UInt8) (hl : l.length ≤ maxLen) (hv : BSrc w v l) :
    Calls Try.prog 27 #[v] w fun e w' => ∃ y ly, e = .returned (.tuple #[y.v, .int .i64 (decE l)]) ∧ Full w' y ly ∧ (decOk l = true → y.k = (rawV (some ⟨l.toArray⟩)).1.1.k ∧ y.i = (rawV (some ⟨l.toArray⟩)).1.1.i ∧ y.s = (rawV (some ⟨l.toArray⟩)).1.1.s ∧ ly = (rawV (some ⟨l.toArray⟩)).1.2) ∧ (decOk l = false → y = ⟨0, 0, ⟨#[]⟩, none, 0, 0⟩ ∧ ly = []) ∧ Below w.heap.size w w' := by
  obtain ⟨ad, cp, rfl⟩ := hv.shape
  obtain ⟨W1, hW1⟩ : ∃ W1, w.alloc (.cells #[.int .i64 0, .int .i64 0, .string ⟨#[]⟩, .slice none 0 0] 33) = W1 := ⟨_, rfl⟩
  have hB : Below w.heap.size w W1 := by rw [← hW1]; exact (Below.refl _ _).alloc (Nat.le_refl _) _
  have hz : W1.heap[w.heap.size]? = some (.cells #[.int .i64 0, .int .i64 0, .string ⟨#[]⟩, .slice none 0 0] 33 (0, 0)) := by rw [← hW1]; exact heap_alloc_new _ _
  have R := Lib.hid (read_any W1 _ l hl (hv.below hB))
  have HW1 := Lib.hid hW1
  have HB1 := Lib.hid hB
  have HZ1 := Lib.hid hz
  have hl1 : w.heap.size < W1.heap.size := lt_block hz
  clear hW1 hB hz hv hl
  go_enter Try.func27, Try.ntmps27
  go_wp2_with fail
  rw [HW1.out]
  refine R.out.mono ?_
  rintro e w2 ⟨rfl, ht2, hb2⟩
  obtain ⟨t, hte⟩ : ∃ t, W1.heap.size = t := ⟨_, rfl⟩
  rw [hte] at ht2 hl1 ⊢
  have HB2 := Lib.hid (HB1.out.trans (hb2.mono HB1.out.size))
  have HZ2 := Lib.hid ((hb2.block _ (lt_block HZ1.out)).trans HZ1.out)
  have VV := Lib.hid (inValue_any w2 t 69 _ ht2)
  have ht2l := ht2.lt
  clear ht2 hb2 R hte HZ1 HB1 HW1
  have DV := Lib.hid (decOk_val (l := l))
  have DD : Hid (decOk l = overM (readS (some ⟨l.toArray⟩))) := Lib.hid rfl
  go_wp2_with fail
  refine VV.out.mono ?_
  rintro e w3 ⟨y, ly, rfl, hfl, hok, hno, hna, ht3, hk3⟩
  have HNZ : Hid (NotIn y ly w.heap.size) := Lib.hid (hna _ (by omega))
  have HZ3 := Lib.hid ((hk3.block _ (lt_block HZ2.out) (by omega)).trans HZ2.out)
  have HB3 : Hid (Below w.heap.size w w3) := Lib.hid (kept_below HB2.out (by omega) hk3)
  have HFL := Lib.hid hfl
  have HOK := Lib.hid hok
  have HT3 := Lib.hid ht3
  have hl3 : t < w3.heap.size := ht3.lt
  have hl3z : w.heap.size < w3.heap.size := lt_block HZ3.out
  clear hfl hok hno hna ht3 hk3 VV HZ2 HB2
  unfold Val.v V
  obtain ⟨W4, hW4⟩ : ∃ W4, w3.alloc (.cells #[.int .i64 y.k, .int .i64 y.i, .string y.s, .slice y.a y.n y.c] 33) = W4 := ⟨_, rfl⟩
  have hb4 : Below w3.heap.size w3 W4 := by rw [← hW4]; exact (Below.refl _ _).alloc (Nat.le_refl _) _
  have hy4 : W4.heap[w3.heap.size]? = some (.cells #[.int .i64 y.k, .int .i64 y.i, .string y.s, .slice y.a y.n y.c] 33 (0, 0)) := by rw [← hW4]; exact heap_alloc_new _ _
  have O := Lib.hid (over_any W4 t 69 _ (HT3.out.below hb4))
  have HW4 := Lib.hid hW4
  have HB4 := Lib.hid (HB3.out.trans (hb4.mono HB3.out.size))
  have HFL4 := Lib.hid (HFL.out.below hb4)
  have hz4 := (hb4.block _ (lt_block HZ3.out)).trans HZ3.out
  obtain ⟨y0, y1, y2, y3⟩ := cells4 hy4 ⟨W4, Below.refl _ _⟩
  obtain ⟨z0, z1, z2, z3⟩ := cells4 hz4 ⟨W4, Below.refl _ _⟩
  dsimp only at y0 y1 y2 y3 z0 z1 z2 z3
  have zf : ∀ o, W4.frozen? ⟨w.heap.size, o, none⟩ = false := fun o => by simp [World.frozen?, hz4]
  have hl4 : w.heap.size < W4.heap.size := lt_block hz4
  have hl43 : w3.heap.size < W4.heap.size := lt_block hy4
  clear hW4 hb4 hy4 hz4 HB3 HFL HZ3 HT3
  go_wp2_with fail
  rw [HW4.out]
  refine O.out.mono ?_
  rintro e w5 ⟨rfl, rfl⟩
  rw [← DD.out]
  clear O
  obtain ⟨dk, hdk⟩ : ∃ dk, decOk l = dk := ⟨_, rfl⟩
  have HDK := Lib.hid hdk
  have HDE : Hid (decE l = if dk = true then 0 else 2) := Lib.hid (by rw [← hdk]; rfl)
  rw [hdk]
  clear hdk
  cases dk
  · go_wp2_with fail
    refine bodyPost_ret (v := .tuple #[(⟨0, 0, ⟨#[]⟩, none, 0, 0⟩ : Val).v, .int .i64 2]) (by simp [results, Try.results27, go_sem, z0, z1, z2, z3, Val.v, V]) rfl ?_
    exact ⟨_, [], by rw [HDE.out]; rfl, full_zero _, (fun h => by rw [HDK.out] at h; cases h), (fun _ => ⟨rfl, rfl⟩), below_set4 HB4.out _ (Nat.le_refl _) _ _ _ _⟩
  · go_wp2_with fail
    refine bodyPost_ret (v := .tuple #[y.v, .int .i64 0]) (by simp [results, Try.results27, go_sem, z0, z1, z2, z3, Val.v, V]) rfl ?_
    exact ⟨y, ly, by rw [HDE.out]; rfl, full_set4 HFL4.out HNZ.out _ _ _ _, (fun h => HOK.out (DV.out h)), (fun h => by rw [HDK.out] at h; cases h), below_set4 HB4.out _ (Nat.le_refl _) _ _ _ _⟩

theorem one_encB : encB ⟨2, -1, ⟨#[]⟩, none, 0, 0⟩ [] = [2, 255, 255, 255, 255, 255, 255, 255, 255] := by decide +kernel
theorem one_encE : encE ⟨2, -1, ⟨#[]⟩, none, 0, 0⟩ [] = 0 := by decide +kernel
set_option maxHeartbeats 1000000 in
theorem awake_any (w : World) : Calls Try.prog 8 #[] w fun e w' => e = .returned (.bool true) ∧ Below w.heap.size w w' := by
  have E := encode_any w ⟨2, -1, ⟨#[]⟩, none, 0, 0⟩ [] ⟨⟨0, 0, listAt_nil0 _ _⟩, rfl, Nat.zero_le _, Nat.zero_le _⟩
  rw [one_encB, one_encE] at E
  have HE := Lib.hid E
  clear E
  go_enter Try.func8, Try.ntmps8
  go_wp2_with fail
  refine HE.out.mono ?_
  rintro e w1 ⟨v, rfl, hs, hb⟩
  have HB := Lib.hid hb
  clear HE hb
  rcases hs with ⟨ad, cp, rfl, hn⟩ | ⟨g, o, cp, rfl, hc⟩
  · cases hn
  · have c8 := hc 8 (by decide)
    have hl : g < w1.heap.size := block_lt_of_cell c8
    clear hc
    simp at c8
    go_wp2_with fail
    go_ret
    exact ⟨rfl, HB.out⟩
end Go.Proofs.Ytebadbnlihbecaa
