/- P1.3: however bytes are cut in two, the fingerprint is the same: the walk of the law. -/
import Derived.Test.YtmdhoeogibkobaaDoorAwake
import Derived.Deep.RegionWith
import Derived.BigRegion
namespace Go.Proofs.YtmdhoeogibkobaaDoor
open Go.RowKit

/-- 'b[:k]' -/
theorem slice_hi (ad : Option Addr) (g o len cap k : Nat) (hk : k ≤ len) (hc : len ≤ cap) (had : 0 < len → ad = some ⟨g, o, none⟩) : ∃ ad', (0 < k → ad' = some ⟨g, o, none⟩) ∧
    ∀ w, (Instr.sliceAt 29 (.slice ad len cap) none (some (.int .i64 (k : Int))) none).run Tryd.prog w = .ok (.slice ad' k cap) w := by
  refine ⟨if cap = 0 then ad else ad.map (·.add 0), fun h => ?_, fun w => ?_⟩
  · rw [had (by omega)]; simp [Addr.add_mid]
  · have e3 : ∀ w, (sizeOf 5).run Tryd.prog w = .ok 1 w := fun _ => by kernel_rfl
    have e1 : Tryd.prog.elem 29 = 5 := by kernel_rfl
    rw [run_sliceAt_slice (P := Tryd.prog) w 29 _ _ _ _ (by kernel_rfl), run_slice_h (P := Tryd.prog) w 29 ad len cap (by kernel_rfl) .i64 k (by omega) (by omega), e1, e3]
    simp [sliced, Result.andThen]
/-- 'b[k:]' -/
theorem slice_lo (ad : Option Addr) (g o len cap k : Nat) (hk : k ≤ len) (hc : len ≤ cap) (had : 0 < len → ad = some ⟨g, o, none⟩) : ∃ ad', (k < len → ad' = some ⟨g, o + k, none⟩) ∧
    ∀ w, (Instr.sliceAt 29 (.slice ad len cap) (some (.int .i64 (k : Int))) none none).run Tryd.prog w = .ok (.slice ad' (len - k) (cap - k)) w := by
  refine ⟨if cap = k then ad else ad.map (·.add k), fun h => ?_, fun w => ?_⟩
  · rw [had (by omega), if_neg (by omega)]; simp [Addr.add_mid]
  · have e3 : ∀ w, (sizeOf 5).run Tryd.prog w = .ok 1 w := fun _ => by kernel_rfl
    have e1 : Tryd.prog.elem 29 = 5 := by kernel_rfl
    rw [run_sliceAt_slice (P := Tryd.prog) w 29 _ _ _ _ (by kernel_rfl), run_slice_l (P := Tryd.prog) w 29 ad len cap (by kernel_rfl) .i64 k (by omega) (by omega), e1, e3]
    simp [sliced, Result.andThen]

theorem Part.In.take {w : World} {p : Part} (h : p.In w) (k : Nat) (hk : k ≤ p.l.length) (ad' : Option Addr) (had : 0 < k → ad' = some ⟨p.g, p.o, none⟩) : (Part.mk ad' p.g p.o p.cap (p.l.take k)).In w :=
  ⟨⟨fun hn => had (by rcases Nat.eq_zero_or_pos k with rfl | h0; · exact absurd rfl hn
                      · exact h0), fun j hj => by have := h.bytes.cell j (by simp at hj; omega); simpa using this⟩, by have := h.cap; simp; omega, h.lt⟩
theorem Part.In.drop {w : World} {p : Part} (h : p.In w) (k : Nat) (hk : k ≤ p.l.length) (ad' : Option Addr) (had : k < p.l.length → ad' = some ⟨p.g, p.o + k, none⟩) : (Part.mk ad' p.g (p.o + k) (p.cap - k) (p.l.drop k)).In w :=
  ⟨⟨fun hn => had (by rcases Nat.lt_or_ge k p.l.length with h0 | h0; · exact h0
                      · exact absurd (List.drop_of_length_le h0) hn), fun j hj => by have := h.bytes.cell (k + j) (by simp at hj; omega); rw [← Nat.add_assoc] at this; simpa using this⟩, by have := h.cap; simp; omega, h.lt⟩

/-- a nil slice -/
def nilPart (g : Nat) : Part := ⟨none, g, 0, 0, []⟩
theorem nilPart_in {g : Nat} (w : World) (h : g < w.heap.size) : (nilPart g).In w := ⟨⟨fun h => absurd rfl h, fun j hj => by cases hj⟩, Nat.le_refl _, h⟩
/-- parts written whose slice is a block of its own -/
theorem write_here (W : World) (b G n : Nat) (l0 : List UInt8) (ps : List Part) (hn : n = ps.length) (hG : W.heap[G]? = some (.cells (ps.map Part.val).toArray 29 (0, 0))) (hGb : G ≠ b) (hok : ∀ p ∈ ps, p.Ok W b)
    (hh : Holds W b 57 l0) (ht : Tab W) (hbn : b ≠ 0) (hm : l0.length + (joined ps).length ≤ 1000000000000) (hl : ps.length ≤ 1000000000000) :
    Calls Tryd.prog 14 #[.pointer (some ⟨b, 0, none⟩), .slice (some ⟨G, 0, none⟩) n n] W fun e w' => e = .returned (.tuple #[]) ∧ Holds w' b 57 (l0 ++ joined ps) ∧ Kept1 b W w' := by
  subst hn
  exact write_any W b l0 ps _ G 0 _ hh ht hbn (fun _ => rfl) (fun i hi => by rw [cell_block hG]; simp [hi]) hGb hok hm hl

set_option maxRecDepth 100000 in
set_option maxHeartbeats 1000000 in
theorem cuts_long (w : World) (p : Part) (x : Int) (hp : p.In w) (ht : Tab w) (hl : 500 < p.l.length) :
    Calls Tryd.prog 5 #[p.val, .int .u16 x] w fun e w' => e = .returned (.bool true) ∧ Below w.heap.size w w' := by
  have h0 := ht.size
  unfold Part.val
  have hd : decide ((500 : Int) < (p.l.length : Int)) = true := by simp; omega
  have Ht := Lib.hid ht
  have Hp := Lib.hid hp
  clear ht hp
  go_enter Tryd.func5, Tryd.ntmps5
  go_wp2_with fail
  refine (awake_any w Ht.out).mono ?_
  rintro e w1 ⟨rfl, hb1⟩
  have Hb1 := Lib.hid hb1
  clear hb1
  go_wp2_with fail
  refine (awake_any w1 (Ht.out.below Hb1.out h0)).mono ?_
  rintro e w2 ⟨rfl, hb2⟩
  have Hb2 := Lib.hid (Hb1.out.trans (hb2.mono Hb1.out.size))
  clear hb2
  go_wp2_with fail
  go_ret
  exact ⟨rfl, Hb2.out⟩

set_option maxRecDepth 100000 in
set_option maxHeartbeats 1000000 in
theorem cuts_short (w : World) (p : Part) (x : Int) (hp : p.In w) (ht : Tab w) (hl : p.l.length ≤ 500) (hx0 : 0 ≤ x) (hx1 : x < 65536) :
    Calls Tryd.prog 5 #[p.val, .int .u16 x] w fun e w' => e = .returned (.bool true) ∧ Below w.heap.size w w' := by
  have h0 := ht.size
  unfold Part.val
  have hd : decide ((500 : Int) < (p.l.length : Int)) = false := by simp; omega
  have Ht := Lib.hid ht
  have Hp := Lib.hid hp
  clear ht hp
  go_enter Tryd.func5, Tryd.ntmps5
  go_wp2_with fail
  refine (awake_any w Ht.out).mono ?_
  rintro e w1 ⟨rfl, hb1⟩
  have Hb1 := Lib.hid hb1
  clear hb1
  obtain ⟨k, hk⟩ : ∃ k : Nat, x % ((p.l.length : Int) + 1) = (k : Int) := ⟨(x % ((p.l.length : Int) + 1)).toNat, by rw [Int.toNat_of_nonneg (Int.emod_nonneg _ (by omega))]⟩
  have hkl : k ≤ p.l.length := by have := Int.emod_lt_of_pos x (show 0 < (p.l.length : Int) + 1 by omega); omega
  obtain ⟨ad1, had1, hs1⟩ := slice_hi p.ad p.g p.o p.l.length p.cap k hkl Hp.out.cap (fun h => Hp.out.bytes.at' (by intro e; simp [e] at h))
  obtain ⟨ad2, had2, hs2⟩ := slice_lo p.ad p.g p.o p.l.length p.cap k hkl Hp.out.cap (fun h => Hp.out.bytes.at' (by intro e; simp [e] at h))
  have hp1 := Hp.out.take k hkl ad1 had1
  have hp2 := Hp.out.drop k hkl ad2 had2
  have Hp1 := Lib.hid hp1
  have Hp2 := Lib.hid hp2
  clear hp1 hp2 had1 had2
  go_wp2_with fail
  refine (new_any w1).mono ?_
  rintro e w2 ⟨rfl, hh2, hb2, hz2⟩
  have hbw2 := Hb1.out.trans (hb2.mono Hb1.out.size)
  have hsz1 := Hb1.out.size
  have Hh2 := Lib.hid hh2
  have Hb2 := Lib.hid hbw2
  have Hz2 := Lib.hid hz2
  clear hh2 hb2 hz2 hbw2
  go_wp2_with fail
  have HW : Hid (∀ W : World, Below w2.heap.size w2 W → W.heap[w2.heap.size]? = some (.cells #[.slice ad1 k p.cap, .slice none 0 0, .slice ad2 (p.l.length - k) (p.cap - k)] 29 (0, 0)) →
      Calls Tryd.prog 14 #[.pointer (some ⟨w1.heap.size, 0, none⟩), .slice (some ⟨w2.heap.size, 0, none⟩) 3 3] W fun e w' => e = .returned (.tuple #[]) ∧ Holds w' w1.heap.size 57 p.l ∧ Kept1 w1.heap.size W w') := by
    intro W hW hG
    have hpl : [] ++ joined [⟨ad1, p.g, p.o, p.cap, p.l.take k⟩, nilPart p.g, ⟨ad2, p.g, p.o + k, p.cap - k, p.l.drop k⟩] = p.l := by simp [joined, nilPart, List.take_append_drop]
    have hBW : Below w.heap.size w W := Hb2.out.trans (hW.mono Hb2.out.size)
    have hgl := Hp.out.lt
    have h1 := Hz2.out
    have hc := write_here W w1.heap.size w2.heap.size 3 [] [⟨ad1, p.g, p.o, p.cap, p.l.take k⟩, nilPart p.g, ⟨ad2, p.g, p.o + k, p.cap - k, p.l.drop k⟩] rfl (by simpa [Part.val, nilPart, Nat.min_eq_left hkl] using hG) (by omega) (by
      intro q hq
      rcases List.mem_cons.1 hq with rfl | hq
      · exact (Hp1.out.below hBW).ok (by show p.g ≠ _; omega)
      rcases List.mem_cons.1 hq with rfl | hq
      · exact (nilPart_in W (Nat.lt_of_lt_of_le hgl hBW.size)).ok (by show p.g ≠ _; omega)
      rcases List.mem_cons.1 hq with rfl | hq
      · exact (Hp2.out.below hBW).ok (by show p.g ≠ _; omega)
      cases hq) (Hh2.out.below hW) (Ht.out.below hBW h0) (by omega) (by rw [← List.length_append, hpl]; omega) (by simp)
    rw [hpl] at hc
    exact hc
  go_region_with (go_at_call 14; refine (HW.out _ ?_ ?_).mono ?_; exact ((Below.refl _ _).alloc (Nat.le_refl _) _).drew; exact heap_alloc_new _ _; rintro e w3 ⟨rfl, hh3, hk3⟩)
  have hb3 : Below w.heap.size w w3 := Kept1.mono (Hb2.out.trans (((Below.refl _ _).alloc (Nat.le_refl _) _ |>.drew).mono Hb2.out.size)) hk3 hsz1
  have Hh3 := Lib.hid hh3
  have Hb3 := Lib.hid hb3
  have hb3s := hb3.size
  clear hh3 hk3 hb3 HW Hh2 Hb2
  have HO : Hid (∀ (W : World) (G : Nat), Below w3.heap.size w3 W → W.heap[G]? = some (.cells #[.slice p.ad p.l.length p.cap] 29 (0, 0)) →
      Calls Tryd.prog 10 #[.slice (some ⟨G, 0, none⟩) 1 1] W fun e w' => e = .returned (H p.l) ∧ Below W.heap.size W w' ∧ Below w3.heap.size w3 w') := by
    intro W G hW hG
    have hBW : Below w.heap.size w W := Hb3.out.trans (hW.mono Hb3.out.size)
    have hj : joined [p] = p.l := by simp [joined]
    have := of_here W G 1 [p] rfl hG (by intro q hq; rw [List.mem_singleton.1 hq]; exact Hp.out.below hBW) (Ht.out.below hBW h0) (by rw [hj]; omega) (by simp)
    rw [hj] at this
    exact this.mono fun e w' ⟨he, hb⟩ => ⟨he, hb, hW.trans (hb.mono hW.size)⟩
  have HO2 : Hid (∀ (W : World) (G : Nat), Below w3.heap.size w3 W → W.heap[G]? = some (.cells #[.slice ad1 k p.cap, .slice ad2 (p.l.length - k) (p.cap - k)] 29 (0, 0)) →
      Calls Tryd.prog 10 #[.slice (some ⟨G, 0, none⟩) 2 2] W fun e w' => e = .returned (H p.l) ∧ Below W.heap.size W w' ∧ Below w3.heap.size w3 w') := by
    intro W G hW hG
    have hBW : Below w.heap.size w W := Hb3.out.trans (hW.mono Hb3.out.size)
    have hj : joined [⟨ad1, p.g, p.o, p.cap, p.l.take k⟩, ⟨ad2, p.g, p.o + k, p.cap - k, p.l.drop k⟩] = p.l := by simp [joined, List.take_append_drop]
    have := of_here W G 2 [⟨ad1, p.g, p.o, p.cap, p.l.take k⟩, ⟨ad2, p.g, p.o + k, p.cap - k, p.l.drop k⟩] rfl (by simpa [Part.val, Nat.min_eq_left hkl] using hG) (by
      intro q hq
      rcases List.mem_cons.1 hq with rfl | hq
      · exact Hp1.out.below hBW
      rcases List.mem_cons.1 hq with rfl | hq
      · exact Hp2.out.below hBW
      cases hq) (Ht.out.below hBW h0) (by rw [hj]; omega) (by simp)
    rw [hj] at this
    exact this.mono fun e w' ⟨he, hb⟩ => ⟨he, hb, hW.trans (hb.mono hW.size)⟩
  have HS : Hid (∀ (W : World), Below w3.heap.size w3 W →
      Calls Tryd.prog 16 #[.pointer (some ⟨w1.heap.size, 0, none⟩)] W fun e w' => e = .returned (H p.l) ∧ Below W.heap.size W w' ∧ Below w3.heap.size w3 w') := by
    intro W hW
    have hBW : Below w.heap.size w W := Hb3.out.trans (hW.mono Hb3.out.size)
    exact (sum_any W w1.heap.size p.l (Hh3.out.below hW) (Ht.out.below hBW h0) (by omega)).mono fun e w' ⟨he, hb⟩ => ⟨he, hb, hW.trans (hb.mono hW.size)⟩
  have heq := eqlH p.l p.l
  rw [show (shaOf p.l == shaOf p.l) = true from beq_self_eq_true _] at heq
  have hgu := fun x y => guardH p.l p.l x y
  go_wp2_with fail
  go_region_with (first | (go_at_call 10; (with_reducible refine (HO.out _ _ ?_ ?_).mono ?_); (repeat (first | exact Below.refl _ _ | assumption | refine Below.drew ?_ | refine Below.alloc ?_ (by first | exact Nat.le_refl _ | (simp only [World.size_alloc]; omega) | omega) _)); (first | exact heap_alloc_new _ _ | exact heap_alloc2_new _ _ _ | exact heap_alloc2_old _ _ _ | exact (hb4.block _ (by simp)).trans (heap_alloc_new _ _) | exact (hb4.block _ (by simp)).trans (heap_alloc2_new _ _ _) | exact (hb4.block _ (by simp; omega)).trans (heap_alloc2_old _ _ _)); rintro e w4 ⟨rfl, hb4, hB4⟩; have hz4 := hB4.size) | (go_at_call 10; (with_reducible refine (HO2.out _ _ ?_ ?_).mono ?_); (repeat (first | exact Below.refl _ _ | assumption | refine Below.drew ?_ | refine Below.alloc ?_ (by first | exact Nat.le_refl _ | (simp only [World.size_alloc]; omega) | omega) _)); (first | exact heap_alloc_new _ _ | exact heap_alloc2_new _ _ _ | exact heap_alloc2_old _ _ _ | exact (hb4.block _ (by simp)).trans (heap_alloc_new _ _) | exact (hb4.block _ (by simp)).trans (heap_alloc2_new _ _ _) | exact (hb4.block _ (by simp; omega)).trans (heap_alloc2_old _ _ _)); rintro e w4 ⟨rfl, hb4, hB4⟩; have hz4 := hB4.size) | (go_at_call 16; (with_reducible refine (HS.out _ ?_).mono ?_); (repeat (first | exact Below.refl _ _ | assumption | refine Below.drew ?_ | refine Below.alloc ?_ (by first | exact Nat.le_refl _ | (simp only [World.size_alloc]; omega) | omega) _)); rintro e w4 ⟨rfl, hb4, hB4⟩; have hz4 := hB4.size))
  all_goals (go_wp2_with fail; go_ret; exact ⟨rfl, Hb3.out.trans (hB4.mono hb3s)⟩)
end Go.Proofs.YtmdhoeogibkobaaDoor
