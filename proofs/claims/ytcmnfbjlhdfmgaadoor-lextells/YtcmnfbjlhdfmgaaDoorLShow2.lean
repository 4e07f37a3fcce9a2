/- A text between quotes; a token shown. -/
import Derived.Test.YtcmnfbjlhdfmgaaDoorLShow
import Derived.Test.YtcmnfbjlhdfmgaaDoorKOrd
namespace Go.Proofs.YtcmnfbjlhdfmgaaDoor
open Go.RowKit

set_option maxRecDepth 100000 in
set_option maxHeartbeats 4000000 in
theorem appendQuoted_any (w : World) (N : Nat) (v : Value) (l x : List UInt8) (hx : x.length ≤ 10000) (hown : OwnY w N v l) (hN : N ≤ w.heap.size) (hlen : l.length ≤ 100000) :
    Calls Tryd.prog 48 #[v, .string (st x)] w fun e w' => ∃ v', e = .returned v' ∧ OwnY w' N v' (l ++ quoteM x) ∧ Below N w w' := by
  have hsz := size_st x
  have hix : ∀ (w : World) (k : Nat) (c : UInt8), x[k]? = some c → (Instr.index 9 (.string (st x)) (.int .i64 (k : Int))).run Tryd.prog w = .ok (.int .u8 (c.toNat : Int)) w := fun w k c h => run_index_st w x k c h
  have HI := Lib.hid hix
  have HO := Lib.hid hown
  obtain ⟨s, hs⟩ : ∃ s, st x = s := ⟨_, rfl⟩
  rw [hs] at hsz HI ⊢
  clear hs hix hown
  go_enter Tryd.func48, Tryd.ntmps48
  go_wp2_with (at_builtin; refine append_one rfl (.tmp 6) (.tmp 7) rfl N _ l rfl 34 w.heap.size 1 rfl (heap_alloc_new _ _) (HO.out.below ((Below.refl _ _).alloc (Nat.le_refl _) _)) (by omega) (by simp; omega) ?_)
  intro v1 w1 hown1 hb1
  have R0 : OwnY w1 N v1 (l ++ 34 :: quoL (x.take 0)) := by simpa [quoL] using hown1
  have hb01 : Below N w w1 := ((Below.refl N w).alloc hN _).trans hb1
  have hN1 : N ≤ w1.heap.size := by have := hb01.size; omega
  clear hown1 hb1 HO
  go_wp2_with fail
  go_loopw [0, 5, 11] (fun b _ i wr => ∃ k : Nat, k ≤ x.length ∧ i = .int .i64 (k : Int) ∧ OwnY wr N b (l ++ 34 :: quoL (x.take k)) ∧ Below N w wr ∧ N ≤ wr.heap.size) (fun _ _ i _ => x.length - (intOf i).toNat)
  case atStart => exact ⟨0, by omega, rfl, R0, hb01, hN1⟩
  case round =>
    clear R0 hb01 hN1
    obtain ⟨k, hk, rfl, hown, hb, hNr⟩ := hrel
    have hqk := length_quoL (x.take k)
    rw [List.length_take] at hqk
    have HO := Lib.hid hown
    have HB := Lib.hid hb
    clear hown hb
    by_cases hlt : k < x.length
    · have hd : decide ((k : Int) < (x.length : Int)) = true := by simp; omega
      have hget : x[k]? = some x[k] := List.getElem?_eq_getElem hlt
      have hix := fun w => HI.out w k _ hget
      have htk : x.take (k + 1) = x.take k ++ [x[k]] := List.take_succ_eq_append_getElem hlt
      generalize x[k] = c at *
      have HM := Lib.hid (isMarked_any wr c)
      have HQ : Hid (l ++ 34 :: quoL (x.take (k + 1)) = l ++ 34 :: quoL (x.take k) ++ if mrkB c then [92, c] else [c]) := Lib.hid (by rw [htk, quoL_snoc]; simp)
      obtain ⟨b, hbb⟩ : ∃ b, mrkB c = b := ⟨_, rfl⟩
      rw [hbb] at HM HQ
      clear hbb hget htk
      obtain ⟨y, hy⟩ : ∃ y, l ++ 34 :: quoL (x.take k) = y := ⟨_, rfl⟩
      have hyl : y.length ≤ 200000 := by rw [← hy]; simp; omega
      rw [hy] at HO HQ
      clear hy
      go_wp2_with fail
      refine HM.out.mono ?_
      rintro e w' ⟨rfl, rfl⟩
      cases b with
      | false =>
        have HQ2 : Hid (l ++ 34 :: quoL (x.take (k + 1)) = y ++ [c]) := Lib.hid HQ.out
        clear HQ
        go_wp2_with (at_builtin; refine append_one rfl (.tmp 21) (.tmp 25) rfl N _ y rfl c wr.heap.size 1 rfl (heap_alloc_new _ _) (HO.out.below ((Below.refl _ _).alloc (Nat.le_refl _) _)) (by omega) (by simp; omega) ?_)
        intro v2 w2 hown2 hb2
        rw [← HQ2.out] at hown2
        have HO2 := Lib.hid hown2
        have HB2 := Lib.hid ((HB.out.alloc (by omega) _).trans hb2)
        have hN2 : N ≤ w2.heap.size := by have := HB2.out.size; omega
        clear hown2 hb2
        go_wp2_with fail
        go_roundw
        case rel => exact ⟨k + 1, by omega, by go_num, HO2.out, HB2.out, hN2⟩
        case measure => simp [intOf]; omega
      | true =>
        have HQ2 : Hid (l ++ 34 :: quoL (x.take (k + 1)) = y ++ [92, c]) := Lib.hid (by rw [HQ.out]; simp)
        clear HQ
        go_wp2_with (at_builtin; refine append_one rfl (.tmp 18) (.tmp 19) rfl N _ y rfl 92 wr.heap.size 1 rfl (heap_alloc_new _ _) (HO.out.below ((Below.refl _ _).alloc (Nat.le_refl _) _)) (by omega) (by simp; omega) ?_)
        intro v2 w2 hown2 hb2
        have HO2 := Lib.hid hown2
        have HB2 := Lib.hid ((HB.out.alloc (by omega) _).trans hb2)
        have hN2 : N ≤ w2.heap.size := by have := HB2.out.size; omega
        clear hown2 hb2
        go_wp2_with (at_builtin; refine append_one rfl (.tmp 21) (.tmp 25) rfl N _ (y ++ [92]) rfl c w2.heap.size 1 rfl (heap_alloc_new _ _) (HO2.out.below ((Below.refl _ _).alloc (Nat.le_refl _) _)) (by simp; omega) (by simp; omega) ?_)
        intro v3 w3 hown3 hb3
        rw [← HQ2.out] at hown3
        have HO3 := Lib.hid hown3
        have HB3 := Lib.hid ((HB2.out.alloc (by omega) _).trans hb3)
        have hN3 : N ≤ w3.heap.size := by have := HB3.out.size; omega
        clear hown3 hb3
        go_wp2_with fail
        go_roundw
        case rel => exact ⟨k + 1, by omega, by go_num, HO3.out, HB3.out, hN3⟩
        case measure => simp [intOf]; omega
    · have hd : decide ((k : Int) < (x.length : Int)) = false := by simp; omega
      obtain rfl : k = x.length := by omega
      rw [List.take_length] at HO
      have hyl : (l ++ 34 :: quoL x).length ≤ 200000 := by have := length_quoL x; simp; omega
      have HQ : Hid ((l ++ 34 :: quoL x) ++ [34] = l ++ quoteM x) := Lib.hid (by simp [quoteM])
      obtain ⟨y, hy⟩ : ∃ y, l ++ 34 :: quoL x = y := ⟨_, rfl⟩
      rw [hy] at HO HQ hyl
      clear hy
      go_wp2_with (at_builtin; refine append_one rfl (.tmp 28) (.tmp 29) rfl N _ y rfl 34 wr.heap.size 1 rfl (heap_alloc_new _ _) (HO.out.below ((Below.refl _ _).alloc (Nat.le_refl _) _)) (by omega) (by simp; omega) ?_)
      intro v2 w2 hown2 hb2
      rw [HQ.out] at hown2
      have HO2 := Lib.hid hown2
      have HB2 := Lib.hid ((HB.out.alloc (by omega) _).trans hb2)
      clear hown2 hb2
      go_wp2_with fail
      go_ret
      exact ⟨_, rfl, HO2.out, HB2.out⟩
end Go.Proofs.YtcmnfbjlhdfmgaaDoor
