/- The reference's way to show a token. -/
import Derived.Test.YtcmnfbjlhdfmgaaDoorLRefD
namespace Go.Proofs.YtcmnfbjlhdfmgaaDoor
open Go.RowKit

set_option maxRecDepth 100000 in
theorem run_slice_one (w : World) (l : List UInt8) (k : Nat) (c : UInt8) (h : l[k]? = some c) : (Instr.sliceAt 9 (.string (st l)) (some (.int .i64 (k : Int))) (some (.int .i64 ((k : Int) + 1))) none).run Tryd.prog w = .ok (.string (st [c])) w := by
  have hs := size_st l
  have hk := (List.getElem?_eq_some_iff.1 h).1
  have e := st_extract l k (k + 1)
  have e1 : (l.drop k).take (k + 1 - k) = [c] := by
    rw [show k + 1 - k = 1 by omega]
    obtain ⟨h1, h2⟩ := List.getElem?_eq_some_iff.1 h
    rw [List.drop_eq_getElem_cons h1, h2]
    rfl
  rw [e1] at e
  have hb : (0 : Int) ≤ k ∧ (k : Int) ≤ (k : Int) + 1 ∧ (k : Int) + 1 ≤ ((st l).size : Int) := by omega
  simp [Instr.sliceAt, run_underlying Tryd.underlying9, go_sem, Instr.slice, Instr.sliceBounds, hb, e]
  try omega
set_option maxRecDepth 100000 in
set_option maxHeartbeats 4000000 in
theorem refShow_any (w : World) (t : Tk) (ht : t.Ok) (hts : t.s.length ≤ 10000) (hn : t.k = 2 ∨ t.k = 4 → 0 ≤ t.n) :
    Calls Tryd.prog 15 #[t.val] w fun e w' => e = .returned (.string (st (showM t))) ∧ Below w.heap.size w w' := by
  obtain ⟨k, x, n⟩ := t
  have hn0 := ht.n0
  have hn1 := ht.n1
  clear ht
  unfold Tk.val Tk.cells showM
  dsimp only at *
  have HB := Lib.hid (fun (o : Obj) => ((Below.refl w.heap.size w).alloc (Nat.le_refl _) o))
  obtain ⟨R, hR⟩ : ∃ R, (if k = 2 then Lib.itoa n else if k = 4 then 64 :: Lib.itoa n else if k = 3 then quoteM x else x) = R := ⟨_, rfl⟩
  rw [hR]
  by_cases h2 : k = 2
  · subst h2
    obtain ⟨u, rfl⟩ : ∃ u : Nat, n = u := ⟨n.toNat, by have := hn (.inl rfl); omega⟩
    rw [if_pos rfl, Lib.itoa_nonneg] at hR
    have HD := Lib.hid (fun o => digits_ref (w.alloc o) u (by omega))
    rw [hR] at HD
    clear hR hn hn0 hn1
    obtain ⟨s, hs⟩ : ∃ s, st x = s := ⟨_, rfl⟩
    rw [hs]
    go_enter Tryd.func15, Tryd.ntmps15
    go_wp2_with fail
    refine (HD.out _).mono ?_
    rintro e w2 ⟨rfl, hb2⟩
    have HB2 := Lib.hid ((HB.out _).trans (hb2.mono (by simp)))
    clear hb2
    go_wp2_with fail
    go_ret
    exact ⟨rfl, HB2.out⟩
  · rw [if_neg h2] at hR
    have e2 : (k == 2) = false := by simpa using h2
    by_cases h4 : k = 4
    · subst h4
      obtain ⟨u, rfl⟩ : ∃ u : Nat, n = u := ⟨n.toNat, by have := hn (.inr rfl); omega⟩
      rw [if_pos rfl, Lib.itoa_nonneg] at hR
      have HD := Lib.hid (fun o => digits_ref (w.alloc o) u (by omega))
      have hlen : (Lib.decDigits u).length ≤ 100 := by
        have := Lib.itoa_length_le u (by omega) (by omega)
        rw [Lib.itoa_nonneg] at this
        omega
      generalize Lib.decDigits u = d at *
      have hap := st_append [64] d
      have hno : ¬ (9223372036854775807 < (st [64]).size + (st d).size) := by rw [size_st, size_st]; simp; omega
      clear hn hn0 hn1
      obtain ⟨s, hs⟩ : ∃ s, st x = s := ⟨_, rfl⟩
      rw [hs]
      have HR := Lib.hid hR
      clear hR
      go_enter Tryd.func15, Tryd.ntmps15
      go_wp2_with fail
      refine (HD.out _).mono ?_
      rintro e w2 ⟨rfl, hb2⟩
      have HB2 := Lib.hid ((HB.out _).trans (hb2.mono (by simp)))
      clear hb2
      change _ at hno
      obtain ⟨T, hT⟩ : ∃ T, st d = T := ⟨_, rfl⟩
      rw [hT] at hap hno ⊢
      have hno' : ¬ (9223372036854775807 < (⟨#[64]⟩ : ByteArray).size + T.size) := hno
      have hap' : (⟨#[64]⟩ : ByteArray) ++ T = st R := by rw [← HR.out]; exact hap
      clear hno hap
      go_wp2_with fail
      go_ret
      exact ⟨by first | rfl | rw [hap'], HB2.out⟩
    · rw [if_neg h4] at hR
      have e4 : (k == 4) = false := by simpa using h4
      by_cases h3 : k = 3
      · subst h3
        rw [if_pos rfl] at hR
        clear hn hn0 hn1
        have hsz := size_st x
        have HX := Lib.hid hts
        have HI := Lib.hid (fun (w : World) (k : Nat) (c : UInt8) (h : x[k]? = some c) => run_index_st w x k c h)
        have HS := Lib.hid (fun (w : World) (k : Nat) (c : UInt8) (h : x[k]? = some c) => run_slice_one w x k c h)
        have HR := Lib.hid hR
        clear hts hR
        obtain ⟨s, hs⟩ : ∃ s, st x = s := ⟨_, rfl⟩
        rw [hs] at hsz HI HS ⊢
        clear hs
        go_enter Tryd.func15, Tryd.ntmps15
        go_wp2_with fail
        have c1 : (w.alloc (.cells #[.int .i64 3, .string s, .int .i64 n] 30 (0, 0))).cell? ⟨w.heap.size, 1, none⟩ = some (.string s) := by rw [cell_block (heap_alloc_new _ _)]; rfl
        have HBW := Lib.hid (HB.out (.cells #[.int .i64 3, .string s, .int .i64 n] 30 (0, 0)))
        generalize w.alloc (.cells #[.int .i64 3, .string s, .int .i64 n] 30 (0, 0)) = W at *
        clear HB
        go_loopw [3, 4] (fun y i wr => ∃ j : Nat, j ≤ x.length ∧ i = .int .i64 (j : Int) ∧ y = .string (st (34 :: quoL (x.take j))) ∧ wr = W) (fun _ i _ => x.length - (intOf i).toNat)
        case atStart => exact ⟨0, by omega, rfl, rfl, rfl⟩
        case round =>
          obtain ⟨j, hj, rfl, rfl, rfl⟩ := hrel
          have hq := length_quoL (x.take j)
          rw [List.length_take] at hq
          have hxl := HX.out
          by_cases hlt : j < x.length
          · have dlt : decide ((j : Int) < (x.length : Int)) = true := by simp; omega
            obtain ⟨c, hc⟩ : ∃ c, x[j]? = some c := ⟨x[j], List.getElem?_eq_getElem hlt⟩
            have hix := fun w => HI.out w j c hc
            have hsl := fun w => HS.out w j c hc
            have htk : x.take (j + 1) = x.take j ++ [c] := by
              rw [List.take_add_one, hc]; rfl
            have HQ := Lib.hid (show quoL (x.take (j + 1)) = quoL (x.take j) ++ (if mrkB c then [92, c] else [c]) by rw [htk, quoL_snoc])
            clear htk hc
            generalize quoL (x.take j) = L at *
            by_cases hm : mrkB c = true
            · rw [if_pos hm] at HQ
              have hap1 : st (34 :: L) ++ (⟨#[92]⟩ : ByteArray) = st (34 :: L ++ [92]) := st_append _ _
              have hap2 := st_append (34 :: L ++ [92]) [c]
              have hno1 : ¬ (9223372036854775807 < (st (34 :: L)).size + (⟨#[92]⟩ : ByteArray).size) := by
                rw [size_st]; simp only [List.length_cons]
                show ¬ (9223372036854775807 < L.length + 1 + 1)
                omega
              have hno2 : ¬ (9223372036854775807 < (st (34 :: L ++ [92])).size + (st [c]).size) := by rw [size_st, size_st]; simp only [List.length_cons, List.length_append, List.length_nil]; omega
              have HE := Lib.hid (show st (34 :: L ++ [92] ++ [c]) = st (34 :: quoL (x.take (j + 1))) by rw [HQ.out]; simp)
              clear HQ
              generalize st (34 :: L) = Y at *
              generalize st (34 :: L ++ [92]) = Y1 at *
              generalize st (34 :: L ++ [92] ++ [c]) = Y2 at *
              generalize st [c] = C at *
              by_cases h34 : c.toNat = 34
              · have d34 : ((c.toNat : Int) == 34) = true := by rw [h34]; rfl
                go_wp2_with fail
                go_roundw
                case rel => exact ⟨j + 1, by omega, by go_num, by rw [HE.out], trivial⟩
                case measure => simp [intOf]; omega
              · have d34 : ((c.toNat : Int) == 34) = false := by simp; omega
                have d92 : ((c.toNat : Int) == 92) = true := by simp [mrkB] at hm; simp; omega
                go_wp2_with fail
                go_roundw
                case rel => exact ⟨j + 1, by omega, by go_num, by rw [HE.out], trivial⟩
                case measure => simp [intOf]; omega
            · rw [if_neg hm] at HQ
              have hap2 := st_append (34 :: L) [c]
              have hno2 : ¬ (9223372036854775807 < (st (34 :: L)).size + (st [c]).size) := by rw [size_st, size_st]; simp only [List.length_cons, List.length_nil]; omega
              have HE := Lib.hid (show st (34 :: L ++ [c]) = st (34 :: quoL (x.take (j + 1))) by rw [HQ.out]; simp)
              clear HQ
              generalize st (34 :: L) = Y at *
              generalize st (34 :: L ++ [c]) = Y2 at *
              generalize st [c] = C at *
              have d34 : ((c.toNat : Int) == 34) = false := by simp [mrkB] at hm; simp; omega
              have d92 : ((c.toNat : Int) == 92) = false := by simp [mrkB] at hm; simp; omega
              go_wp2_with fail
              go_roundw
              case rel => exact ⟨j + 1, by omega, by go_num, by rw [HE.out], trivial⟩
              case measure => simp [intOf]; omega
          · have dlt : decide ((j : Int) < (x.length : Int)) = false := by simp; omega
            obtain rfl : j = x.length := by omega
            have HE := Lib.hid (show st (34 :: quoL (x.take x.length) ++ [34]) = st R by rw [← HR.out, List.take_length]; rfl)
            have hap1 : st (34 :: quoL (x.take x.length)) ++ (⟨#[34]⟩ : ByteArray) = st (34 :: quoL (x.take x.length) ++ [34]) := st_append _ _
            have hno1 : ¬ (9223372036854775807 < (st (34 :: quoL (x.take x.length))).size + (⟨#[34]⟩ : ByteArray).size) := by
              rw [size_st]; simp only [List.length_cons]
              show ¬ (9223372036854775807 < (quoL (x.take x.length)).length + 1 + 1)
              omega
            rw [HE.out] at hap1
            generalize st (34 :: quoL (x.take x.length)) = Y at *
            clear hq HE
            go_wp2_with fail
            go_ret
            exact ⟨by first | rfl | rw [hap1], HBW.out⟩
      · rw [if_neg h3] at hR
        subst hR
        have e3 : (k == 3) = false := by simpa using h3
        obtain ⟨s, hs⟩ : ∃ s, st x = s := ⟨_, rfl⟩
        rw [hs]
        clear hn hn0 hn1
        go_enter Tryd.func15, Tryd.ntmps15
        go_wp2_with fail
        go_ret
        exact ⟨rfl, HB.out _⟩
end Go.Proofs.YtcmnfbjlhdfmgaaDoor
