/- The reference: the token that a whole text is. -/
import Derived.Test.YtcmnfbjlhdfmgaaDoorLRefBody
namespace Go.Proofs.YtcmnfbjlhdfmgaaDoor
open Go.RowKit

def oneC (c : UInt8) (q : List UInt8) : Tk × Bool :=
  if wordB (c :: q) then (⟨1, c :: q, 0⟩, true)
  else if valOk (c :: q) 9223372036854775807 then (⟨2, [], (numL 0 (c :: q) : Nat)⟩, true)
  else if c.toNat = 64 then (⟨4, [], (numL 0 q : Nat)⟩, valOk q 1099511627776)
  else if c.toNat = 34 then (⟨3, (bodyP q.dropLast).1, 0⟩, (bodyP q.dropLast).2)
  else (⟨5, c :: q, 0⟩, signB (c :: q))
def oneR (p : List UInt8) : Tk × Bool := match p with
  | [] => (noTk, false)
  | c :: q => oneC c q
set_option maxRecDepth 100000 in
set_option maxHeartbeats 4000000 in
theorem one_nil (w : World) : Calls Tryd.prog 21 #[.string (st [])] w fun e w' => ∃ t : Tk, e = .returned (.tuple #[t.val, .bool false]) ∧ Below w.heap.size w w' := by
  have HB := Lib.hid (fun (o : Obj) => ((Below.refl w.heap.size w).alloc (Nat.le_refl _) o))
  show Calls Tryd.prog 21 #[.string ⟨#[]⟩] w _
  go_enter Tryd.func21, Tryd.ntmps21
  go_wp2_with fail
  exact bodyPost_ret (results_cell_slot Tryd.results21 _ _ (w.heap.size) 30 #[.int .i64 0, .string (st []), .int .i64 0] (0, 0) _ rfl (heap_alloc_new _ _) Tryd.underlying30 rfl info_tok (.bool false) rfl) rfl ⟨noTk, rfl, HB.out _⟩
set_option maxRecDepth 100000 in
set_option maxHeartbeats 8000000 in
theorem one_ref (w : World) (c : UInt8) (q : List UInt8) (hl : q.length ≤ 90000) (hq : c.toNat = 34 → ∃ l, q = l ++ [34]) :
    Calls Tryd.prog 21 #[.string (st (c :: q))] w fun e w' => ∃ t : Tk, e = .returned (.tuple #[t.val, .bool (oneC c q).2]) ∧ ((oneC c q).2 = true → t = (oneC c q).1) ∧ Below w.heap.size w w' := by
  have HB := Lib.hid (fun (o : Obj) => ((Below.refl w.heap.size w).alloc (Nat.le_refl _) o))
  have hsz := size_st (c :: q)
  rw [List.length_cons] at hsz
  have h0 : ∀ w, (Instr.index 9 (.string (st (c :: q))) (.int .i64 0)).run Tryd.prog w = .ok (.int .u8 (c.toNat : Int)) w := fun w => run_index_st w (c :: q) 0 c rfl
  have HS1 := Lib.hid (fun w => show (Instr.sliceAt 9 (.string (st (c :: q))) (some (.int .i64 1)) none none).run Tryd.prog w = .ok (.string (st q)) w from run_slice_lo w (c :: q) 1 (by simp))
  have HWd := Lib.hid (fun o => word_any (w.alloc o) (c :: q) (by simp; omega))
  have HV1 := Lib.hid (fun o => show Calls Tryd.prog 41 #[.string (st (c :: q)), .int .i64 9223372036854775807] (w.alloc o) _ from value_ref (w.alloc o) (c :: q) (by simp; omega) 9223372036854775807 (by omega))
  have HV2 := Lib.hid (fun o => show Calls Tryd.prog 41 #[.string (st q), .int .i64 1099511627776] (w.alloc o) _ from value_ref (w.alloc o) q (by omega) 1099511627776 (by omega))
  have HSg := Lib.hid (fun o => sign_any (w.alloc o) (c :: q))
  have HBd := Lib.hid (fun o l (h : q = l ++ [34]) (h34 : c = 34) => show Calls Tryd.prog 42 #[.string (st (c :: q))] (w.alloc o) _ from by rw [h, h34]; exact body_ref (w.alloc o) l (by rw [h] at hl; simp at hl; omega))
  obtain ⟨R, hR⟩ : ∃ R, oneC c q = R := ⟨_, rfl⟩
  rw [hR]
  unfold oneC at hR
  have htl := toList_st (c :: q)
  obtain ⟨s, hs⟩ : ∃ s, st (c :: q) = s := ⟨_, rfl⟩
  rw [hs] at hsz h0 HS1 HWd HV1 HSg HBd htl ⊢
  have HSt := Lib.hid hs
  clear hs
  obtain ⟨bw, hbw⟩ : ∃ b, wordB (c :: q) = b := ⟨_, rfl⟩
  rw [hbw] at hR HWd
  clear hbw
  go_enter Tryd.func21, Tryd.ntmps21
  go_wp2_with fail
  refine (HWd.out _).mono ?_
  rintro e w' ⟨rfl, rfl⟩
  clear HWd
  cases bw with
  | true =>
    rw [if_pos rfl] at hR
    subst hR
    have HSe := HSt.out
    go_wp2_with (refine store_tok rfl (.tmp 2) (.tmp 14) rfl rfl w.heap.size rfl 1 (s) (0) rfl (heap_alloc_new _ _) ?_)
    intro w3 hg3 hk3
    have HG3 := Lib.hid hg3
    have HB3 := Lib.hid (Kept1.mono (HB.out _) hk3 (Nat.le_refl _))
    clear hg3 hk3
    go_wp2_with fail
    exact bodyPost_ret (results_cell_slot Tryd.results21 _ _ (w.heap.size) 30 #[.int .i64 1, .string (s), .int .i64 (0)] (0, 0) _ rfl HG3.out Tryd.underlying30 rfl info_tok (.bool true) rfl) rfl ⟨⟨1, c :: q, 0⟩, by unfold Tk.val Tk.cells; dsimp only; rw [HSt.out], by first | exact fun _ => rfl | rfl, HB3.out⟩
  | false =>
    rw [if_neg (by decide)] at hR
    obtain ⟨b1, hb1⟩ : ∃ b, valOk (c :: q) 9223372036854775807 = b := ⟨_, rfl⟩
    rw [hb1] at hR HV1
    clear hb1
    go_wp2_with fail
    refine (HV1.out _).mono ?_
    rintro e w' ⟨v, rfl, hv, rfl⟩
    clear HV1
    cases b1 with
    | true =>
      have HVv := Lib.hid (hv rfl)
      clear hv
      rw [if_pos rfl] at hR
      have HRR := Lib.hid hR
      clear hR
      go_wp2_with (refine store_tok rfl (.tmp 2) (.tmp 22) rfl rfl w.heap.size rfl 2 (st []) (v) rfl (heap_alloc_new _ _) ?_)
      intro w3 hg3 hk3
      have HG3 := Lib.hid hg3
      have HB3 := Lib.hid (Kept1.mono (HB.out _) hk3 (Nat.le_refl _))
      clear hg3 hk3
      go_wp2_with fail
      exact bodyPost_ret (results_cell_slot Tryd.results21 _ _ (w.heap.size) 30 #[.int .i64 2, .string (st []), .int .i64 (v)] (0, 0) _ rfl HG3.out Tryd.underlying30 rfl info_tok (.bool true) rfl) rfl ⟨⟨2, [], v⟩, by rw [← HRR.out]; rfl, fun _ => by rw [← HRR.out, HVv.out], HB3.out⟩
    | false =>
      clear hv
      rw [if_neg (by decide)] at hR
      by_cases h64 : c.toNat = 64
      · have d64 : ((c.toNat : Int) == 64) = true := by rw [h64]; rfl
        rw [if_pos h64] at hR
        clear h64
        obtain ⟨b2, hb2⟩ : ∃ b, valOk q 1099511627776 = b := ⟨_, rfl⟩
        rw [hb2] at hR HV2
        clear hb2
        have HRR := Lib.hid hR
        clear hR
        have hs1 := HS1.out
        generalize st q = s1 at *
        go_wp2_with fail
        refine (HV2.out _).mono ?_
        rintro e w' ⟨v, rfl, hv, rfl⟩
        have HVv := Lib.hid hv
        clear hv HV2
        go_wp2_with (refine store_tok rfl (.tmp 2) (.tmp 33) rfl rfl w.heap.size rfl 4 (st []) (v) rfl (heap_alloc_new _ _) ?_)
        intro w3 hg3 hk3
        have HG3 := Lib.hid hg3
        have HB3 := Lib.hid (Kept1.mono (HB.out _) hk3 (Nat.le_refl _))
        clear hg3 hk3
        go_wp2_with fail
        exact bodyPost_ret (results_cell_slot Tryd.results21 _ _ (w.heap.size) 30 #[.int .i64 4, .string (st []), .int .i64 (v)] (0, 0) _ rfl HG3.out Tryd.underlying30 rfl info_tok (.bool b2) rfl) rfl ⟨⟨4, [], v⟩, by rw [← HRR.out]; rfl, fun h => by rw [← HRR.out] at h ⊢; rw [HVv.out h], HB3.out⟩
      · have d64 : ((c.toNat : Int) == 64) = false := by simp; omega
        rw [if_neg h64] at hR
        clear h64
        by_cases h34 : c.toNat = 34
        · have d34 : ((c.toNat : Int) == 34) = true := by rw [h34]; rfl
          rw [if_pos h34] at hR
          obtain ⟨l, hql⟩ := hq h34
          have hc34 : c = 34 := by
            have : c = UInt8.ofNat c.toNat := by simp
            rw [this, h34]; rfl
          have hbd := fun o => HBd.out o l hql hc34
          have HBD := Lib.hid hbd
          have hdl : q.dropLast = l := by rw [hql]; simp
          rw [hdl] at hR
          have HRR := Lib.hid hR
          clear hR h34 hbd hc34 hql hdl hq
          obtain ⟨P, hP⟩ : ∃ P, bodyP l = P := ⟨_, rfl⟩
          rw [hP] at HBD HRR
          clear hP
          obtain ⟨X, ok⟩ := P
          dsimp only at HBD HRR
          go_wp2_with fail
          refine (HBD.out _).mono ?_
          rintro e w2 ⟨rfl, hb2⟩
          have HB2 := Lib.hid ((HB.out _).trans (hb2.mono (by simp)))
          have HG2 := Lib.hid ((hb2.block w.heap.size (by simp)).trans (heap_alloc_new w _))
          clear hb2 HBD
          go_wp2_with (refine store_tok rfl (.tmp 2) (.tmp 44) rfl rfl w.heap.size rfl 3 (st X) (0) rfl HG2.out ?_)
          intro w3 hg3 hk3
          have HG3 := Lib.hid hg3
          have HB3 := Lib.hid (Kept1.mono HB2.out hk3 (Nat.le_refl _))
          clear hg3 hk3
          go_wp2_with fail
          exact bodyPost_ret (results_cell_slot Tryd.results21 _ _ (w.heap.size) 30 #[.int .i64 3, .string (st X), .int .i64 (0)] (0, 0) _ rfl HG3.out Tryd.underlying30 rfl info_tok (.bool ok) rfl) rfl ⟨⟨3, X, 0⟩, by rw [← HRR.out]; rfl, fun _ => by rw [← HRR.out], HB3.out⟩
        · have d34 : ((c.toNat : Int) == 34) = false := by simp; omega
          rw [if_neg h34] at hR
          clear h34
          obtain ⟨b5, hb5⟩ : ∃ b, signB (c :: q) = b := ⟨_, rfl⟩
          rw [hb5] at hR HSg
          clear hb5
          have HRR := Lib.hid hR
          clear hR
          go_wp2_with fail
          refine (HSg.out _).mono ?_
          rintro e w2 ⟨rfl, hb2⟩
          have HB2 := Lib.hid ((HB.out _).trans (hb2.mono (by simp)))
          have HG2 := Lib.hid ((hb2.block w.heap.size (by simp)).trans (heap_alloc_new w _))
          clear hb2
          go_wp2_with (refine store_tok rfl (.tmp 2) (.tmp 47) rfl rfl w.heap.size rfl 5 (s) (0) rfl HG2.out ?_)
          intro w3 hg3 hk3
          have HG3 := Lib.hid hg3
          have HB3 := Lib.hid (Kept1.mono HB2.out hk3 (Nat.le_refl _))
          clear hg3 hk3
          go_wp2_with fail
          exact bodyPost_ret (results_cell_slot Tryd.results21 _ _ (w.heap.size) 30 #[.int .i64 5, .string (s), .int .i64 (0)] (0, 0) _ rfl HG3.out Tryd.underlying30 rfl info_tok (.bool b5) rfl) rfl ⟨⟨5, c :: q, 0⟩, by rw [← HRR.out]; unfold Tk.val Tk.cells; dsimp only; rw [HSt.out], fun _ => by rw [← HRR.out], HB3.out⟩
end Go.Proofs.YtcmnfbjlhdfmgaaDoor
