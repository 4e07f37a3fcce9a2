/- The reference's Lex. -/
import Derived.Test.YtcmnfbjlhdfmgaaDoorLRefEq4
namespace Go.Proofs.YtcmnfbjlhdfmgaaDoor
open Go.RowKit

set_option maxRecDepth 100000 in
theorem run_slice_mid (w : World) (l : List UInt8) (k n : Nat) (h : k + n ≤ l.length) : (Instr.sliceAt 9 (.string (st l)) (some (.int .i64 (k : Int))) (some (.int .i64 ((k : Int) + (n : Int)))) none).run Tryd.prog w = .ok (.string (st ((l.drop k).take n))) w := by
  have hs := size_st l
  have e := st_extract l k (k + n)
  rw [show k + n - k = n by omega] at e
  have hb : (0 : Int) ≤ k ∧ (k : Int) ≤ (k : Int) + (n : Int) ∧ (k : Int) + (n : Int) ≤ ((st l).size : Int) := by omega
  have ht : ((k : Int) + (n : Int)).toNat = k + n := by omega
  simp [Instr.sliceAt, run_underlying Tryd.underlying9, go_sem, Instr.slice, Instr.sliceBounds, hb, ht, e]
  intro hh
  omega
set_option maxRecDepth 100000 in
set_option maxHeartbeats 8000000 in
theorem refLex_any (w : World) (l : List UInt8) (hl : l.length ≤ 50000) :
    Calls Tryd.prog 10 #[.string (st l)] w fun e w' => ∃ v, e = .returned (.tuple #[v, .int .i64 ((lexM l).2.1 : Int), .int .i64 (lexM l).2.2]) ∧ OwnT w' w.heap.size v (lexM l).1 ∧ Below w.heap.size w w' := by
  have hsz := size_st l
  have HI := Lib.hid (fun (w : World) (j : Nat) (b : UInt8) (h : l[j]? = some b) => run_index_st w l j b h)
  have HLo := Lib.hid (fun w k h => run_slice_lo w l k h)
  have HMid := Lib.hid (fun w k n h => run_slice_mid w l k n h)
  obtain ⟨s, hs⟩ : ∃ s, st l = s := ⟨_, rfl⟩
  rw [hs] at hsz HI HLo HMid ⊢
  clear hs
  by_cases hlong : 4096 < l.length
  · have d1 : decide ((4096 : Int) < (l.length : Int)) = true := by simp; omega
    have hR : lexM l = ([], 0, 3) := by unfold lexM; rw [if_pos hlong]
    rw [hR]
    clear hR
    go_enter Tryd.func10, Tryd.ntmps10
    go_wp2_with fail
    exact bodyPost_ret (v := .tuple #[.slice none 0 0, .int .i64 0, .int .i64 3]) (by simp [results, Tryd.results10, go_sem]) rfl ⟨_, rfl, OwnT.nil _ _, Below.refl _ _⟩
  · have d1 : decide ((4096 : Int) < (l.length : Int)) = false := by simp; omega
    have hR : lexM l = lexF l.length l.length (skipB false l) [] := by unfold lexM; rw [if_neg hlong]
    obtain ⟨R, hRR⟩ : ∃ R, lexM l = R := ⟨_, rfl⟩
    rw [hRR] at hR ⊢
    have R0 : LexRel w l (skipB false (l.drop 0)) l.length [] R (.slice none 0 0) w := ⟨OwnT.nil _ _, Below.refl _ _, hR.symm, skipB_le false l, skipB_le false l, by simp⟩
    clear hR hRR
    go_enter Tryd.func10, Tryd.ntmps10
    go_wp2_with fail
    go_loopw [5, 6, 7, 8, 9] (fun v i _ _ _ wr => ∃ (k f : Nat) (acc : List Tk), k ≤ l.length ∧ i = .int .i64 (k : Int) ∧ LexRel w l (skipB false (l.drop k)) f acc R v wr) (fun _ i _ _ _ _ => l.length - (intOf i).toNat)
    case atStart => exact ⟨0, l.length, [], by omega, rfl, R0⟩
    case round =>
      clear R0
      obtain ⟨k, f, acc, hk, rfl, hr⟩ := hrel
      have HR := Lib.hid hr
      clear hr
      by_cases hlt : k < l.length
      · have dlt : decide ((k : Int) < (l.length : Int)) = true := by simp; omega
        obtain ⟨c, hc⟩ : ∃ c, l[k]? = some c := ⟨l[k], List.getElem?_eq_getElem hlt⟩
        have hix := fun w => HI.out w k c hc
        have HDr := Lib.hid (qlen_step l k c hc)
        have HC := Lib.hid hc
        clear hc
        have heq : ∀ n : Nat, ((c.toNat : Int) == (n : Int)) = decide (c.toNat = n) := fun n => by
          by_cases h : c.toNat = n
          · rw [h]; simp
          · rw [decide_eq_false h]; simp; omega
        have e32 : ((c.toNat : Int) == 32) = decide (c.toNat = 32) := heq 32
        have e10 : ((c.toNat : Int) == 10) = decide (c.toNat = 10) := heq 10
        have e35 : ((c.toNat : Int) == 35) = decide (c.toNat = 35) := heq 35
        clear heq
        by_cases h32 : c.toNat = 32
        · rw [decide_eq_true h32] at e32
          have HS : Hid (skipB false (l.drop k) = skipB false (l.drop (k + 1))) := Lib.hid (by rw [HDr.out, skipB, if_pos (.inl h32)])
          clear h32 e10 e35
          go_wp2_with fail
          go_roundw
          case rel => exact ⟨k + 1, f, acc, by omega, by go_num, by rw [← HS.out]; exact HR.out⟩
          case measure => simp [intOf]; omega
        · rw [decide_eq_false h32] at e32
          by_cases h10 : c.toNat = 10
          · rw [decide_eq_true h10] at e10
            have HS : Hid (skipB false (l.drop k) = skipB false (l.drop (k + 1))) := Lib.hid (by rw [HDr.out, skipB, if_pos (.inr h10)])
            clear h32 h10 e35
            go_wp2_with fail
            go_roundw
            case rel => exact ⟨k + 1, f, acc, by omega, by go_num, by rw [← HS.out]; exact HR.out⟩
            case measure => simp [intOf]; omega
          · rw [decide_eq_false h10] at e10
            by_cases h35 : c.toNat = 35
            · rw [decide_eq_true h35] at e35
              have HS : Hid (skipB true (l.drop k) = skipB false (l.drop k)) := Lib.hid (by
                rw [HDr.out, skipB, skipB, if_neg (by omega), if_pos h35, decide_eq_false h10]; rfl)
              have HCk : Hid (∀ b, l[k]? = some b → b.toNat ≠ 10) := Lib.hid fun b hb => by
                rw [HC.out] at hb
                obtain rfl := Option.some.inj hb
                exact h10
              clear h32 h10 h35
              go_wp2_with fail
              go_loopw [6] (fun i wr2 => ∃ k2 : Nat, k ≤ k2 ∧ k2 ≤ l.length ∧ i = .int .i64 (k2 : Int) ∧ skipB true (l.drop k2) = skipB true (l.drop k) ∧ wr2 = wr) (fun i _ => l.length - (intOf i).toNat)
              case atStart => exact ⟨k, Nat.le_refl _, by omega, rfl, rfl, rfl⟩
              case round =>
                clear hix
                obtain ⟨k2, hk2, hk3, rfl, hsk, rfl⟩ := hrel
                have HSk := Lib.hid hsk
                clear hsk
                by_cases hlt2 : k2 < l.length
                · have dlt2 : decide ((k2 : Int) < (l.length : Int)) = true := by simp; omega
                  obtain ⟨b, hb⟩ : ∃ b, l[k2]? = some b := ⟨l[k2], List.getElem?_eq_getElem hlt2⟩
                  have hix2 := fun w => HI.out w k2 b hb
                  have HDr2 := Lib.hid (qlen_step l k2 b hb)
                  have HCk2 := Lib.hid (HCk.out b)
                  have HBb := Lib.hid hb
                  clear hb
                  by_cases hb10 : b.toNat = 10
                  · have n10 : ((b.toNat : Int) != 10) = false := by rw [hb10]; rfl
                    have HNk : Hid (k ≠ k2) := Lib.hid (fun e => by
                      have := HBb.out
                      rw [← e] at this
                      exact HCk2.out this hb10)
                    have HE : Hid (skipB false (l.drop k) = skipB false (l.drop k2)) := Lib.hid (by
                      rw [← HS.out, ← HSk.out, HDr2.out, skipB, skipB, if_pos (.inr hb10), decide_eq_true hb10]; rfl)
                    clear hb10
                    go_wp2_with fail
                    go_roundw
                    case rel => exact ⟨k2, f, acc, by omega, rfl, by rw [← HE.out]; exact HR.out⟩
                    case measure => have := HNk.out; simp [intOf]; omega
                  · have n10 : ((b.toNat : Int) != 10) = true := by simp; omega
                    have HE : Hid (skipB true (l.drop (k2 + 1)) = skipB true (l.drop k)) := Lib.hid (by
                      rw [← HSk.out, HDr2.out, skipB, decide_eq_false hb10]; rfl)
                    clear hb10
                    go_wp2_with fail
                    go_roundw
                    case rel => exact ⟨k2 + 1, by omega, by omega, by go_num, HE.out, by first | rfl | trivial⟩
                    case measure => simp [intOf]; omega
                · have dlt2 : decide ((k2 : Int) < (l.length : Int)) = false := by simp; omega
                  have HE : Hid (skipB false (l.drop k) = skipB false (l.drop k2)) := Lib.hid (by
                    rw [← HS.out, ← HSk.out, List.drop_eq_nil_of_le (by omega)]; simp [skipB])
                  go_wp2_with fail
                  go_roundw
                  case rel => exact ⟨k2, f, acc, by omega, rfl, by rw [← HE.out]; exact HR.out⟩
                  case measure => simp [intOf]; omega
            · rw [decide_eq_false h35] at e35
              have HS : Hid (skipB false (l.drop k) = c :: l.drop (k + 1)) := Lib.hid (by rw [HDr.out, skipB, if_neg (by omega), if_neg h35])
              have hlenr : (l.drop (k + 1)).length = l.length - (k + 1) := List.length_drop
              have hN := lenR_le c (l.drop (k + 1))
              have HSame := Lib.hid (same_all c (l.drop (k + 1)))
              have hre := HR.out.eq
              have hf1 := HR.out.len
              have hfew := HR.out.few
              rw [HS.out] at hre hf1
              simp only [List.length_cons] at hf1
              obtain ⟨f', rfl⟩ : ∃ f', f = f' + 1 := ⟨f - 1, by omega⟩
              rw [lexF, if_neg (by simp), show l.length - (c :: l.drop (k + 1)).length = k by rw [List.length_cons, hlenr]; omega] at hre
              have HFl : Hid (l.length - k ≤ f' + 1) := Lib.hid (by omega)
              have hslo := fun w => HLo.out w k hk
              have hmid := fun w => HMid.out w k (lenR c (l.drop (k + 1))) (by omega)
              rw [HDr.out] at hslo hmid
              have HLen := Lib.hid (fun W => length_ref W c (l.drop (k + 1)) (by omega))
              have HNil := Lib.hid one_nil
              have HOne := Lib.hid (fun W q (e : (c :: l.drop (k + 1)).take (lenR c (l.drop (k + 1))) = c :: q) => one_ref W c q (by
                have := congrArg List.length e
                rw [List.length_take, List.length_cons, List.length_cons] at this
                omega) (HSame.out.quote q e))
              have hdl : ∀ n, ((c :: l.drop (k + 1)).drop n) = l.drop (k + n) := fun n => by rw [← HDr.out, List.drop_drop]
              rw [hdl] at hre
              clear hdl h32 h10 h35 HS HDr HC
              generalize l.drop (k + 1) = r at *
              obtain ⟨n, hn⟩ : ∃ n, lenR c r = n := ⟨_, rfl⟩
              have HNo := Lib.hid HSame.out.none
              have HOk := Lib.hid HSame.out.ok
              have HTok := Lib.hid HSame.out.tok
              rw [hn] at hmid HLen HOne HNo HOk HTok hN
              obtain ⟨S1, hS1⟩ : ∃ S, st (c :: r) = S := ⟨_, rfl⟩
              rw [hS1] at hslo HLen
              obtain ⟨P, hP⟩ : ∃ P, (c :: r).take n = P := ⟨_, rfl⟩
              rw [hP] at hmid HOne HOk HTok
              have HPn : Hid (n = 0 → P = []) := Lib.hid fun h => by rw [← hP, h]; rfl
              have HPq : Hid (n ≠ 0 → ∃ q, P = c :: q) := Lib.hid fun h => by
                obtain ⟨m, rfl⟩ : ∃ m, n = m + 1 := ⟨n - 1, by omega⟩
                exact ⟨r.take m, by rw [← hP]; rfl⟩
              obtain ⟨S2, hS2⟩ : ∃ S, st P = S := ⟨_, rfl⟩
              rw [hS2] at hmid
              obtain ⟨⟨T, m⟩, hT⟩ : ∃ T, firstM (c :: r) = T := ⟨_, rfl⟩
              rw [hT] at hre HNo HOk HTok
              dsimp only at hre HNo HOk HTok
              have HRe := Lib.hid hre
              have hnk : n ≤ l.length - k := by omega
              have hOneAll : ∀ W, Calls Tryd.prog 21 #[.string S2] W fun e w' => ∃ (t : Tk) (ok : Bool), e = .returned (.tuple #[t.val, .bool ok]) ∧ ((n = 0 ∨ ok = false) → formB T = false) ∧ (n ≠ 0 → ok = true → t = T ∧ n = m ∧ formB T = true) ∧ Below W.heap.size W w' := fun W => by
                by_cases h0 : n = 0
                · have hp := HPn.out h0
                  have hz := HNil.out W
                  rw [← hp, hS2] at hz
                  refine hz.mono ?_
                  rintro e w' ⟨t, rfl, hb⟩
                  exact ⟨t, false, rfl, fun _ => HNo.out h0, fun h => absurd h0 h, hb⟩
                · obtain ⟨q, hq⟩ := HPq.out h0
                  have hz := HOne.out W q hq
                  rw [← hq, hS2] at hz
                  refine hz.mono ?_
                  rintro e w' ⟨t, rfl, ht, hb⟩
                  refine ⟨t, _, rfl, fun h => ?_, fun _ ho => ?_, hb⟩
                  · rcases h with h | h
                    · exact absurd h h0
                    · rw [← HOk.out q hq]; exact h
                  · have h1 := HTok.out q hq ho
                    exact ⟨by rw [ht ho, h1.1], h1.2, by rw [← HOk.out q hq]; exact ho⟩
              have HOA := Lib.hid hOneAll
              clear hre hOneAll HNil HOne HPn HPq HOk HTok HNo HSame hS1 hS2 hP hT hn hN hlenr hf1
              go_wp2_with fail
              refine (HLen.out wr).mono ?_
              rintro e w2 ⟨rfl, hb2⟩
              have HB2 := Lib.hid (HR.out.below.trans (hb2.mono HR.out.below.size))
              have HOw2 := Lib.hid (HR.out.own.below hb2)
              clear hb2
              go_wp2_with fail
              refine (HOA.out w2).mono ?_
              rintro e w3 ⟨t, ok, rfl, hbad, hgood, hb3⟩
              have HB3 := Lib.hid (HB2.out.trans (hb3.mono HB2.out.size))
              have HOw3 := Lib.hid (HOw2.out.below hb3)
              have HBad := Lib.hid hbad
              have HGood := Lib.hid hgood
              clear hb3 hbad hgood HOA
              unfold Tk.val Tk.cells
              obtain ⟨ts, hts⟩ : ∃ s, st t.s = s := ⟨_, rfl⟩
              rw [hts]
              have HTs := Lib.hid hts
              clear hts
              dsimp only
              by_cases h0 : n = 0
              · have dn : ((n : Int) == 0) = true := by rw [h0]; rfl
                have HRR : Hid (R = ([], k, 2)) := Lib.hid (by rw [← HRe.out, HBad.out (.inl h0), if_pos rfl])
                clear h0 hnk
                go_wp2_with fail
                exact bodyPost_ret (v := .tuple #[.slice none 0 0, .int .i64 (k : Int), .int .i64 2]) (by simp [results, Tryd.results10, go_sem]) rfl ⟨_, by rw [HRR.out], by rw [HRR.out]; exact OwnT.nil _ _, HB3.out.alloc HB3.out.size _⟩
              · have dn : ((n : Int) == 0) = false := by simp; omega
                cases ok with
                | false =>
                  have HRR : Hid (R = ([], k, 2)) := Lib.hid (by rw [← HRe.out, HBad.out (.inr rfl), if_pos rfl])
                  go_wp2_with fail
                  exact bodyPost_ret (v := .tuple #[.slice none 0 0, .int .i64 (k : Int), .int .i64 2]) (by simp [results, Tryd.results10, go_sem]) rfl ⟨_, by rw [HRR.out], by rw [HRR.out]; exact OwnT.nil _ _, HB3.out.alloc HB3.out.size _⟩
                | true =>
                  obtain ⟨ht, hm, hft⟩ := HGood.out h0 rfl
                  have hre := HRe.out
                  rw [hft, if_neg (by decide), ← ht, ← hm] at hre
                  clear ht hm hft
                  obtain ⟨a5, c5, rfl⟩ := HOw3.out.shape
                  by_cases h6 : acc.length = 600
                  · have d6 : ((acc.length : Int) == 600) = true := by rw [h6]; rfl
                    rw [if_pos h6] at hre
                    have HRR := Lib.hid hre.symm
                    clear hre h6
                    go_wp2_with fail
                    exact bodyPost_ret (v := .tuple #[.slice none 0 0, .int .i64 (k : Int), .int .i64 13]) (by simp [results, Tryd.results10, go_sem]) rfl ⟨_, by rw [HRR.out], by rw [HRR.out]; exact OwnT.nil _ _, HB3.out.alloc HB3.out.size _⟩
                  · have d6 : ((acc.length : Int) == 600) = false := by rw [beq_eq_false_iff_ne]; omega
                    rw [if_neg h6] at hre
                    have HRe2 := Lib.hid hre
                    clear hre
                    go_wp2_with (refine append_tok rfl (.tmp 70) (.tmp 72) rfl w.heap.size _ acc rfl t (w3.heap.size + 1) 1 rfl (by rw [Tk.cells, HTs.out]; exact heap_alloc2_new _ _ _) ((HOw3.out.below ((Below.refl _ _).alloc (Nat.le_refl _) _)).below ((Below.refl _ _).alloc (Nat.le_refl _) _)) (by omega) (by simp; have := HB3.out.size; omega) ?_)
                    intro v' w5 hown5 hb5
                    have HB5 := Lib.hid (((HB3.out.alloc HB3.out.size _).alloc (by simp; have := HB3.out.size; omega) _).trans hb5)
                    have HOwn5 := Lib.hid hown5
                    clear hown5 hb5
                    have R6 : LexRel w l (skipB false (l.drop (k + n))) f' (acc ++ [t]) R v' w5 := ⟨HOwn5.out, HB5.out, HRe2.out, by
                      have h1 := skipB_le false (l.drop (k + n))
                      rw [List.length_drop] at h1
                      have h2 := HR.out.len
                      have h3 := HFl.out
                      omega, by
                      have h1 := skipB_le false (l.drop (k + n))
                      rw [List.length_drop] at h1
                      omega, by simp; omega⟩
                    have HR6 := Lib.hid R6
                    clear R6
                    go_wp2_with fail
                    go_roundw
                    case rel => exact ⟨k + n, f', acc ++ [t], by omega, by go_num, HR6.out⟩
                    case measure => simp [intOf]; omega
      · have dlt : decide ((k : Int) < (l.length : Int)) = false := by simp; omega
        have HRR : Hid (R = (acc, 0, 0)) := Lib.hid (by
          have h1 := HR.out.eq
          rw [List.drop_eq_nil_of_le (by omega)] at h1
          rw [← h1]
          cases f <;> simp [lexF, skipB])
        go_wp2_with fail
        exact bodyPost_ret (v := .tuple #[u5, .int .i64 0, .int .i64 0]) (by simp [results, Tryd.results10, go_sem]) rfl ⟨u5, by rw [HRR.out]; rfl, by rw [HRR.out]; exact HR.out.own, HR.out.below⟩
end Go.Proofs.YtcmnfbjlhdfmgaaDoor
