/- The reference: what a text between quotes tells. -/
import Derived.Test.YtcmnfbjlhdfmgaaDoorLRefLen
namespace Go.Proofs.YtcmnfbjlhdfmgaaDoor
open Go.RowKit

def innerB : List UInt8 → Option (List UInt8)
  | [] => some []
  | c :: l => if c.toNat = 34 ∨ c.toNat < 32 ∨ 126 < c.toNat then none
    else if c.toNat = 92 then match l with
      | [] => none
      | d :: l => if mrkB d then (innerB l).map (d :: ·) else none
    else (innerB l).map (c :: ·)
set_option maxRecDepth 100000 in
theorem innerB_nil : innerB [] = some [] := by rw [innerB]
set_option maxRecDepth 100000 in
theorem innerB_bad (c : UInt8) (l : List UInt8) (h : c.toNat = 34 ∨ c.toNat < 32 ∨ 126 < c.toNat) : innerB (c :: l) = none := by rw [innerB.eq_def]; simp [h]
set_option maxRecDepth 100000 in
theorem innerB_end (c : UInt8) (h : c.toNat = 92) : innerB [c] = none := by rw [innerB.eq_def]; simp [h]
set_option maxRecDepth 100000 in
theorem innerB_esc (c d : UInt8) (l : List UInt8) (h : c.toNat = 92) : innerB (c :: d :: l) = if mrkB d then (innerB l).map (d :: ·) else none := by rw [innerB.eq_def]; simp [h]
set_option maxRecDepth 100000 in
theorem innerB_plain (c : UInt8) (l : List UInt8) (h : ¬ (c.toNat = 34 ∨ c.toNat < 32 ∨ 126 < c.toNat)) (h2 : c.toNat ≠ 92) : innerB (c :: l) = (innerB l).map (c :: ·) := by rw [innerB.eq_def]; simp only [h, h2, if_false]
def bodyP (l : List UInt8) : List UInt8 × Bool := match innerB l with
  | none => ([], false)
  | some x => (x, decide (x.length ≤ 64))
set_option maxRecDepth 100000 in
theorem bodyP_none {l : List UInt8} (h : innerB l = none) : bodyP l = ([], false) := by unfold bodyP; rw [h]
set_option maxRecDepth 100000 in
theorem bodyP_some {l x : List UInt8} (h : innerB l = some x) : bodyP l = (x, decide (x.length ≤ 64)) := by unfold bodyP; rw [h]
set_option maxRecDepth 100000 in
set_option maxHeartbeats 8000000 in
theorem body_ref (w : World) (l : List UInt8) (hl : l.length ≤ 100000) :
    Calls Tryd.prog 42 #[.string (st (34 :: (l ++ [34])))] w fun e w' => e = .returned (.tuple #[.string (st (bodyP l).1), .bool (bodyP l).2]) ∧ Below w.heap.size w w' := by
  have hsz := size_st (34 :: (l ++ [34]))
  have hsz2 : (34 :: (l ++ [34])).length = l.length + 2 := by simp
  rw [hsz2] at hsz
  clear hsz2
  have HC := Lib.hid conv_one
  have h0 : ∀ w, (Instr.index 9 (.string (st (34 :: (l ++ [34])))) (.int .i64 0)).run Tryd.prog w = .ok (.int .u8 34) w := fun w => run_index_st w (34 :: (l ++ [34])) 0 34 rfl
  have hE : ∀ w, (Instr.index 9 (.string (st (34 :: (l ++ [34])))) (.int .i64 ((l.length : Int) + 2 - 1))).run Tryd.prog w = .ok (.int .u8 34) w := fun w => by
    have := run_index_st w (34 :: (l ++ [34])) (l.length + 1) 34 (by simp)
    rw [show ((l.length : Int) + 2 - 1) = ((l.length + 1 : Nat) : Int) by omega]
    exact this
  have d2 : decide ((l.length : Int) + 2 < 2) = false := decide_eq_false (by omega)
  have HI := Lib.hid (fun (w : World) (j : Nat) (b : UInt8) (h : l[j]? = some b) => show (Instr.index 9 (.string (st (34 :: (l ++ [34])))) (.int .i64 ((j : Int) + 1))).run Tryd.prog w = .ok (.int .u8 (b.toNat : Int)) w from run_index_st w (34 :: (l ++ [34])) (j + 1) b (by
    rw [List.getElem?_cons_succ, List.getElem?_append_left (List.getElem?_eq_some_iff.1 h).1]; exact h))
  obtain ⟨P, hP⟩ : ∃ P, bodyP l = P := ⟨_, rfl⟩
  rw [hP]
  have HP := Lib.hid hP
  clear hP
  obtain ⟨s, hs⟩ : ∃ s, st (34 :: (l ++ [34])) = s := ⟨_, rfl⟩
  rw [hs] at hsz h0 hE HI ⊢
  clear hs
  have HNone : Hid (innerB l = none → P = ([], false)) := Lib.hid fun h => by rw [← HP.out, bodyP_none h]
  have HSome : Hid (∀ x, innerB l = some x → P = (x, decide (x.length ≤ 64))) := Lib.hid fun x h => by rw [← HP.out, bodyP_some h]
  clear HP
  obtain ⟨X, ok⟩ := P
  dsimp only
  go_enter Tryd.func42, Tryd.ntmps42
  go_wp2_with fail
  go_loopw [4, 5] (fun y i wr => ∃ (j : Nat) (o : List UInt8), j ≤ l.length ∧ o.length ≤ j ∧ i = .int .i64 ((j : Int) + 1) ∧ y = .string (st o) ∧ innerB l = (innerB (l.drop j)).map (o ++ ·) ∧ Below w.heap.size w wr) (fun _ i _ => l.length + 1 - (intOf i).toNat)
  case atStart => exact ⟨0, [], by omega, by simp, rfl, rfl, (by cases h : innerB l <;> simp [h]), Below.refl _ _⟩
  case round =>
    clear h0 hE
    obtain ⟨j, o, hj, ho, rfl, rfl, hin, hb⟩ := hrel
    have HIn := Lib.hid hin
    have HB := Lib.hid hb
    clear hin hb
    by_cases hlt : j < l.length
    · have dlt : decide ((j : Int) + 1 < (l.length : Int) + 2 - 1) = true := decide_eq_true (by omega)
      have dltP : (j < l.length) = True := eq_true hlt
      obtain ⟨c, hc⟩ : ∃ c, l[j]? = some c := ⟨l[j], List.getElem?_eq_getElem hlt⟩
      have hix := fun w => HI.out w j c hc
      have HDr := Lib.hid (qlen_step l j c hc)
      clear hc
      have heq : ∀ n : Nat, ((c.toNat : Int) == (n : Int)) = decide (c.toNat = n) := fun n => by
        by_cases h : c.toNat = n
        · rw [h]; simp
        · rw [decide_eq_false h]; simp; omega
      have e34 : ((c.toNat : Int) == 34) = decide (c.toNat = 34) := heq 34
      have e92 : ((c.toNat : Int) == 92) = decide (c.toNat = 92) := heq 92
      clear heq
      by_cases hbad : c.toNat = 34 ∨ c.toNat < 32 ∨ 126 < c.toNat
      · have HF := Lib.hid (HNone.out (by rw [HIn.out, HDr.out, innerB_bad _ _ hbad]; rfl))
        obtain ⟨e1, e2⟩ := Prod.mk.inj HF.out
        subst e1 e2
        clear HF e92
        by_cases h34 : c.toNat = 34
        · rw [decide_eq_true h34] at e34
          clear h34 hbad
          go_wp2_with fail
          refine bodyPost_ret (v := .tuple #[.string (st []), .bool false]) (by simp [results, Tryd.results42, go_sem]; rfl) rfl ?_
          exact ⟨rfl, HB.out⟩
        · rw [decide_eq_false h34] at e34
          by_cases h32 : c.toNat < 32
          · have e32 : decide ((c.toNat : Int) < 32) = true := decide_eq_true (by omega)
            clear h34 hbad h32
            go_wp2_with fail
            refine bodyPost_ret (v := .tuple #[.string (st []), .bool false]) (by simp [results, Tryd.results42, go_sem]; rfl) rfl ?_
            exact ⟨rfl, HB.out⟩
          · have e32 : decide ((c.toNat : Int) < 32) = false := decide_eq_false (by omega)
            have e126 : decide (126 < (c.toNat : Int)) = true := decide_eq_true (by omega)
            clear h34 hbad h32
            go_wp2_with fail
            refine bodyPost_ret (v := .tuple #[.string (st []), .bool false]) (by simp [results, Tryd.results42, go_sem]; rfl) rfl ?_
            exact ⟨rfl, HB.out⟩
      · rw [decide_eq_false (fun h => hbad (.inl h))] at e34
        have e32 : decide ((c.toNat : Int) < 32) = false := decide_eq_false (by omega)
        have e126 : decide (126 < (c.toNat : Int)) = false := decide_eq_false (by omega)
        by_cases h92 : c.toNat = 92
        · rw [decide_eq_true h92] at e92
          by_cases hend : j + 1 = l.length
          · have HF := Lib.hid (HNone.out (by rw [HIn.out, HDr.out, List.drop_eq_nil_of_le (by omega), innerB_end _ h92]; rfl))
            obtain ⟨e1, e2⟩ := Prod.mk.inj HF.out
            subst e1 e2
            have eend : ((j : Int) + 1 + 1 == (l.length : Int) + 2 - 1) = true := by simp; omega
            clear HF hend h92 hbad
            go_wp2_with fail
            refine bodyPost_ret (v := .tuple #[.string (st []), .bool false]) (by simp [results, Tryd.results42, go_sem]; rfl) rfl ?_
            exact ⟨rfl, HB.out⟩
          · have eend : ((j : Int) + 1 + 1 == (l.length : Int) + 2 - 1) = false := by simp; omega
            obtain ⟨d, hd⟩ : ∃ d, l[j + 1]? = some d := ⟨l[j + 1]'(by omega), List.getElem?_eq_getElem (by omega)⟩
            have hix2 : ∀ w, (Instr.index 9 (.string s) (.int .i64 ((j : Int) + 1 + 1))).run Tryd.prog w = .ok (.int .u8 (d.toNat : Int)) w := fun w => HI.out w (j + 1) d hd
            have HDr2 := Lib.hid (qlen_step l (j + 1) d hd)
            have hneq : ∀ n : Nat, ((d.toNat : Int) != (n : Int)) = !decide (d.toNat = n) := fun n => by
              by_cases h : d.toNat = n
              · rw [h]; simp
              · rw [decide_eq_false h]; simp; omega
            have n34 : ((d.toNat : Int) != 34) = !decide (d.toNat = 34) := hneq 34
            have n92 : ((d.toNat : Int) != 92) = !decide (d.toNat = 92) := hneq 92
            clear hneq hd
            have hstep := innerB_esc c d (l.drop (j + 1 + 1)) h92
            have hlt2 : j + 1 < l.length := by omega
            by_cases h34 : d.toNat = 34
            · rw [decide_eq_true h34] at n34
              have hmk : mrkB d = true := by simp [mrkB, h34]
              rw [hmk, if_pos rfl] at hstep
              have HF : Hid (innerB l = (innerB (l.drop (j + 2))).map ((o ++ [d]) ++ ·)) := Lib.hid (by
                rw [HIn.out, HDr.out, HDr2.out, hstep]
                cases innerB (l.drop (j + 1 + 1)) <;> simp)
              clear h34 h92 hbad hmk hstep hend
              have hcv := HC.out (wr.alloc (.cells #[.int .u8 (d.toNat : Int)] 5 (0, 0))) wr.heap.size d 1 (heap_alloc_new _ _)
              have hap := st_append o [d]
              have hno : ¬ (9223372036854775807 < (st o).size + (st [d]).size) := by rw [size_st, size_st]; simp only [List.length_cons, List.length_nil]; omega
              have HHS := Lib.hid HB.out.size
              go_wp2_with fail
              go_roundw
              case rel => exact ⟨j + 2, o ++ [d], by omega, (by simp; omega), by go_num, by first | rfl | rw [hap], HF.out, HB.out.alloc HHS.out _⟩
              case measure => simp [intOf]; omega
            · rw [decide_eq_false h34] at n34
              by_cases hd9 : d.toNat = 92
              · rw [decide_eq_true hd9] at n92
                have hmk : mrkB d = true := by simp [mrkB, hd9]
                rw [hmk, if_pos rfl] at hstep
                have HF : Hid (innerB l = (innerB (l.drop (j + 2))).map ((o ++ [d]) ++ ·)) := Lib.hid (by
                  rw [HIn.out, HDr.out, HDr2.out, hstep]
                  cases innerB (l.drop (j + 1 + 1)) <;> simp)
                clear h34 h92 hbad hmk hstep hend hd9
                have hcv := HC.out (wr.alloc (.cells #[.int .u8 (d.toNat : Int)] 5 (0, 0))) wr.heap.size d 1 (heap_alloc_new _ _)
                have hap := st_append o [d]
                have hno : ¬ (9223372036854775807 < (st o).size + (st [d]).size) := by rw [size_st, size_st]; simp only [List.length_cons, List.length_nil]; omega
                have HHS := Lib.hid HB.out.size
                go_wp2_with fail
                go_roundw
                case rel => exact ⟨j + 2, o ++ [d], by omega, (by simp; omega), by go_num, by first | rfl | rw [hap], HF.out, HB.out.alloc HHS.out _⟩
                case measure => simp [intOf]; omega
              · rw [decide_eq_false hd9] at n92
                have hmk : mrkB d = false := by simp [mrkB, h34, hd9]
                rw [hmk, if_neg (by decide)] at hstep
                have HF := Lib.hid (HNone.out (by rw [HIn.out, HDr.out, HDr2.out, hstep]; rfl))
                obtain ⟨e1, e2⟩ := Prod.mk.inj HF.out
                subst e1 e2
                clear h34 h92 hbad hmk hstep hend hd9 HF
                go_wp2_with fail
                refine bodyPost_ret (v := .tuple #[.string (st []), .bool false]) (by simp [results, Tryd.results42, go_sem]; rfl) rfl ?_
                exact ⟨rfl, HB.out⟩
        · rw [decide_eq_false h92] at e92
          have HF : Hid (innerB l = (innerB (l.drop (j + 1))).map ((o ++ [c]) ++ ·)) := Lib.hid (by
            rw [HIn.out, HDr.out, innerB_plain _ _ hbad h92]
            cases innerB (l.drop (j + 1)) <;> simp)
          clear h92 hbad
          have hcv := HC.out (wr.alloc (.cells #[.int .u8 (c.toNat : Int)] 5 (0, 0))) wr.heap.size c 1 (heap_alloc_new _ _)
          have hap := st_append o [c]
          have hno : ¬ (9223372036854775807 < (st o).size + (st [c]).size) := by rw [size_st, size_st]; simp only [List.length_cons, List.length_nil]; omega
          have HHS := Lib.hid HB.out.size
          go_wp2_with fail
          go_roundw
          case rel => exact ⟨j + 1, o ++ [c], by omega, (by simp; omega), by go_num, by first | rfl | rw [hap], HF.out, HB.out.alloc HHS.out _⟩
          case measure => simp [intOf]; omega
    · have dlt : decide ((j : Int) + 1 < (l.length : Int) + 2 - 1) = false := decide_eq_false (by omega)
      have dltP : (j < l.length) = False := eq_false hlt
      have HF := Lib.hid (HSome.out o (by rw [HIn.out, List.drop_eq_nil_of_le (by omega), innerB_nil]; simp))
      have hso := size_st o
      obtain ⟨e1, e2⟩ := Prod.mk.inj HF.out
      subst e1
      have HE2 := Lib.hid e2
      clear e2 HF
      go_wp2_with fail
      have hbb : decide ((X.length : Int) ≤ 64) = ok := by
        rw [HE2.out]
        by_cases h : X.length ≤ 64
        · rw [decide_eq_true h, decide_eq_true (by omega)]
        · rw [decide_eq_false h, decide_eq_false (by omega)]
      rw [hbb]
      refine bodyPost_ret (v := .tuple #[.string (st X), .bool ok]) (by simp [results, Tryd.results42, go_sem]) rfl ?_
      exact ⟨rfl, HB.out⟩
end Go.Proofs.YtcmnfbjlhdfmgaaDoor
