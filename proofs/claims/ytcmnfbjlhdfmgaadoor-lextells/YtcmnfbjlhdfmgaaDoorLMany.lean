/- As many tokens as may be, and one more. -/
import Derived.Test.YtcmnfbjlhdfmgaaDoorLLex
namespace Go.Proofs.YtcmnfbjlhdfmgaaDoor
open Go.RowKit

set_option maxRecDepth 100000 in
theorem OwnT.cell {w : World} {N : Nat} {v : Value} {ts : List Tk} (h : OwnT w N v ts) (hne : ts ≠ []) : ∃ g cp, v = .slice (some ⟨g, 0, none⟩) ts.length cp ∧ N ≤ g ∧ g < w.heap.size ∧ ∀ i c, (cellsT ts)[i]? = some c → w.cell? ⟨g, i, none⟩ = some c := by
  rcases h.row.2 with ⟨rfl, hn⟩ | ⟨g, cap, cur, rfl, hb, hg, hc, hm, hsz, ht⟩
  · exact absurd (List.eq_nil_of_length_eq_zero hn) hne
  · refine ⟨g, cap, rfl, hb, lt_block hg, fun i c hi => ?_⟩
    rw [cell_block hg]
    have hi' : i < ts.length * 3 := by have := (List.getElem?_eq_some_iff.1 hi).1; rwa [length_cellsT] at this
    rw [← ht, List.getElem?_take, if_pos hi'] at hi
    simpa using hi
set_option maxRecDepth 100000 in
theorem lex_awake : lexM [120, 32, 60, 61, 32, 64, 53] = ([⟨1, [120], 0⟩, ⟨5, [60, 61], 0⟩, ⟨4, [], 5⟩], 0, 0) := by decide +kernel
set_option maxRecDepth 100000 in
set_option maxHeartbeats 1000000 in
theorem awake_any (w : World) (hw : LexW w) : Calls Tryd.prog 8 #[] w fun e w' => e = .returned (.bool true) ∧ Below w.heap.size w w' := by
  have h := lex_any w hw [120, 32, 60, 61, 32, 64, 53] (by decide)
  rw [lex_awake] at h
  have h : Calls Tryd.prog 9 #[.string ⟨#[120, 32, 60, 61, 32, 64, 53]⟩] w fun e w' => ∃ v, e = .returned (.tuple #[v, .int .i64 0, .int .i64 0]) ∧ OwnT w' w.heap.size v [⟨1, [120], 0⟩, ⟨5, [60, 61], 0⟩, ⟨4, [], 5⟩] ∧ Below w.heap.size w w' := h
  have HL := Lib.hid h
  clear h hw
  go_enter Tryd.func8, Tryd.ntmps8
  go_wp2_with fail
  refine HL.out.mono ?_
  rintro e w1 ⟨v, rfl, hown, hb⟩
  obtain ⟨g, cp, rfl, hg1, hg2, hc⟩ := hown.cell (by simp)
  have c8 := hc 8 (.int .i64 5) rfl
  have HB := Lib.hid hb
  clear hown hb hc HL
  go_wp2_with fail
  go_ret
  exact ⟨rfl, HB.out⟩
set_option maxRecDepth 100000 in
/-- bytes behind, out of a slice of a new block -/
theorem append_lst {ops : Array Oper} {rest : List Oper} {o : Oper} {a : Act} {w : World} {Q : Exit → Act → World → Prop} (hgd : o.guard = none) (s x : Operand)
    (ho : o.op = .call { callee := .builtin .append, args := #[s, x], argTypes := #[36, 36] })
    (N : Nat) (v : Value) (l : List UInt8) (hs : a.eval s = v) (c : List UInt8) (hc : c ≠ []) (g m cp : Nat) (hm : m = c.length) (hx : a.eval x = .slice (some ⟨g, 0, none⟩) m cp) (hg : w.heap[g]? = some (.cells (c.map B).toArray 5 (0, 0))) (hown : OwnY w N v l) (hlen : l.length + c.length ≤ 1000000) (hN : N ≤ w.heap.size)
    (k : ∀ v' w', OwnY w' N v' (l ++ c) → Below N w w' → wpList Tryd.prog ops Q rest (a.put o.dst v') w') : wpList Tryd.prog ops Q (o :: rest) a w := by
  subst hm
  obtain ⟨i, hi, hz, hsz, hby⟩ := info_parts (show (Tryd.prog.info? 5).map (fun i => (i.zero, i.size, i.bytes)) = some (some (.int .u8 0), 1, 1) by kernel_rfl)
  have hpos : 0 < c.length := List.length_pos_iff.2 hc
  refine wpList_append_own_wide w hgd s x 36 ho N 5 i _ 1 1 Tryd.underlying36 hi hz hsz hby rfl (by omega) v l.length (l.map B) hs hown.row ⟨g, 0, none⟩ c.length cp (c.map B) hx (by simp) (fun j u hj => by
    rw [Addr.add_mid, Nat.zero_add, cell_block hg]
    simpa using hj) (fun u hu => by obtain ⟨x, _, rfl⟩ := List.mem_map.1 hu; rfl) (by unfold maxLen; omega) (by omega) hN ?_
  intro v' w' hown'' hgr _
  exact k v' w' ⟨by rw [List.length_append, List.map_append]; exact hown''⟩ ((Below.refl N w).grown hgr hN (fun b hb => (hown.row.lt b hb).1))
set_option maxRecDepth 100000 in
theorem run_make_cap (w : World) (n : Nat) (hn : n ≤ 1000000) : (Instr.makeSlice 36 (.int .i64 0) (.int .i64 (n : Int))).run Tryd.prog w = .ok (.slice (some ⟨w.heap.size, 0, none⟩) 0 n) (w.alloc (.cells ((List.replicate n 0).map B).toArray 5)) := by
  obtain ⟨i, hi, hz, hs, hb⟩ := info_parts (show (Tryd.prog.info? 5).map (fun i => (i.zero, i.size, i.bytes)) = some (some (.int .u8 0), 1, 1) by kernel_rfl)
  have hr := run_make (P := Tryd.prog) w 36 5 i (.int .u8 0) Tryd.underlying36 hi hz .i64 .i64 0 n (by omega) (by omega) (by rw [hb]; omega) (by omega)
  have hm : madeCells (Value.int .u8 0).cells n = ((List.replicate n 0).map B).toArray := by
    apply Array.ext
    · simp [madeCells]
    · intro j h1 h2
      simp [madeCells, Value.cells, B, Nat.mod_one]
  rw [hs, Int.toNat_natCast, Nat.mul_one, hm] at hr
  exact hr
set_option maxRecDepth 100000 in
theorem own_made (w : World) (n : Nat) (hn : n ≤ 1000000) : OwnY (w.alloc (.cells ((List.replicate n 0).map B).toArray 5)) w.heap.size (.slice (some ⟨w.heap.size, 0, none⟩) 0 n) [] :=
  ⟨⟨rfl, .inr ⟨w.heap.size, n, _, rfl, Nat.le_refl _, heap_alloc_new _ _, Nat.zero_le _, by unfold maxLen; omega, by simp, by simp⟩⟩⟩
def t7 : Tk := ⟨2, [], 7⟩
def repL : Nat → List UInt8
  | 0 => []
  | k + 1 => 55 :: 32 :: repL k
set_option maxRecDepth 100000 in
theorem repL_snoc (k : Nat) : repL k ++ [55, 32] = repL (k + 1) := by
  induction k with
  | zero => rfl
  | succ k ih =>
    show 55 :: 32 :: (repL k ++ [55, 32]) = _
    rw [ih]; rfl
set_option maxRecDepth 100000 in
theorem length_repL (k : Nat) : (repL k).length = 2 * k := by
  induction k with
  | zero => rfl
  | succ k ih => show (repL k).length + 1 + 1 = _; omega
set_option maxRecDepth 100000 in
theorem skip_rep (k : Nat) : skipB false (repL k) = repL k := by
  cases k with
  | zero => rfl
  | succ k => rfl
set_option maxRecDepth 100000 in
theorem first_rep (l : List UInt8) : firstM (55 :: 32 :: l) = (t7, 1) := by
  have hr : runN digB (55 :: 32 :: l) = 1 := by
    rw [runN_cons, if_pos (by decide), runN_cons, if_neg (by decide)]
  have hd : digM (55 :: 32 :: l) = (7, 1) := by
    have h := digM_ok (l := 55 :: 32 :: l) (v := 7) (by
      rw [hr]
      rintro (h | ⟨c, h1, h2⟩)
      · omega
      · obtain rfl : 32 = c := by simpa using h1
        revert h2; decide) (by rw [hr]; rfl)
    rw [h, hr]
  have e : firstM (55 :: 32 :: l) = numM1 (55 :: 32 :: l) := by
    unfold firstM
    dsimp only
    rw [if_neg (by decide), if_pos (by decide)]
  rw [e]
  unfold numM1
  rw [hd]
  rfl
set_option maxRecDepth 100000 in
set_option maxHeartbeats 1000000 in
theorem lex_rep (N : Nat) : ∀ (k f : Nat) (acc : List Tk), 2 * k ≤ f → acc.length ≤ 600 → lexF N f (repL k) acc = if acc.length + k ≤ 600 then (acc ++ List.replicate k t7, 0, 0) else ([], N - 2 * (acc.length + k - 600), 13)
  | 0, f, acc, _, h => by
    rw [if_pos (by omega)]
    cases f <;> simp [lexF, repL]
  | k + 1, 0, acc, hf, _ => by omega
  | k + 1, f + 1, acc, hf, h => by
    have hfm : firstM (repL (k + 1)) = (t7, 1) := first_rep (repL k)
    rw [lexF, if_neg (by simp [repL]), hfm, if_neg (by decide)]
    by_cases h6 : acc.length = 600
    · rw [if_pos h6, if_neg (by omega), length_repL, show 2 * (acc.length + (k + 1) - 600) = 2 * (k + 1) by omega]
    · rw [if_neg h6]
      have hsk : skipB false ((repL (k + 1)).drop 1) = repL k := by
        show skipB false (32 :: repL k) = _
        rw [skipB, if_pos (by decide), skip_rep]
      dsimp only
      rw [hsk, lex_rep N k f (acc ++ [t7]) (by omega) (by simp; omega)]
      simp only [List.length_append, List.length_singleton]
      by_cases h7 : acc.length + (k + 1) ≤ 600
      · rw [if_pos (by omega), if_pos h7, List.append_assoc, List.replicate_succ, List.singleton_append]
      · rw [if_neg (by omega), if_neg h7, show acc.length + 1 + k = acc.length + (k + 1) by omega]
set_option maxRecDepth 100000 in
theorem lexM_rep (k : Nat) (hk : k < 700) : lexM (repL k) = if k ≤ 600 then (List.replicate k t7, 0, 0) else ([], 1200, 13) := by
  unfold lexM
  rw [length_repL, if_neg (by omega), skip_rep, lex_rep _ _ _ _ (Nat.le_refl _) (by simp)]
  simp only [List.length_nil, Nat.zero_add, List.nil_append]
  by_cases h : k ≤ 600
  · rw [if_pos h, if_pos h]
  · rw [if_neg h, if_neg h, show 2 * k - 2 * (k - 600) = 1200 by omega]
set_option maxRecDepth 100000 in
set_option maxHeartbeats 4000000 in
theorem lexMany_walk (w : World) (hw : LexW w) (n : Nat) (hn : n < 65536) :
    Calls Tryd.prog 7 #[.int .u16 (n : Int)] w fun e w' => e = .returned (.bool true) ∧ Below w.heap.size w w' := by
  have HA := Lib.hid (awake_any w hw)
  have HW := Lib.hid hw
  obtain ⟨k, hk⟩ : ∃ k, n % 700 = k := ⟨_, rfl⟩
  have hk7 : k < 700 := by omega
  have hmod : ((n : Int).tmod 700) = (k : Int) := by rw [Int.tmod_eq_emod_of_nonneg (by omega), ← hk]; omega
  clear hw hk
  have hmk : ∀ w, (Instr.makeSlice 36 (.int .i64 0) (.int .i64 (2 * (k : Int)))).run Tryd.prog w = .ok (.slice (some ⟨w.heap.size, 0, none⟩) 0 (2 * k)) (w.alloc (.cells ((List.replicate (2 * k) 0).map B).toArray 5)) := fun w => run_make_cap w (2 * k) (by omega)
  have HOm := Lib.hid (fun w => own_made w (2 * k) (by omega))
  obtain ⟨Z, hZ⟩ : ∃ Z, ((List.replicate (2 * k) (0 : UInt8)).map B).toArray = Z := ⟨_, rfl⟩
  simp only [hZ] at hmk HOm
  clear hZ
  go_enter Tryd.func7, Tryd.ntmps7
  go_wp2_with fail
  refine HA.out.mono ?_
  rintro e w1 ⟨rfl, hb1⟩
  have HB1 := Lib.hid hb1
  clear hb1 HA
  go_wp2_with fail
  have R0 : OwnY (w1.alloc (.cells Z 5)) w1.heap.size (.slice (some ⟨w1.heap.size, 0, none⟩) 0 (2 * k)) (repL 0) := HOm.out w1
  have hb0 := HB1.out.alloc HB1.out.size (.cells Z 5)
  have hN0 : w1.heap.size ≤ (w1.alloc (.cells Z 5)).heap.size := by simp
  generalize w1.alloc (.cells Z 5) = W0 at *
  clear hmk HOm
  have hN1 := HB1.out.size
  go_loopw [4, 5] (fun v i wr => ∃ j : Nat, j ≤ k ∧ i = .int .i64 (j : Int) ∧ OwnY wr w1.heap.size v (repL j) ∧ Below w.heap.size w wr ∧ w1.heap.size ≤ wr.heap.size) (fun _ i _ => k - (intOf i).toNat)
  case atStart => exact ⟨0, by omega, rfl, R0, hb0, hN0⟩
  case round =>
    clear R0 hb0 hN0
    obtain ⟨j, hj, rfl, hown, hb, hN⟩ := hrel
    have HO := Lib.hid hown
    have HB := Lib.hid hb
    clear hown hb
    by_cases hlt : j < k
    · have hd : decide ((j : Int) < (k : Int)) = true := by simp; omega
      have HRl : Hid ((repL j).length = 2 * j) := Lib.hid (length_repL j)
      go_wp2_with (at_builtin; refine append_lst rfl (.tmp 22) (.tmp 23) rfl w1.heap.size _ (repL j) rfl [55, 32] (by simp) wr.heap.size 2 2 rfl rfl (heap_alloc_new _ _) (HO.out.below ((Below.refl _ _).alloc (Nat.le_refl _) _)) (by rw [HRl.out]; simp; omega) (by simp; omega) ?_)
      intro v' w2 hown2 hb2
      have hsz2 := hb2.size
      rw [repL_snoc] at hown2
      have HO2 := Lib.hid hown2
      have HB2 := Lib.hid ((HB.out.alloc (by have := HB.out.size; exact this) _).trans (hb2.mono hN1))
      have hN2 : w1.heap.size ≤ w2.heap.size := by simp at hsz2; omega
      clear hown2 hb2 hsz2
      go_wp2_with fail
      go_roundw
      case rel => exact ⟨j + 1, by omega, by go_num, HO2.out, HB2.out, hN2⟩
      case measure => simp [intOf]; omega
    · have hd : decide ((j : Int) < (k : Int)) = false := by simp; omega
      obtain rfl : j = k := by omega
      have hcv := HO.out.conv
      have hL := lex_any wr (HW.out.below HB.out) (repL j) (by rw [length_repL]; omega)
      rw [lexM_rep j hk7] at hL
      by_cases h6 : j ≤ 600
      · rw [if_pos h6] at hL
        have d6 : decide ((j : Int) ≤ 600) = true := by simp; omega
        have HL := Lib.hid hL
        clear hL
        go_wp2_with (simp only [hcv])
        refine HL.out.mono ?_
        rintro e w2 ⟨v, rfl, hown2, hb2⟩
        obtain ⟨a2, c2, hv2⟩ := hown2.shape
        rw [List.length_replicate] at hv2
        subst hv2
        have HB2 := Lib.hid (HB.out.trans (hb2.mono HB.out.size))
        clear hown2 hb2 HL hcv
        go_wp2_with fail
        go_ret
        exact ⟨rfl, HB2.out⟩
      · rw [if_neg h6] at hL
        have d6 : decide ((j : Int) ≤ 600) = false := by simp; omega
        have HL := Lib.hid hL
        clear hL
        go_wp2_with (simp only [hcv])
        refine HL.out.mono ?_
        rintro e w2 ⟨v, rfl, hown2, hb2⟩
        obtain ⟨a2, c2, hv2⟩ := hown2.shape
        subst hv2
        have HB2 := Lib.hid (HB.out.trans (hb2.mono HB.out.size))
        clear hown2 hb2 HL hcv
        go_wp2_with fail
        go_ret
        exact ⟨rfl, HB2.out⟩
end Go.Proofs.YtcmnfbjlhdfmgaaDoor
