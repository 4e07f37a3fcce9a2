/- Join. -/
import Derived.Test.YtcmnfbjlhdfmgaaDoorLSame
namespace Go.Proofs.YtcmnfbjlhdfmgaaDoor
open Go.RowKit

set_option maxRecDepth 100000 in
/-- one byte more, and what else is kept -/
theorem append_oneK {ops : Array Oper} {rest : List Oper} {o : Oper} {a : Act} {w : World} {Q : Exit → Act → World → Prop} (hgd : o.guard = none) (s x : Operand)
    (ho : o.op = .call { callee := .builtin .append, args := #[s, x], argTypes := #[36, 36] })
    (N : Nat) (v : Value) (l : List UInt8) (hs : a.eval s = v) (c : UInt8) (g cp : Nat) (hx : a.eval x = .slice (some ⟨g, 0, none⟩) 1 cp) (hg : w.heap[g]? = some (.cells #[.int .u8 (c.toNat : Int)] 5 (0, 0))) (hown : OwnY w N v l) (hlen : l.length ≤ 1000000) (hN : N ≤ w.heap.size)
    (k : ∀ v' w', OwnY w' N v' (l ++ [c]) → Below N w w' → Lib.OthersKept 5 none w w' → wpList Tryd.prog ops Q rest (a.put o.dst v') w') : wpList Tryd.prog ops Q (o :: rest) a w := by
  obtain ⟨i, hi, hz, hsz, hby⟩ := info_parts (show (Tryd.prog.info? 5).map (fun i => (i.zero, i.size, i.bytes)) = some (some (.int .u8 0), 1, 1) by kernel_rfl)
  refine wpList_append_own_wide w hgd s x 36 ho N 5 i _ 1 1 Tryd.underlying36 hi hz hsz hby rfl (by omega) v l.length (l.map B) hs hown.row ⟨g, 0, none⟩ 1 cp [B c] hx rfl (fun j u hj => by
    rw [Addr.add_mid, Nat.zero_add, cell_block hg]
    simpa using hj) (fun u hu => by obtain rfl := List.mem_singleton.1 hu; rfl) (by unfold maxLen; omega) (by omega) hN ?_
  intro v' w' hown'' hgr _
  refine k v' w' ⟨by rw [List.length_append, List.map_append]; exact hown''⟩ ((Below.refl N w).grown hgr hN (fun b hb => (hown.row.lt b hb).1)) ((Lib.OthersKept.refl _ _ w).grown hgr fun b hb => ?_)
  rcases hown.row.2 with ⟨rfl, _⟩ | ⟨g2, cap, cur, rfl, _, hg2, _⟩
  · simp [Value.ownBlock] at hb
  · obtain rfl : g2 = b := by simpa [Value.ownBlock] using hb
    exact ⟨_, _, hg2⟩
/-- tokens shown, a blank ahead of each -/
def joinT : List Tk → List UInt8
  | [] => []
  | t :: l => 32 :: (shM t ++ joinT l)
def joinM (l : List Tk) : List UInt8 := (joinT l).drop 1
set_option maxRecDepth 100000 in
theorem joinT_snoc (l : List Tk) (t : Tk) : joinT (l ++ [t]) = joinT l ++ 32 :: shM t := by
  induction l with
  | nil => simp [joinT]
  | cons a l ih => simp [joinT, ih]
set_option maxRecDepth 100000 in
theorem joinM_one (t : Tk) : joinM [t] = shM t := by simp [joinM, joinT]
set_option maxRecDepth 100000 in
theorem joinM_snoc (l : List Tk) (t : Tk) (h : l ≠ []) : joinM (l ++ [t]) = joinM l ++ 32 :: shM t := by
  unfold joinM
  rw [joinT_snoc]
  cases l with
  | nil => exact absurd rfl h
  | cons a l => simp [joinT]
set_option maxRecDepth 100000 in
theorem length_shM (t : Tk) (ht : t.Ok) (hs : t.s.length ≤ 200) : (shM t).length ≤ 440 := by
  have := length_show t ht
  unfold shM
  split
  · omega
  · simp
set_option maxRecDepth 100000 in
theorem length_joinT (l : List Tk) (h : ∀ t ∈ l, t.Ok ∧ t.s.length ≤ 200) : (joinT l).length ≤ 441 * l.length := by
  induction l with
  | nil => simp [joinT]
  | cons a l ih =>
    have h1 := h a (List.mem_cons_self ..)
    have h2 := length_shM a h1.1 h1.2
    have h3 := ih fun t ht => h t (List.mem_cons_of_mem _ ht)
    simp only [joinT, List.length_cons, List.length_append]
    omega
set_option maxRecDepth 100000 in
theorem length_joinM (l : List Tk) (h : ∀ t ∈ l, t.Ok ∧ t.s.length ≤ 200) : (joinM l).length ≤ 441 * l.length := by
  have := length_joinT l h
  unfold joinM
  simp; omega
set_option maxRecDepth 100000 in
set_option maxHeartbeats 4000000 in
theorem join_any (w : World) (hw : LexW w) (h9 : 9 ≤ w.heap.size) (ad : Option Addr) (g o cp : Nat) (l : List Tk) (hr : TokAt w ad g o l) (hl : l.length ≤ 100) (hts : ∀ t ∈ l, t.Ok ∧ t.s.length ≤ 200) :
    Calls Tryd.prog 17 #[.slice ad l.length cp] w fun e w' => e = .returned (.string (st (joinM l))) ∧ Below w.heap.size w w' := by
  have HW := Lib.hid hw
  have HA := Lib.hid hr.addr
  have HC := Lib.hid hr.range
  have HT := Lib.hid hts
  have HLen : Hid (∀ k, k ≤ l.length → (joinM (l.take k)).length ≤ 50000) := Lib.hid fun k hk => by
    have := length_joinM (l.take k) (fun t ht => hts t (List.mem_of_mem_take ht))
    rw [List.length_take] at this
    omega
  clear hr hts hw
  go_enter Tryd.func17, Tryd.ntmps17
  go_wp2_with fail
  have R0 := Lib.hid (OwnY.nil w w.heap.size)
  go_loopw [3, 8] (fun b i wr => ∃ k : Nat, k ≤ l.length ∧ i = .int .i64 (k : Int) ∧ OwnY wr w.heap.size b (joinM (l.take k)) ∧ Below w.heap.size w wr) (fun _ i _ => l.length - (intOf i).toNat)
  case atStart => exact ⟨0, by omega, rfl, R0.out, Below.refl _ _⟩
  case round =>
    clear R0
    obtain ⟨k, hk, rfl, hown, hb⟩ := hrel
    have HO := Lib.hid hown
    have HB := Lib.hid hb
    clear hown hb
    have hlen := HLen.out k hk
    by_cases hlt : k < l.length
    · have dlt : decide ((k : Int) < (l.length : Int)) = true := by simp; omega
      obtain rfl := HA.out (by intro e; rw [e] at hlt; cases hlt)
      have hc := HC.out k hlt
      have HTk := Lib.hid (HT.out l[k] (List.getElem_mem hlt))
      have HSn : Hid (l.take (k + 1) = l.take k ++ [l[k]]) := Lib.hid (List.take_succ_eq_append_getElem hlt)
      have HEm : Hid (l.take k = [] ↔ k = 0) := Lib.hid (by
        rw [← List.length_eq_zero_iff, List.length_take]; omega)
      clear HA HC
      generalize l[k] = t at *
      have hgl : g < w.heap.size := block_lt_of_cell (hc 0 (.int .i64 t.k) rfl)
      have c0 : wr.cell? ⟨g, o + k * 3, none⟩ = some (.int .i64 t.k) := by rw [HB.out.cell (by exact hgl)]; exact hc 0 (.int .i64 t.k) rfl
      have c1 : wr.cell? ⟨g, o + k * 3 + 1, none⟩ = some (.string (st t.s)) := by rw [HB.out.cell (by exact hgl)]; exact hc 1 (.string (st t.s)) rfl
      have c2 : wr.cell? ⟨g, o + k * 3 + 2, none⟩ = some (.int .i64 t.n) := by rw [HB.out.cell (by exact hgl)]; exact hc 2 (.int .i64 t.n) rfl
      clear hc hgl
      have HV : Hid (t.val = .agg #[.int .i64 t.k, .string (st t.s), .int .i64 t.n]) := Lib.hid rfl
      obtain ⟨s, hs⟩ : ∃ s, st t.s = s := ⟨_, rfl⟩
      rw [hs] at c1 HV
      clear hs
      by_cases h0 : k = 0
      · have d0 : decide ((0 : Int) < (k : Int)) = false := by simp; omega
        have d0P : (0 < k) = False := by simp; omega
        have H0 := Lib.hid h0
        clear h0
        go_wp2_with fail
        have hal : Below wr.heap.size wr (wr.alloc (.cells #[.int .i64 t.k, .string s, .int .i64 t.n] 30 (0, 0))) := (Below.refl _ _).alloc (Nat.le_refl _) _
        have hN1 : w.heap.size ≤ (wr.alloc (.cells #[.int .i64 t.k, .string s, .int .i64 t.n] 30 (0, 0))).heap.size := by have := hal.size; have := HB.out.size; omega
        have HB1 := Lib.hid (HB.out.trans (hal.mono HB.out.size))
        have hap := appendShown_any _ (HW.out.low HB1.out h9) w.heap.size _ _ t HTk.out.1 (by have := HTk.out.2; omega) (HO.out.below hal) hN1 h9 (by omega)
        rw [HV.out] at hap
        refine hap.mono ?_
        rintro e w2 ⟨v2, rfl, hown2, hb2⟩
        have HB2 := Lib.hid (HB1.out.trans hb2)
        have HO2 : Hid (OwnY w2 w.heap.size v2 (joinM (l.take (k + 1)))) := Lib.hid (by
          have e1 := HEm.out.2 H0.out
          rw [HSn.out, e1, List.nil_append, joinM_one]
          rw [e1] at hown2
          exact hown2)
        clear c0 c1 c2 hap hown2 hb2 hal hN1
        go_wp2_with fail
        go_roundw
        case rel => exact ⟨k + 1, by omega, by go_num, HO2.out, HB2.out⟩
        case measure => simp [intOf]; omega
      · have d0 : decide ((0 : Int) < (k : Int)) = true := by simp; omega
        have d0P : (0 < k) = True := by simp; omega
        have H0 := Lib.hid h0
        clear h0
        have hal : Below wr.heap.size wr (wr.alloc (.cells #[.int .i64 t.k, .string s, .int .i64 t.n] 30 (0, 0))) := (Below.refl _ _).alloc (Nat.le_refl _) _
        have hbx : (wr.alloc (.cells #[.int .i64 t.k, .string s, .int .i64 t.n] 30 (0, 0))).heap[wr.heap.size]? = some (.cells #[.int .i64 t.k, .string s, .int .i64 t.n] 30 (0, 0)) := heap_alloc_new _ _
        have HAL := Lib.hid hal
        have HBX := Lib.hid hbx
        clear hal hbx
        obtain ⟨y, hy⟩ : ∃ y, joinM (l.take k) = y := ⟨_, rfl⟩
        have HY : Hid (joinM (l.take (k + 1)) = y ++ (32 :: shM t)) := Lib.hid (by rw [HSn.out, joinM_snoc _ _ (fun e => H0.out (HEm.out.1 e)), hy])
        rw [hy] at HO hlen
        clear hy
        have HSz := Lib.hid HB.out.size
        go_wp2_with (at_builtin; refine append_oneK rfl (.tmp 15) (.tmp 16) rfl w.heap.size _ y rfl 32 (wr.heap.size + 1) 1 rfl (heap_alloc2_new _ _ _) ((HO.out.below HAL.out).below ((Below.refl _ _).alloc (Nat.le_refl _) _)) (by omega) (by have := HSz.out; simp; omega) ?_)
        intro v2 w2 hown2 hb2 hk2
        have hbx2 := hk2 _ _ ((Below.heap_alloc _ _ _ (by simp)).trans HBX.out) (by simp) (by intro c fz hc; injection hc with _ h2; exact absurd h2 (by decide))
        have HB2 := Lib.hid (((HB.out.trans (HAL.out.mono HB.out.size)).alloc (by have := HB.out.size; simp; omega) _).trans hb2)
        have HO2 := Lib.hid hown2
        clear c0 c1 c2 hk2 hb2 hown2
        have c0 : w2.cell? ⟨wr.heap.size, 0, none⟩ = some (.int .i64 t.k) := by rw [cell_block hbx2]; rfl
        have c1 : w2.cell? ⟨wr.heap.size, 1, none⟩ = some (.string s) := by rw [cell_block hbx2]; rfl
        have c2 : w2.cell? ⟨wr.heap.size, 2, none⟩ = some (.int .i64 t.n) := by rw [cell_block hbx2]; rfl
        clear hbx2
        have hN2 : w.heap.size ≤ w2.heap.size := HB2.out.size
        have hap := appendShown_any _ (HW.out.low HB2.out h9) w.heap.size _ _ t HTk.out.1 (by have := HTk.out.2; omega) HO2.out hN2 h9 (by simp; omega)
        rw [HV.out] at hap
        have HAP := Lib.hid hap
        clear hap hN2
        go_wp2_with fail
        refine HAP.out.mono ?_
        rintro e w3 ⟨v3, rfl, hown3, hb3⟩
        have HB3 := Lib.hid (HB2.out.trans hb3)
        have HO3 : Hid (OwnY w3 w.heap.size v3 (joinM (l.take (k + 1)))) := Lib.hid (by
          rw [HY.out]
          have e1 : y ++ 32 :: shM t = (y ++ [32]) ++ shM t := by simp
          rw [e1]
          exact hown3)
        clear c0 c1 c2 hown3 hb3
        go_wp2_with fail
        go_roundw
        case rel => exact ⟨k + 1, by omega, by go_num, HO3.out, HB3.out⟩
        case measure => simp [intOf]; omega
    · have dlt : decide ((k : Int) < (l.length : Int)) = false := by simp; omega
      obtain rfl : k = l.length := by omega
      have hcv := HO.out.conv
      rw [List.take_length] at hcv
      go_wp2_with fail
      go_ret
      exact ⟨rfl, HB.out⟩
end Go.Proofs.YtcmnfbjlhdfmgaaDoor
