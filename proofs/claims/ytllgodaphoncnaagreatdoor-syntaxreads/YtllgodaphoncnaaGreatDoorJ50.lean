/- The reference: tokens of words, signs, literals; The reference: a tree's tokens. -/
import Derived.Test.YtllgodaphoncnaaGreatDoorJ49
import Derived.Test.YtllgodaphoncnaaGreatDoorJ44
import Derived.Test.YtllgodaphoncnaaGreatDoorJ17
import Derived.Deep.RegionHeld
namespace Go.Proofs.YtllgodaphoncnaaGreatDoor
open Go.RowKit

set_option maxRecDepth 100000 in
theorem word8_any (w : World) (s : ByteArray) : Calls Tryz.prog 36 #[.string s] w fun e w' => e = .returned (.agg #[.int .i64 1, .string s, .int .i64 0]) ∧ Below w.heap.size w w' := by
  go_enter Tryz.func36, Tryz.ntmps36
  go_wp2
  exact bodyPost_ret (v := .agg #[.int .i64 1, .string s, .int .i64 0]) (by simp [results, Tryz.results36, go_sem]) rfl ⟨rfl, by first | exact (Below.refl _ _).alloc (Nat.le_refl _) _ | exact (((Below.refl _ _).alloc (Nat.le_refl _) _).setCell (Nat.le_refl _) _)⟩
set_option maxRecDepth 100000 in
theorem sign8_any (w : World) (s : ByteArray) : Calls Tryz.prog 37 #[.string s] w fun e w' => e = .returned (.agg #[.int .i64 5, .string s, .int .i64 0]) ∧ Below w.heap.size w w' := by
  go_enter Tryz.func37, Tryz.ntmps37
  go_wp2
  exact bodyPost_ret (v := .agg #[.int .i64 5, .string s, .int .i64 0]) (by simp [results, Tryz.results37, go_sem]) rfl ⟨rfl, by first | exact (Below.refl _ _).alloc (Nat.le_refl _) _ | exact (((Below.refl _ _).alloc (Nat.le_refl _) _).setCell (Nat.le_refl _) _)⟩
set_option maxRecDepth 100000 in
theorem ownT_new {w : World} {N g : Nat} {ts : List Tk} (h : w.heap[g]? = some (.cells (cellsT ts).toArray 41 (0, 0))) (hN : N ≤ g) (hl : ts.length ≤ 1000000) : OwnT w N (.slice (some ⟨g, 0, none⟩) ts.length ts.length) ts := by
  have e := length_cellsT ts
  refine ⟨⟨e, .inr ⟨g, ts.length, (cellsT ts).toArray, rfl, hN, h, Nat.le_refl _, by unfold maxLen; omega, by simpa using e, ?_⟩⟩⟩
  dsimp only
  rw [← e, List.take_length]
set_option maxRecDepth 100000 in
theorem cellsT_one : ∀ (l : List Tk) (u : Value), u ∈ cellsT l → u.oneCell' = true
  | [], _, h => by simp [cellsT] at h
  | t :: l, u, h => by
    have e : cellsT (t :: l) = t.cells ++ cellsT l := by simp [cellsT]
    rw [e] at h
    rcases List.mem_append.1 h with h | h
    · simp only [Tk.cells, List.mem_cons, List.not_mem_nil, or_false] at h
      rcases h with rfl | rfl | rfl <;> rfl
    · exact cellsT_one l u h
set_option maxRecDepth 100000 in
/-- tokens of one's own behind those of a call -/
theorem append_toks {ops : Array Oper} {rest : List Oper} {o : Oper} {a : Act} {w : World} {Q : Exit → Act → World → Prop} (hgd : o.guard = none) (s x : Operand)
    (ho : o.op = .call { callee := .builtin .append, args := #[s, x], argTypes := #[30, 30] })
    (N : Nat) (v : Value) (ts : List Tk) (hs : a.eval s = v) (v2 : Value) (N2 : Nat) (t2 : List Tk) (hx : a.eval x = v2) (hne : t2 ≠ []) (hown2 : OwnT w N2 v2 t2) (hown : OwnT w N v ts) (hlen : ts.length + t2.length ≤ 1000000) (hN : N ≤ w.heap.size)
    (k : ∀ v' w', OwnT w' N v' (ts ++ t2) → Below N w w' → wpList Tryz.prog ops Q rest (a.put o.dst v') w') : wpList Tryz.prog ops Q (o :: rest) a w := by
  obtain ⟨i, hi, hz, hsz, hby⟩ := info_parts info_tok3
  obtain ⟨g, cp, rfl, h1, h2, hc⟩ := hown2.cell hne
  refine wpList_append_own_wide w hgd s x 30 ho N 41 i _ 3 32 Tryz.underlying30 hi hz hsz hby rfl (by omega) v ts.length (cellsT ts) hs hown.row ⟨g, 0, none⟩ t2.length cp (cellsT t2) hx (length_cellsT t2) (fun j u hj => by
    rw [Addr.add_mid, Nat.zero_add]
    exact hc j u hj) (fun u hu => ?_) (by unfold maxLen; omega) (by omega) hN ?_
  · exact cellsT_one t2 u hu
  · intro v' w' hown'' hgr _
    refine k v' w' ⟨?_⟩ ((Below.refl N w).grown hgr hN (fun b hb => (hown.row.lt b hb).1))
    have e : cellsT (ts ++ t2) = cellsT ts ++ cellsT t2 := by simp [cellsT]
    rw [List.length_append, e]; exact hown''
set_option maxRecDepth 100000 in
theorem OwnT.base {w : World} {N M : Nat} {v : Value} {ts : List Tk} (h : OwnT w N v ts) (hM : M ≤ N) : OwnT w M v ts := by
  refine ⟨⟨h.row.1, ?_⟩⟩
  rcases h.row.2 with h2 | ⟨g, cap, cur, e, hg, rest⟩
  · exact .inl h2
  · exact .inr ⟨g, cap, cur, e, Nat.le_trans hM hg, rest⟩
set_option maxRecDepth 100000 in
theorem litTk_len (v : Val) : (litTk v).length ≤ 2 ∧ litTk v ≠ [] := by
  unfold litTk
  repeat' split
  all_goals simp
set_option maxRecDepth 100000 in
theorem commaTk_len : ∀ l, (commaTk l).length ≤ 3 * l.length
  | [] => by simp [commaTk]
  | [v] => by have := (litTk_len v).1; simp [commaTk]; omega
  | v :: u :: l => by
    have := (litTk_len v).1
    have ih := commaTk_len (u :: l)
    simp only [commaTk, List.length_append, List.length_cons] at ih ⊢
    omega
set_option maxRecDepth 100000 in
set_option maxHeartbeats 2000000 in
theorem litTk_any (w : World) (y : Val) (hk : y.k = 1 ∨ y.k = 2 ∨ y.k = 3 ∨ y.k = 4) (hi : y.k = 2 → -9223372036854775808 < y.i) :
    Calls Tryz.prog 35 #[y.v] w fun e w' => ∃ v, e = .returned v ∧ OwnT w' w.heap.size v (litTk y) ∧ Below w.heap.size w w' := by
  obtain ⟨k, i, s, a, n, c⟩ := y
  have HW := Lib.hid (fun W s => word8_any W s)
  have HS := Lib.hid (fun W s => sign8_any W s)
  have hnew : ∀ (W : World) (N g : Nat) (ts : List Tk) (o : Obj), o = .cells (cellsT ts).toArray 41 (0, 0) → g = W.heap.size → N ≤ W.heap.size → ts.length ≤ 1000000 → OwnT (W.alloc o) N (.slice (some ⟨g, 0, none⟩) ts.length ts.length) ts := fun W N g ts o ho hg hN hl => by
    subst ho hg; exact ownT_new (heap_alloc_new _ _) hN hl
  have HN := Lib.hid hnew
  clear hnew
  have hb0 : Below w.heap.size w (w.alloc (.cells #[.int .i64 k, .int .i64 i, .string s, .slice a n c] 24 (0, 0))) := (Below.refl _ _).alloc (Nat.le_refl _) _
  have HB0 := Lib.hid hb0
  clear hb0
  unfold Val.v V
  dsimp only at hk hi ⊢
  rcases hk with rfl | rfl | rfl | rfl
  · clear hi
    by_cases h1 : i = 1
    · subst h1
      go_enter Tryz.func35, Tryz.ntmps35
      go_wp2_with fail
      refine (HW.out _ _).mono ?_
      rintro e w1 ⟨rfl, hb1⟩
      have HB1 := Lib.hid (HB0.out.trans (hb1.mono HB0.out.size))
      clear hb1
      go_wp2_with fail
      go_ret
      exact ⟨_, rfl, HN.out _ _ _ [tkW kTrue] _ rfl (by first | rfl | simp) HB1.out.size (by decide), HB1.out.alloc HB1.out.size _⟩
    · have e1 : litTk ⟨1, i, s, a, n, c⟩ = [tkW kFalse] := by simp [litTk, h1]
      rw [e1]
      have d1 : (i == 1) = false := by simpa using h1
      clear h1 e1
      go_enter Tryz.func35, Tryz.ntmps35
      go_wp2_with fail
      refine (HW.out _ _).mono ?_
      rintro e w1 ⟨rfl, hb1⟩
      have HB1 := Lib.hid (HB0.out.trans (hb1.mono HB0.out.size))
      clear hb1
      go_wp2_with fail
      go_ret
      exact ⟨_, rfl, HN.out _ _ _ [tkW kFalse] _ rfl (by first | rfl | simp) HB1.out.size (by decide), HB1.out.alloc HB1.out.size _⟩
  · have hi0 := hi rfl
    clear hi
    by_cases h1 : i < 0
    · have e1 : litTk ⟨2, i, s, a, n, c⟩ = [tkS kMinus, ⟨2, [], -i⟩] := by simp [litTk, h1]
      rw [e1]
      have d1 : decide (i < 0) = true := by simpa using h1
      have hneg : IntKind.i64.wrap (-i) = -i := by rw [IntKind.wrap_i64]; omega
      clear e1
      go_enter Tryz.func35, Tryz.ntmps35
      go_wp2_with fail
      have cm : ∀ m : Bl (w.alloc (.cells #[.int .i64 2, .int .i64 i, .string s, .slice a n c] 24 (0, 0))), m.wr.cell? ⟨w.heap.size, 1, none⟩ = some (.int .i64 i) := fun m => by
        rw [cell_block ((m.below.block _ (lt_block (heap_alloc_new _ _))).trans (heap_alloc_new _ _))]; rfl
      refine wp_region_quiet_tailB 5 (by kernel_rfl) (by kernel_rfl) ?_
      simp only [List.take_succ_cons, List.take_zero, List.drop_succ_cons, List.drop_zero]
      iterate 5 (go_big_quiet_step ((go_at_call 37; with_reducible exact Calls.quiet_b (HS.out _ _))))
      refine wpQuiet_nil ?_
      intro m
      have HBM := Lib.hid (HB0.out.trans (m.below.mono HB0.out.size))
      clear cm
      go_wp2_with fail
      go_ret
      exact ⟨_, rfl, HN.out _ _ _ [tkS kMinus, ⟨2, [], -i⟩] _ rfl (by first | rfl | simp) HBM.out.size (by simp), HBM.out.alloc HBM.out.size _⟩
    · have e1 : litTk ⟨2, i, s, a, n, c⟩ = [⟨2, [], i⟩] := by simp [litTk, h1]
      rw [e1]
      have d1 : decide (i < 0) = false := by simpa using h1
      clear e1
      go_enter Tryz.func35, Tryz.ntmps35
      go_wp2_with fail
      go_ret
      exact ⟨_, rfl, HN.out _ _ _ [⟨2, [], i⟩] _ rfl (by first | rfl | simp) HB0.out.size (by simp) , HB0.out.alloc HB0.out.size _⟩
  · have e1 : litTk ⟨3, i, s, a, n, c⟩ = [⟨3, s.toList, 0⟩] := rfl
    rw [e1]
    clear hi e1
    go_enter Tryz.func35, Tryz.ntmps35
    go_wp2_with fail
    go_ret
    exact ⟨_, rfl, HN.out _ _ _ [⟨3, s.toList, 0⟩] _ (by simp [cellsT, Tk.cells, st_toList]) (by first | rfl | simp) HB0.out.size (by simp) , HB0.out.alloc HB0.out.size _⟩
  · have e1 : litTk ⟨4, i, s, a, n, c⟩ = [⟨4, [], i⟩] := rfl
    rw [e1]
    clear hi e1
    go_enter Tryz.func35, Tryz.ntmps35
    go_wp2_with fail
    go_ret
    exact ⟨_, rfl, HN.out _ _ _ [⟨4, [], i⟩] _ rfl (by first | rfl | simp) HB0.out.size (by simp) , HB0.out.alloc HB0.out.size _⟩
set_option maxRecDepth 100000 in
theorem litB_kind {y : Val} {b : Bool} (h : litB y b = true) : (y.k = 1 ∨ y.k = 2 ∨ y.k = 3 ∨ y.k = 4) ∧ (y.k = 2 → -9223372036854775808 < y.i) := by
  unfold litB at h
  split at h
  · rename_i hk
    refine ⟨.inr (.inl hk), fun _ => ?_⟩
    simp only [Bool.or_eq_true, Bool.and_eq_true, decide_eq_true_eq] at h
    omega
  · rename_i hk
    simp only [Bool.or_eq_true, Bool.and_eq_true, beq_iff_eq] at h
    exact ⟨by rcases h with (h | h) | h <;> simp [h], fun h => absurd h hk⟩
set_option maxRecDepth 100000 in
set_option maxHeartbeats 4000000 in
theorem literal8_any (w : World) (x : Val) (v : PV) (h : ValIs Any w x v) (hv : valueM v = true) :
    Calls Tryz.prog 35 #[x.v] w fun e w' => ∃ u, e = .returned u ∧ OwnT w' w.heap.size u (valTk v) ∧ Below w.heap.size w w' := by
  have hm := valueM_eq h
  rw [hv] at hm
  by_cases hk : v.k = 5
  case neg =>
    have hxk : ¬ x.k = 5 := by rw [h.k]; exact hk
    have e1 : valTk v = litTk x := by
      unfold valTk; rw [if_neg hk, ← h.k, ← h.i, ← h.s]; rfl
    rw [if_neg hxk] at hm
    have hl : litB x false = true := by
      cases hb : litB x false with
      | true => rfl
      | false => rw [hb, Bool.and_false] at hm; cases hm
    obtain ⟨h1, h2⟩ := litB_kind hl
    rw [e1]
    exact litTk_any w x h1 h2
  have e1 : valTk v = tkS kOpen :: (commaTk v.l ++ [tkS kClose]) := by unfold valTk; rw [if_pos hk]
  rw [e1]
  have hxk : x.k = 5 := by rw [h.k]; exact hk
  rw [if_pos hxk] at hm
  have hall : ∀ y ∈ v.l, litB y true = true := by
    have : v.l.all (litB · true) = true := by
      cases hb : v.l.all (litB · true) with
      | true => rfl
      | false => rw [hb, Bool.false_and, Bool.and_false] at hm; cases hm
    rwa [List.all_eq_true] at this
  have h16 : v.l.length ≤ 16 := by
    have hf : x.formed v.l = true := by
      cases hb : x.formed v.l with
      | true => rfl
      | false => rw [hb, Bool.false_and] at hm; cases hm
    unfold Val.formed at hf
    rw [if_pos (by simpa using hxk)] at hf
    simp only [Bool.and_eq_true] at hf
    have := hf.2.2
    unfold listB at this
    simp only [Bool.and_eq_true, decide_eq_true_eq] at this
    exact this.1
  obtain ⟨g, o, hla, -⟩ := h.list
  have hlen := h.len
  have HLA := Lib.hid hla
  have HALL := Lib.hid hall
  have HSN := Lib.hid (fun k (hk : k < v.l.length) => show commaTk (v.l.take (k + 1)) = _ by rw [List.take_succ_eq_append_getElem hk, commaTk_snoc])
  have HCL := Lib.hid (fun k => commaTk_len (v.l.take k))
  generalize v.l = l at *
  clear hm h hla hall hv hk e1
  obtain ⟨k, i, s, a, n, c⟩ := x
  dsimp only at *
  subst hlen hxk
  have HW := Lib.hid (fun W (y : Val) h1 h2 => litTk_any W y h1 h2)
  have HS := Lib.hid (fun W s => sign8_any W s)
  have hnew : ∀ (W : World) (N g : Nat) (ts : List Tk) (o : Obj), o = .cells (cellsT ts).toArray 41 (0, 0) → g = W.heap.size → N ≤ W.heap.size → ts.length ≤ 1000000 → OwnT (W.alloc o) N (.slice (some ⟨g, 0, none⟩) ts.length ts.length) ts := fun W N g ts o ho hg hN hl => by
    subst ho hg; exact ownT_new (heap_alloc_new _ _) hN hl
  have HN := Lib.hid hnew
  clear hnew
  unfold Val.v V at *
  dsimp only at *
  go_enter Tryz.func35, Tryz.ntmps35
  go_wp2_with fail
  generalize hW : World.alloc _ _ = W0
  have hb0 : Below w.heap.size w W0 := by rw [← hW]; exact (Below.refl _ _).alloc (Nat.le_refl _) _
  have hg0 : W0.heap[w.heap.size]? = some (.cells #[.int .i64 5, .int .i64 i, .string s, .slice a l.length c] 24 (0, 0)) := by rw [← hW]; exact heap_alloc_new _ _
  clear hW
  refine (HS.out W0 _).mono ?_
  rintro e w1 ⟨rfl, hb1⟩
  have HB1 := Lib.hid (hb0.trans (hb1.mono hb0.size))
  have HG1 := Lib.hid ((hb1.block _ (lt_block hg0)).trans hg0)
  clear hb0 hg0 hb1
  go_wp2_with fail
  have hown0 := HN.out w1 w1.heap.size w1.heap.size [tkS kOpen] (.cells #[.int .i64 5, .string ⟨#[91]⟩, .int .i64 0] 41 (0, 0)) rfl rfl (Nat.le_refl _) (by decide)
  have hbA : Below w1.heap.size w1 (w1.alloc (.cells #[.int .i64 5, .string ⟨#[91]⟩, .int .i64 0] 41 (0, 0))) := (Below.refl _ _).alloc (Nat.le_refl _) _
  have HLT := Lib.hid (lt_block HG1.out)
  generalize World.alloc _ _ = wA at *
  obtain ⟨M, hM⟩ : ∃ M, w1.heap.size = M := ⟨_, rfl⟩
  have HM := Lib.hid hM
  rw [hM] at hown0 hbA ⊢
  clear hM
  have HOWN0 := Lib.hid hown0
  have HBA := Lib.hid hbA
  clear hown0 hbA
  go_loopw [3, 4] (fun v3 v4 wr => ∃ (q : Nat) (va : Value), q ≤ l.length ∧ v4 = .int .i64 q ∧ v3 = va ∧ Hid (OwnT wr M va (tkS kOpen :: commaTk (l.take q))) ∧ Hid (Below M w1 wr)) (fun _ v4 _ => l.length - (intOf v4).toNat)
  case atStart => exact ⟨0, _, by omega, rfl, rfl, HOWN0, HBA⟩
  case round =>
    clear HOWN0 HBA
    obtain ⟨q, va, hq, rfl, h3, HOWN, HB⟩ := hrel
    have h4 := h3.symm
    clear h3
    subst h4
    have hMw : M ≤ w1.heap.size := by rw [HM.out]; exact Nat.le_refl _
    have HMW := Lib.hid (Nat.le_trans hMw HB.out.size)
    have hgq : wr.heap[w.heap.size]? = some (.cells #[.int .i64 5, .int .i64 i, .string s, .slice a l.length c] 24 (0, 0)) := (HB.out.block _ (by rw [← HM.out]; exact HLT.out)).trans HG1.out
    have c3 : wr.cell? ⟨w.heap.size, 3, none⟩ = some (.slice a l.length c) := by rw [cell_block hgq]; rfl
    have HGQ := Lib.hid hgq
    clear hgq hMw
    by_cases hlt : q < l.length
    · have d1 : decide ((q : Int) < (l.length : Int)) = true := by simp; omega
      have hsn := HSN.out q hlt
      have hlen := HCL.out q
      rw [List.length_take] at hlen
      have hlen9 : (commaTk (l.take q)).length ≤ 48 := by omega
      have HL9 := Lib.hid hlen9
      clear hlen hlen9
      rcases Nat.eq_zero_or_pos q with h0 | hpos
      · have d0 : decide ((0 : Int) < (q : Int)) = false := by simp; omega
        have had := HLA.out.at' (by intro e; rw [e] at hlt; cases hlt)
        rw [had] at c3
        clear had
        have hix : (0 : Int) ≤ q ∧ (q : Int) < (l.length : Int) := by omega
        have htk : l.take q = [] := by rw [h0]; rfl
        have HTK := Lib.hid htk
        have d0N : decide (0 < q) = false := by simp; omega
        have d0P : (0 < q) = False := by simp; omega
        clear htk hsn h0
        have y0 := ((HB1.out.trans (HB.out.mono (by have := HB1.out.size; rw [HM.out] at this; exact this))).cell (p := ⟨g, o + q * 4, none⟩) (block_lt_of_cell (HLA.out.c0 q hlt))).trans (HLA.out.c0 q hlt)
        have y1 := ((HB1.out.trans (HB.out.mono (by have := HB1.out.size; rw [HM.out] at this; exact this))).cell (p := ⟨g, o + q * 4 + 1, none⟩) (block_lt_of_cell (HLA.out.c1 q hlt))).trans (HLA.out.c1 q hlt)
        have y2 := ((HB1.out.trans (HB.out.mono (by have := HB1.out.size; rw [HM.out] at this; exact this))).cell (p := ⟨g, o + q * 4 + 2, none⟩) (block_lt_of_cell (HLA.out.c2 q hlt))).trans (HLA.out.c2 q hlt)
        have y3 := ((HB1.out.trans (HB.out.mono (by have := HB1.out.size; rw [HM.out] at this; exact this))).cell (p := ⟨g, o + q * 4 + 3, none⟩) (block_lt_of_cell (HLA.out.c3 q hlt))).trans (HLA.out.c3 q hlt)
        have hlk := litB_kind (HALL.out _ (List.getElem_mem hlt))
        have HT := Lib.hid (HW.out wr l[q] hlk.1 hlk.2)
        have HSQ : Hid ((tkS kOpen :: commaTk (l.take q)) ++ litTk l[q] = tkS kOpen :: commaTk (l.take (q + 1))) := Lib.hid (by rw [HSN.out q hlt]; rw [HTK.out]; rfl)
        have hll := litTk_len l[q]
        have HLL := Lib.hid hll
        clear hlk hll
        generalize l[q] = y at *
        go_wp2_with fail
        refine HT.out.mono ?_
        rintro e w4 ⟨v4, rfl, hown4, hb4⟩
        have HOWN4 := Lib.hid hown4
        have HOWN5 := Lib.hid ((HOWN.out).below hb4)
        have HB4 := Lib.hid ((HB.out).trans (hb4.mono (by have := (HB.out).size; rw [HM.out] at this; exact this)))
        clear hown4 hb4 y0 y1 y2 y3 c3
        go_wp2_with (refine append_toks rfl (.tmp 58) (.tmp 64) rfl M va ((tkS kOpen :: commaTk (l.take q))) rfl v4 _ (litTk y) rfl HLL.out.2 HOWN4.out HOWN5.out (by have := HL9.out; have := HLL.out.1; simp; omega) (by have := HB4.out.size; rw [HM.out] at this; exact this) ?_)
        intro v6 w6 hown6 hb6
        have HOWN6 : Hid (OwnT w6 M v6 (tkS kOpen :: commaTk (l.take (q + 1)))) := Lib.hid (by rw [← HSQ.out]; simpa using hown6)
        have HB6 := Lib.hid (HB4.out.trans hb6)
        clear hown6 hb6
        go_wp2_with fail
        go_roundw
        case rel => exact ⟨q + 1, _, by omega, by go_num, rfl, HOWN6, HB6⟩
        case measure => simp [intOf]; omega
      · have d0 : decide ((0 : Int) < (q : Int)) = true := by simp; omega
        go_wp2_with fail
        refine (HS.out _ _).mono ?_
        rintro e w2 ⟨rfl, hb2⟩
        have HOWN2 := Lib.hid ((HOWN.out.below hb2).below ((Below.refl _ _).alloc (Nat.le_refl _) (.cells #[.int .i64 5, .string ⟨#[44]⟩, .int .i64 0] 41 (0, 0))))
        go_wp2_with (refine append_tok rfl (.tmp 54) (.tmp 56) rfl M va (tkS kOpen :: commaTk (l.take q)) rfl (tkS kComma) w2.heap.size 1 rfl (heap_alloc_new _ _) HOWN2.out (by have := HL9.out; simp; omega) (by have := HMW.out; have := hb2.size; simp; omega) ?_)
        intro v5 w3 hown3 hb3
        have HOWN3 := Lib.hid hown3
        have hba : Below M w1 (w2.alloc (.cells #[.int .i64 5, .string ⟨#[44]⟩, .int .i64 0] 41 (0, 0))) := (HB.out.trans (hb2.mono HMW.out)).alloc (by have := HMW.out; have := hb2.size; omega) _
        have HB3 := Lib.hid (hba.trans hb3)
        have hg3 : w3.heap[w.heap.size]? = some (.cells #[.int .i64 5, .int .i64 i, .string s, .slice a l.length c] 24 (0, 0)) := (HB3.out.block _ (by rw [← HM.out]; exact HLT.out)).trans HG1.out
        have had := HLA.out.at' (by intro e; rw [e] at hlt; cases hlt)
        have c3 : w3.cell? ⟨w.heap.size, 3, none⟩ = some (.slice (some ⟨g, o, none⟩) l.length c) := by rw [cell_block hg3, ← had]; rfl
        have hix : (0 : Int) ≤ q ∧ (q : Int) < (l.length : Int) := by omega
        have htk : l.take q ≠ [] := by
          intro e
          have := congrArg List.length e
          rw [List.length_take, List.length_nil] at this
          omega
        have HTK := Lib.hid htk
        clear hown3 hba hb3 hg3 had htk hsn hb2 HOWN2
        have y0 := ((HB1.out.trans (HB3.out.mono (by have := HB1.out.size; rw [HM.out] at this; exact this))).cell (p := ⟨g, o + q * 4, none⟩) (block_lt_of_cell (HLA.out.c0 q hlt))).trans (HLA.out.c0 q hlt)
        have y1 := ((HB1.out.trans (HB3.out.mono (by have := HB1.out.size; rw [HM.out] at this; exact this))).cell (p := ⟨g, o + q * 4 + 1, none⟩) (block_lt_of_cell (HLA.out.c1 q hlt))).trans (HLA.out.c1 q hlt)
        have y2 := ((HB1.out.trans (HB3.out.mono (by have := HB1.out.size; rw [HM.out] at this; exact this))).cell (p := ⟨g, o + q * 4 + 2, none⟩) (block_lt_of_cell (HLA.out.c2 q hlt))).trans (HLA.out.c2 q hlt)
        have y3 := ((HB1.out.trans (HB3.out.mono (by have := HB1.out.size; rw [HM.out] at this; exact this))).cell (p := ⟨g, o + q * 4 + 3, none⟩) (block_lt_of_cell (HLA.out.c3 q hlt))).trans (HLA.out.c3 q hlt)
        have hlk := litB_kind (HALL.out _ (List.getElem_mem hlt))
        have HT := Lib.hid (HW.out w3 l[q] hlk.1 hlk.2)
        have HSQ : Hid ((tkS kOpen :: commaTk (l.take q) ++ [tkS kComma]) ++ litTk l[q] = tkS kOpen :: commaTk (l.take (q + 1))) := Lib.hid (by rw [HSN.out q hlt]; rw [if_neg HTK.out]; simp)
        have hll := litTk_len l[q]
        have HLL := Lib.hid hll
        clear hlk hll
        generalize l[q] = y at *
        go_wp2_with fail
        refine HT.out.mono ?_
        rintro e w4 ⟨v4, rfl, hown4, hb4⟩
        have HOWN4 := Lib.hid hown4
        have HOWN5 := Lib.hid ((HOWN3.out).below hb4)
        have HB4 := Lib.hid ((HB3.out).trans (hb4.mono (by have := (HB3.out).size; rw [HM.out] at this; exact this)))
        clear hown4 hb4 y0 y1 y2 y3 c3
        go_wp2_with (refine append_toks rfl (.tmp 58) (.tmp 64) rfl M v5 ((tkS kOpen :: commaTk (l.take q) ++ [tkS kComma])) rfl v4 _ (litTk y) rfl HLL.out.2 HOWN4.out HOWN5.out (by have := HL9.out; have := HLL.out.1; simp; omega) (by have := HB4.out.size; rw [HM.out] at this; exact this) ?_)
        intro v6 w6 hown6 hb6
        have HOWN6 : Hid (OwnT w6 M v6 (tkS kOpen :: commaTk (l.take (q + 1)))) := Lib.hid (by rw [← HSQ.out]; simpa using hown6)
        have HB6 := Lib.hid (HB4.out.trans hb6)
        clear hown6 hb6
        go_wp2_with fail
        go_roundw
        case rel => exact ⟨q + 1, _, by omega, by go_num, rfl, HOWN6, HB6⟩
        case measure => simp [intOf]; omega
    · obtain rfl : q = l.length := by omega
      have d1 : decide ((l.length : Int) < (l.length : Int)) = false := by simp
      have HOWNE := HOWN
      rw [List.take_length] at HOWNE
      have hlen := HCL.out l.length
      rw [List.take_length] at hlen
      have HL9 := Lib.hid hlen
      clear hlen
      go_wp2_with fail
      refine (HS.out _ _).mono ?_
      rintro e w2 ⟨rfl, hb2⟩
      have HOWN2 := Lib.hid ((HOWNE.out.below hb2).below ((Below.refl _ _).alloc (Nat.le_refl _) (.cells #[.int .i64 5, .string ⟨#[93]⟩, .int .i64 0] 41 (0, 0))))
      have hba : Below M w1 (w2.alloc (.cells #[.int .i64 5, .string ⟨#[93]⟩, .int .i64 0] 41 (0, 0))) := (HB.out.trans (hb2.mono HMW.out)).alloc (by have := HMW.out; have := hb2.size; omega) _
      have HBA := Lib.hid hba
      have HB2 := Lib.hid hb2
      clear hba hb2 c3
      go_wp2_with (refine append_tok rfl (.tmp 66) (.tmp 68) rfl M va (tkS kOpen :: commaTk l) rfl (tkS kClose) w2.heap.size 1 rfl (heap_alloc_new _ _) HOWN2.out (by have := HL9.out; simp; omega) (by have := HMW.out; have := HB2.out.size; simp; omega) ?_)
      intro v5 w3 hown3 hb3
      have HOWN3 := Lib.hid hown3
      have HB3 := Lib.hid (HB1.out.trans ((HBA.out.trans hb3).mono (by have := HB1.out.size; rw [HM.out] at this; exact this)))
      clear hown3 hb3
      go_wp2_with fail
      go_ret
      exact ⟨_, rfl, OwnT.base HOWN3.out (by have := HB1.out.size; rw [HM.out] at this; exact this), HB3.out⟩
end Go.Proofs.YtllgodaphoncnaaGreatDoor
namespace Go.Proofs.YtllgodaphoncnaaGreatDoor
open Go.RowKit

section
variable {P : Program} {ops : Array Oper} {Q : Exit → Act → World → Prop} {md : Region.Mode} {S : World → Prop} {i j fuel : Nat} {listed : Array Bool} {a : Act} {w : World} {o p : Oper}
set_option maxRecDepth 100000 in
/-- one of two may come up -/
theorem held_two (hi : ops[i]? = some o) (hj : ops[j]? = some p) (hr : Region.ready md ops listed = [i, j]) (hwi : Region.wanted o (yielded ops a.tmps) = true) (hwj : Region.wanted p (yielded ops a.tmps) = true)
    (h : Oper.wp P o a w (fun a' w' => S w' ∧ wpAnyH P md ops Q S fuel (listed.setIfInBounds i true) a' w') Q) (k : Oper.wp P p a w (fun a' w' => S w' ∧ wpAnyH P md ops Q S fuel (listed.setIfInBounds j true) a' w') Q) :
    wpAnyH P md ops Q S (fuel + 1) listed a w := by
  refine wpAnyH_all hr (by simp) fun x hx => ?_
  simp only [List.mem_cons, List.not_mem_nil, or_false] at hx
  rcases hx with rfl | rfl
  · unfold wpOp
    rw [hi]
    simp only [hwi, if_true]
    exact .inl h
  · unfold wpOp
    rw [hj]
    simp only [hwj, if_true]
    exact .inl k
set_option maxRecDepth 100000 in
theorem wp_val {K : Act → World → Prop} (d : Option Tmp) (hd : o.dst = d) (v : Value) (w' : World) (hrun : (execOp a.eval o).run P w = .ok (.value v) w') (k : K (a.put d v) w') : Oper.wp P o a w K Q := by
  subst hd; unfold Oper.wp; rw [hrun]; exact k
set_option maxRecDepth 100000 in
theorem wp_ent {K : Act → World → Prop} (d : Option Tmp) (hd : o.dst = d) (f : FuncId) (args : Array Value) (hrun : (execOp a.eval o).run P w = .ok (.enter f args) w) (h : Calls P f args w fun e w' => ∃ v, e = .returned v ∧ K (a.put d v) w') : Oper.wp P o a w K Q := by
  subst hd
  unfold Oper.wp
  rw [hrun]
  exact Calls.mono h fun e w' ⟨v, he, hk⟩ => by subst he; exact hk
end
set_option maxRecDepth 100000 in
theorem wp_append_toks {o : Oper} {a : Act} {w : World} {K : Act → World → Prop} {Q : Exit → Act → World → Prop} (s x : Operand)
    (ho : o.op = .call { callee := .builtin .append, args := #[s, x], argTypes := #[30, 30] })
    (N : Nat) (v : Value) (ts : List Tk) (hs : a.eval s = v) (v2 : Value) (N2 : Nat) (t2 : List Tk) (hx : a.eval x = v2) (hne : t2 ≠ []) (hown2 : OwnT w N2 v2 t2) (hown : OwnT w N v ts) (hlen : ts.length + t2.length ≤ 1000000) (hN : N ≤ w.heap.size) (d : Option Tmp) (hd : o.dst = d)
    (k : ∀ v' w', OwnT w' N v' (ts ++ t2) → Below N w w' → K (a.put d v') w') : Oper.wp Tryz.prog o a w K Q := by
  obtain ⟨i, hi, hz, hsz, hby⟩ := info_parts info_tok3
  subst hd
  obtain ⟨g, cp, rfl, h1, h2, hc⟩ := hown2.cell hne
  refine wp_append_own_wide w s x 30 ho N 41 i _ 3 32 Tryz.underlying30 hi hz hsz hby rfl (by omega) v ts.length (cellsT ts) hs hown.row ⟨g, 0, none⟩ t2.length cp (cellsT t2) hx (length_cellsT t2) (fun j u hj => by
    rw [Addr.add_mid, Nat.zero_add]
    exact hc j u hj) (fun u hu => cellsT_one t2 u hu) (by unfold maxLen; omega) (by omega) hN ?_
  intro v' w' hown'' hgr _
  refine k v' w' ⟨?_⟩ ((Below.refl N w).grown hgr hN (fun b hb => (hown.row.lt b hb).1))
  have e : cellsT (ts ++ t2) = cellsT ts ++ cellsT t2 := by simp [cellsT]
  rw [List.length_append, e]; exact hown''
set_option maxRecDepth 100000 in
/-- tokens made at once: one's own -/
theorem ownT_at {w : World} {N g : Nat} {o : Obj} {n : Nat} (ts : List Tk) (ho : o = .cells (cellsT ts).toArray 41 (0, 0)) (hg : g = w.heap.size) (hn : n = ts.length) (hN : N ≤ w.heap.size) (hl : ts.length ≤ 1000000) : OwnT (w.alloc o) N (.slice (some ⟨g, 0, none⟩) n n) ts := by
  subst ho hg hn
  exact ownT_new (heap_alloc_new _ _) hN hl
set_option maxRecDepth 100000 in
set_option maxHeartbeats 4000000 in
theorem tok_value (w : World) (X : XV) (full : Bool) (hX : X.o = ⟨#[118, 97, 108, 117, 101]⟩) (v : PV) (hv : ValIs Any w X.x v) (hm : valueM v = true) :
    Calls Tryz.prog 12 #[X.v, .bool full] w fun e w' => ∃ u, e = .returned u ∧ OwnT w' w.heap.size u (valTk v) ∧ Below w.heap.size w w' := by
  obtain ⟨W0, hW0, hb0, hbox⟩ := boxed w X
  have HST : Hid (∀ W, Calls Tryz.prog 29 #[.string ⟨#[118, 97, 108, 117, 101]⟩] W fun e w' => e = .returned (.int .i64 (strM kValue)) ∧ Below W.heap.size W w') := Lib.hid (fun W => strength_any W kValue)
  have HW := Lib.hid (fun W s => word8_any W s)
  have HS := Lib.hid (fun W s => sign8_any W s)
  have HX := Lib.hid hX
  have HB0 := Lib.hid hb0
  have HBX := Lib.hid hbox
  have HL := Lib.hid (fun W (hb : Below w.heap.size w W) => literal8_any W X.x v (hv.kept (.of_below hb)) hm)
  clear hv hm
  clear hb0 hbox
  unfold XV.v
  rw [hX]
  clear hX
  go_enter Tryz.func12, Tryz.ntmps12
  go_wp2_with fail
  generalize hW : World.alloc _ _ = W1
  obtain rfl : W0 = W1 := by rw [← hW0, ← hW]; unfold XV.cells xcells; rw [HX.out]
  clear hW hW0
  refine (HST.out W0).mono ?_
  rintro e w1 ⟨rfl, hb1⟩
  have HBX1 := Lib.hid (HBX.out.below hb1)
  have HB1 := Lib.hid (HB0.out.trans (hb1.mono HB0.out.size))
  have c0 : w1.cell? ⟨w.heap.size, 0, none⟩ = some (.string ⟨#[118, 97, 108, 117, 101]⟩) := by rw [HBX1.out.cell 0]; unfold XV.cells xcells; rw [HX.out]; rfl
  clear hb1 HB0 HBX HST
  have HV := Lib.hid HBX1.out.val
  go_wp2_with (refine wpList_load_mid rfl 24 (.tmp 17) rfl w.heap.size 1 rfl X.x.cells _ HV.out Tryz.underlying24 rfl (info_val X.x) ?_)
  refine (HL.out w1 HB1.out).mono ?_
  rintro e w2 ⟨u, rfl, hown, hb2⟩
  have HOWN := Lib.hid (hown.base HB1.out.size)
  have HB2 := Lib.hid (HB1.out.trans (hb2.mono HB1.out.size))
  clear hown hb2 c0
  go_wp2_with fail
  go_ret
  exact ⟨_, rfl, HOWN.out, HB2.out⟩
set_option maxRecDepth 100000 in
set_option maxHeartbeats 4000000 in
theorem tok_now (w : World) (X : XV) (full : Bool) (hX : X.o = ⟨#[110, 111, 119]⟩) :
    Calls Tryz.prog 12 #[X.v, .bool full] w fun e w' => ∃ u, e = .returned u ∧ OwnT w' w.heap.size u ([tkW kNow]) ∧ Below w.heap.size w w' := by
  obtain ⟨W0, hW0, hb0, hbox⟩ := boxed w X
  have HST : Hid (∀ W, Calls Tryz.prog 29 #[.string ⟨#[110, 111, 119]⟩] W fun e w' => e = .returned (.int .i64 (strM kNow)) ∧ Below W.heap.size W w') := Lib.hid (fun W => strength_any W kNow)
  have HW := Lib.hid (fun W s => word8_any W s)
  have HS := Lib.hid (fun W s => sign8_any W s)
  have HX := Lib.hid hX
  have HB0 := Lib.hid hb0
  have HBX := Lib.hid hbox
  clear hb0 hbox
  unfold XV.v
  rw [hX]
  clear hX
  go_enter Tryz.func12, Tryz.ntmps12
  go_wp2_with fail
  generalize hW : World.alloc _ _ = W1
  obtain rfl : W0 = W1 := by rw [← hW0, ← hW]; unfold XV.cells xcells; rw [HX.out]
  clear hW hW0
  refine (HST.out W0).mono ?_
  rintro e w1 ⟨rfl, hb1⟩
  have HBX1 := Lib.hid (HBX.out.below hb1)
  have HB1 := Lib.hid (HB0.out.trans (hb1.mono HB0.out.size))
  have c0 : w1.cell? ⟨w.heap.size, 0, none⟩ = some (.string ⟨#[110, 111, 119]⟩) := by rw [HBX1.out.cell 0]; unfold XV.cells xcells; rw [HX.out]; rfl
  clear hb1 HB0 HBX HST
  go_wp2_with fail
  refine (HW.out _ _).mono ?_
  rintro e w2 ⟨rfl, hb2⟩
  have HB2 := Lib.hid (HB1.out.trans (hb2.mono HB1.out.size))
  clear hb2 c0
  go_wp2_with fail
  go_ret
  exact ⟨_, rfl, ownT_at [tkW kNow] rfl rfl rfl HB2.out.size (by decide), HB2.out.alloc HB2.out.size _⟩
set_option maxRecDepth 100000 in
set_option maxHeartbeats 4000000 in
theorem tok_attr (w : World) (X : XV) (full : Bool) (hX : X.o = ⟨#[97, 116, 116, 114]⟩) (who name : List UInt8) (hw : X.w = st who) (hn : X.n = st name) :
    Calls Tryz.prog 12 #[X.v, .bool full] w fun e w' => ∃ u, e = .returned u ∧ OwnT w' w.heap.size u ([tkW who, tkS kDot, tkW name]) ∧ Below w.heap.size w w' := by
  obtain ⟨W0, hW0, hb0, hbox⟩ := boxed w X
  have HST : Hid (∀ W, Calls Tryz.prog 29 #[.string ⟨#[97, 116, 116, 114]⟩] W fun e w' => e = .returned (.int .i64 (strM kAttr)) ∧ Below W.heap.size W w') := Lib.hid (fun W => strength_any W kAttr)
  have HW := Lib.hid (fun W s => word8_any W s)
  have HS := Lib.hid (fun W s => sign8_any W s)
  have HX := Lib.hid hX
  have HB0 := Lib.hid hb0
  have HBX := Lib.hid hbox
  have HWHO := Lib.hid hw
  have HNAME := Lib.hid hn
  clear hw hn
  clear hb0 hbox
  unfold XV.v
  rw [hX]
  clear hX
  go_enter Tryz.func12, Tryz.ntmps12
  go_wp2_with fail
  generalize hW : World.alloc _ _ = W1
  obtain rfl : W0 = W1 := by rw [← hW0, ← hW]; unfold XV.cells xcells; rw [HX.out]
  clear hW hW0
  refine (HST.out W0).mono ?_
  rintro e w1 ⟨rfl, hb1⟩
  have HBX1 := Lib.hid (HBX.out.below hb1)
  have HB1 := Lib.hid (HB0.out.trans (hb1.mono HB0.out.size))
  have c0 : w1.cell? ⟨w.heap.size, 0, none⟩ = some (.string ⟨#[97, 116, 116, 114]⟩) := by rw [HBX1.out.cell 0]; unfold XV.cells xcells; rw [HX.out]; rfl
  clear hb1 HB0 HBX HST
  have c5 : ∀ m : Bl w1, m.wr.cell? ⟨w.heap.size, 5, none⟩ = some (.string X.w) := fun m => (HBX1.out.below m.below).cell 5
  have c6 : ∀ m : Bl w1, m.wr.cell? ⟨w.heap.size, 6, none⟩ = some (.string X.n) := fun m => (HBX1.out.below m.below).cell 6
  go_wp2_with fail
  refine wp_region_quiet_tailB 7 (by kernel_rfl) (by kernel_rfl) ?_
  simp only [List.take_succ_cons, List.take_zero, List.drop_succ_cons, List.drop_zero]
  iterate 7 (go_big_quiet_step ((first | (go_at_call 36; with_reducible exact Calls.quiet_b (HW.out _ _)) | (go_at_call 37; with_reducible exact Calls.quiet_b (HS.out _ _)))))
  refine wpQuiet_nil ?_
  intro m
  have HB2 := Lib.hid (HB1.out.trans (m.below.mono HB1.out.size))
  clear c5 c6 c0
  go_wp2_with fail
  go_ret
  exact ⟨_, rfl, ownT_at ([tkW who, tkS kDot, tkW name]) (by simp [cellsT, Tk.cells, tkW, tkS, HWHO.out, HNAME.out]; rfl) rfl rfl HB2.out.size (by simp), HB2.out.alloc HB2.out.size _⟩
set_option maxRecDepth 100000 in
set_option maxHeartbeats 4000000 in
theorem tok_has (w : World) (X : XV) (full : Bool) (hX : X.o = ⟨#[104, 97, 115]⟩) (who name : List UInt8) (hw : X.w = st who) (hn : X.n = st name) :
    Calls Tryz.prog 12 #[X.v, .bool full] w fun e w' => ∃ u, e = .returned u ∧ OwnT w' w.heap.size u ([tkW kHas, tkS kPar, tkW who, tkS kDot, tkW name, tkS kEnd]) ∧ Below w.heap.size w w' := by
  obtain ⟨W0, hW0, hb0, hbox⟩ := boxed w X
  have HST : Hid (∀ W, Calls Tryz.prog 29 #[.string ⟨#[104, 97, 115]⟩] W fun e w' => e = .returned (.int .i64 (strM kHas)) ∧ Below W.heap.size W w') := Lib.hid (fun W => strength_any W kHas)
  have HW := Lib.hid (fun W s => word8_any W s)
  have HS := Lib.hid (fun W s => sign8_any W s)
  have HX := Lib.hid hX
  have HB0 := Lib.hid hb0
  have HBX := Lib.hid hbox
  have HWHO := Lib.hid hw
  have HNAME := Lib.hid hn
  clear hw hn
  clear hb0 hbox
  unfold XV.v
  rw [hX]
  clear hX
  go_enter Tryz.func12, Tryz.ntmps12
  go_wp2_with fail
  generalize hW : World.alloc _ _ = W1
  obtain rfl : W0 = W1 := by rw [← hW0, ← hW]; unfold XV.cells xcells; rw [HX.out]
  clear hW hW0
  refine (HST.out W0).mono ?_
  rintro e w1 ⟨rfl, hb1⟩
  have HBX1 := Lib.hid (HBX.out.below hb1)
  have HB1 := Lib.hid (HB0.out.trans (hb1.mono HB0.out.size))
  have c0 : w1.cell? ⟨w.heap.size, 0, none⟩ = some (.string ⟨#[104, 97, 115]⟩) := by rw [HBX1.out.cell 0]; unfold XV.cells xcells; rw [HX.out]; rfl
  clear hb1 HB0 HBX HST
  have c5 : ∀ m : Bl w1, m.wr.cell? ⟨w.heap.size, 5, none⟩ = some (.string X.w) := fun m => (HBX1.out.below m.below).cell 5
  have c6 : ∀ m : Bl w1, m.wr.cell? ⟨w.heap.size, 6, none⟩ = some (.string X.n) := fun m => (HBX1.out.below m.below).cell 6
  go_wp2_with fail
  refine wp_region_quiet_tailB 10 (by kernel_rfl) (by kernel_rfl) ?_
  simp only [List.take_succ_cons, List.take_zero, List.drop_succ_cons, List.drop_zero]
  iterate 10 (go_big_quiet_step ((first | (go_at_call 36; with_reducible exact Calls.quiet_b (HW.out _ _)) | (go_at_call 37; with_reducible exact Calls.quiet_b (HS.out _ _)))))
  refine wpQuiet_nil ?_
  intro m
  have HB2 := Lib.hid (HB1.out.trans (m.below.mono HB1.out.size))
  clear c5 c6 c0
  go_wp2_with fail
  go_ret
  exact ⟨_, rfl, ownT_at ([tkW kHas, tkS kPar, tkW who, tkS kDot, tkW name, tkS kEnd]) (by simp [cellsT, Tk.cells, tkW, tkS, HWHO.out, HNAME.out]; exact ⟨rfl, rfl, rfl, rfl⟩) rfl rfl HB2.out.size (by simp), HB2.out.alloc HB2.out.size _⟩
set_option maxRecDepth 100000 in
set_option maxHeartbeats 4000000 in
theorem tok_role (w : World) (X : XV) (full : Bool) (hX : X.o = ⟨#[114, 111, 108, 101]⟩) (who name : List UInt8) (hw : X.w = st who) (hn : X.n = st name) :
    Calls Tryz.prog 12 #[X.v, .bool full] w fun e w' => ∃ u, e = .returned u ∧ OwnT w' w.heap.size u ([tkW kRole, tkS kPar, ⟨3, name, 0⟩, tkS kEnd]) ∧ Below w.heap.size w w' := by
  obtain ⟨W0, hW0, hb0, hbox⟩ := boxed w X
  have HST : Hid (∀ W, Calls Tryz.prog 29 #[.string ⟨#[114, 111, 108, 101]⟩] W fun e w' => e = .returned (.int .i64 (strM kRole)) ∧ Below W.heap.size W w') := Lib.hid (fun W => strength_any W kRole)
  have HW := Lib.hid (fun W s => word8_any W s)
  have HS := Lib.hid (fun W s => sign8_any W s)
  have HX := Lib.hid hX
  have HB0 := Lib.hid hb0
  have HBX := Lib.hid hbox
  have HWHO := Lib.hid hw
  have HNAME := Lib.hid hn
  clear hw hn
  clear hb0 hbox
  unfold XV.v
  rw [hX]
  clear hX
  go_enter Tryz.func12, Tryz.ntmps12
  go_wp2_with fail
  generalize hW : World.alloc _ _ = W1
  obtain rfl : W0 = W1 := by rw [← hW0, ← hW]; unfold XV.cells xcells; rw [HX.out]
  clear hW hW0
  refine (HST.out W0).mono ?_
  rintro e w1 ⟨rfl, hb1⟩
  have HBX1 := Lib.hid (HBX.out.below hb1)
  have HB1 := Lib.hid (HB0.out.trans (hb1.mono HB0.out.size))
  have c0 : w1.cell? ⟨w.heap.size, 0, none⟩ = some (.string ⟨#[114, 111, 108, 101]⟩) := by rw [HBX1.out.cell 0]; unfold XV.cells xcells; rw [HX.out]; rfl
  clear hb1 HB0 HBX HST
  have c5 : ∀ m : Bl w1, m.wr.cell? ⟨w.heap.size, 5, none⟩ = some (.string X.w) := fun m => (HBX1.out.below m.below).cell 5
  have c6 : ∀ m : Bl w1, m.wr.cell? ⟨w.heap.size, 6, none⟩ = some (.string X.n) := fun m => (HBX1.out.below m.below).cell 6
  go_wp2_with fail
  refine wp_region_quiet_tailB 6 (by kernel_rfl) (by kernel_rfl) ?_
  simp only [List.take_succ_cons, List.take_zero, List.drop_succ_cons, List.drop_zero]
  iterate 6 (go_big_quiet_step ((first | (go_at_call 36; with_reducible exact Calls.quiet_b (HW.out _ _)) | (go_at_call 37; with_reducible exact Calls.quiet_b (HS.out _ _)))))
  refine wpQuiet_nil ?_
  intro m
  have HB2 := Lib.hid (HB1.out.trans (m.below.mono HB1.out.size))
  clear c5 c6 c0
  go_wp2_with fail
  go_ret
  exact ⟨_, rfl, ownT_at ([tkW kRole, tkS kPar, ⟨3, name, 0⟩, tkS kEnd]) (by simp [cellsT, Tk.cells, tkW, tkS, HNAME.out]; exact ⟨rfl, rfl, rfl⟩) rfl rfl HB2.out.size (by simp), HB2.out.alloc HB2.out.size _⟩
set_option maxRecDepth 100000 in
set_option maxHeartbeats 4000000 in
theorem tok_size (w : World) (X : XV) (full : Bool) (hX : X.o = ⟨#[115, 105, 122, 101]⟩) (t0 : Tr) (g o : Nat) (Xs : Nat → XV) (hl : X.l = 1) (ha : X.a = some ⟨g, o, none⟩) (hr : w.rangeAt g o (Xs 0).cells) (hnr : g < w.heap.size) (hne : tokM full t0 ≠ []) (hlen : (tokM full t0).length ≤ 900000) (hT : ∀ W, Below w.heap.size w W → Calls Tryz.prog 12 #[(Xs 0).v, .bool full] W fun e w' => ∃ u, e = .returned u ∧ OwnT w' W.heap.size u (tokM full t0) ∧ Below W.heap.size W w') :
    Calls Tryz.prog 12 #[X.v, .bool full] w fun e w' => ∃ u, e = .returned u ∧ OwnT w' w.heap.size u (tkW kSize :: tkS kPar :: (tokM full t0 ++ [tkS kEnd])) ∧ Below w.heap.size w w' := by
  obtain ⟨W0, hW0, hb0, hbox⟩ := boxed w X
  have HST : Hid (∀ W, Calls Tryz.prog 29 #[.string ⟨#[115, 105, 122, 101]⟩] W fun e w' => e = .returned (.int .i64 (strM kSize)) ∧ Below W.heap.size W w') := Lib.hid (fun W => strength_any W kSize)
  have HW := Lib.hid (fun W s => word8_any W s)
  have HS := Lib.hid (fun W s => sign8_any W s)
  have HX := Lib.hid hX
  have HB0 := Lib.hid hb0
  have HBX := Lib.hid hbox
  have HR0 := Lib.hid (fun W (hb : Below w.heap.size w W) => show W.rangeAt g o (Xs 0).cells from fun j v hj => (hb.cell (p := ⟨g, o + j, none⟩) hnr).trans (hr j v hj))
  have H7 := Lib.hid (show Value.slice X.a X.l X.c = .slice (some ⟨g, o, none⟩) 1 X.c by rw [hl, ha])
  clear hl ha hr hnr
  have HNE := Lib.hid hne
  have HLEN := Lib.hid hlen
  have HT := Lib.hid hT
  clear hne hlen hT
  clear hb0 hbox
  unfold XV.v
  rw [hX]
  clear hX
  go_enter Tryz.func12, Tryz.ntmps12
  go_wp2_with fail
  generalize hW : World.alloc _ _ = W1
  obtain rfl : W0 = W1 := by rw [← hW0, ← hW]; unfold XV.cells xcells; rw [HX.out]
  clear hW hW0
  refine (HST.out W0).mono ?_
  rintro e w1 ⟨rfl, hb1⟩
  have HBX1 := Lib.hid (HBX.out.below hb1)
  have HB1 := Lib.hid (HB0.out.trans (hb1.mono HB0.out.size))
  have c0 : w1.cell? ⟨w.heap.size, 0, none⟩ = some (.string ⟨#[115, 105, 122, 101]⟩) := by rw [HBX1.out.cell 0]; unfold XV.cells xcells; rw [HX.out]; rfl
  clear hb1 HB0 HBX HST
  go_wp2_with fail
  refine (HW.out _ _).mono ?_
  rintro e w2 ⟨rfl, hb2⟩
  have HB2 := Lib.hid (HB1.out.trans (hb2.mono HB1.out.size))
  have HBX2 := Lib.hid (HBX1.out.below hb2)
  clear hb2 c0
  go_wp2_with fail
  refine (HS.out _ _).mono ?_
  rintro e w3 ⟨rfl, hb3⟩
  have HB3 := Lib.hid (HB2.out.trans (hb3.mono HB2.out.size))
  have HBX3 := Lib.hid (HBX2.out.below hb3)
  clear hb3
  have hown0 : OwnT (w3.alloc (.cells #[.int .i64 1, .string ⟨#[115, 105, 122, 101]⟩, .int .i64 0, .int .i64 5, .string ⟨#[40]⟩, .int .i64 0] 41 (0, 0))) w.heap.size (.slice (some ⟨w3.heap.size, 0, none⟩) 2 2) [tkW kSize, tkS kPar] := ownT_at _ rfl rfl rfl HB3.out.size (by decide)
  have hb4 : Below w.heap.size w (w3.alloc (.cells #[.int .i64 1, .string ⟨#[115, 105, 122, 101]⟩, .int .i64 0, .int .i64 5, .string ⟨#[40]⟩, .int .i64 0] 41 (0, 0))) := HB3.out.alloc HB3.out.size _
  have hbx4 : BoxAt (w3.alloc (.cells #[.int .i64 1, .string ⟨#[115, 105, 122, 101]⟩, .int .i64 0, .int .i64 5, .string ⟨#[40]⟩, .int .i64 0] 41 (0, 0))) w.heap.size X := HBX3.out.below ((Below.refl _ _).alloc (Nat.le_refl _) _)
  have c7w : w3.cell? ⟨w.heap.size, 7, none⟩ = some (.slice (some ⟨g, o, none⟩) 1 X.c) := by rw [HBX3.out.cell 7, ← H7.out]; rfl
  have c7 : (w3.alloc (.cells #[.int .i64 1, .string ⟨#[115, 105, 122, 101]⟩, .int .i64 0, .int .i64 5, .string ⟨#[40]⟩, .int .i64 0] 41 (0, 0))).cell? ⟨w.heap.size, 7, none⟩ = some (.slice (some ⟨g, o, none⟩) 1 X.c) := by rw [hbx4.cell 7, ← H7.out]; rfl
  have HR4 := Lib.hid (HR0.out _ hb4)
  have HOWN0 := Lib.hid hown0
  have HB4 := Lib.hid hb4
  clear hown0 hb4 hbx4 HBX3 HBX2
  go_upto_region 15 with fail
  generalize World.alloc _ _ = w4 at *
  clear c7w
  go_wp2_with (refine wpList_load_mid rfl 27 (.tmp 64) rfl g o rfl (Xs 0).cells _ HR4.out Tryz.underlying27 rfl (infoX _ rfl) ?_)
  refine (HT.out w4 HB4.out).mono ?_
  rintro e w5 ⟨u5, rfl, hown5, hb5⟩
  have HOWN5 := Lib.hid hown5
  have HOWN1 := Lib.hid (HOWN0.out.below hb5)
  have HB5 := Lib.hid (HB4.out.trans (hb5.mono HB4.out.size))
  clear hown5 hb5 c7
  go_wp2_with (refine append_toks rfl (.tmp 61) (.tmp 67) rfl w.heap.size _ [tkW kSize, tkS kPar] rfl u5 _ (tokM full t0) rfl HNE.out HOWN5.out HOWN1.out (by have := HLEN.out; simp; omega) HB5.out.size ?_)
  intro v6 w6 hown6 hb6
  have HOWN6 := Lib.hid hown6
  have HB6 := Lib.hid (HB5.out.trans hb6)
  clear hown6 hb6
  go_wp2_with fail
  refine (HS.out _ _).mono ?_
  rintro e w7 ⟨rfl, hb7⟩
  have HOWN7 := Lib.hid ((HOWN6.out.below hb7).below ((Below.refl _ _).alloc (Nat.le_refl _) (.cells #[.int .i64 5, .string ⟨#[41]⟩, .int .i64 0] 41 (0, 0))))
  have HB7 := Lib.hid (HB6.out.trans (hb7.mono HB6.out.size))
  clear hb7
  go_wp2_with (refine append_tok rfl (.tmp 69) (.tmp 71) rfl w.heap.size v6 ([tkW kSize, tkS kPar] ++ tokM full t0) rfl (tkS kEnd) w7.heap.size 1 rfl (heap_alloc_new _ _) HOWN7.out (by have := HLEN.out; simp; omega) (by have := HB7.out.size; simp; omega) ?_)
  intro v8 w8 hown8 hb8
  have HOWN8 : Hid (OwnT w8 w.heap.size v8 (tkW kSize :: tkS kPar :: (tokM full t0 ++ [tkS kEnd]))) := Lib.hid (by simpa using hown8)
  have HB8 := Lib.hid ((HB7.out.alloc HB7.out.size _).trans hb8)
  clear hown8 hb8
  go_wp2_with fail
  go_ret
  exact ⟨_, rfl, HOWN8.out, HB8.out⟩
set_option maxRecDepth 100000 in
set_option maxHeartbeats 4000000 in
theorem tok_not (w : World) (X : XV) (full : Bool) (hX : X.o = ⟨#[110, 111, 116]⟩) (t0 : Tr) (g o : Nat) (Xs : Nat → XV) (hl : X.l = 1) (ha : X.a = some ⟨g, o, none⟩) (hr : w.rangeAt g o (Xs 0).cells) (hnr : g < w.heap.size) (hne : partTk full 2 t0.op (tokM full t0) ≠ []) (hlen : (partTk full 2 t0.op (tokM full t0)).length ≤ 900000) (hT : ∀ W, Below w.heap.size w W → Calls Tryz.prog 38 #[(Xs 0).v, .int .i64 2, .bool full] W fun e w' => ∃ u, e = .returned u ∧ OwnT w' W.heap.size u (partTk full 2 t0.op (tokM full t0)) ∧ Below W.heap.size W w') :
    Calls Tryz.prog 12 #[X.v, .bool full] w fun e w' => ∃ u, e = .returned u ∧ OwnT w' w.heap.size u (tkW kNot :: partTk full 2 t0.op (tokM full t0)) ∧ Below w.heap.size w w' := by
  obtain ⟨W0, hW0, hb0, hbox⟩ := boxed w X
  have HST : Hid (∀ W, Calls Tryz.prog 29 #[.string ⟨#[110, 111, 116]⟩] W fun e w' => e = .returned (.int .i64 (strM kNot)) ∧ Below W.heap.size W w') := Lib.hid (fun W => strength_any W kNot)
  have HW := Lib.hid (fun W s => word8_any W s)
  have HS := Lib.hid (fun W s => sign8_any W s)
  have HX := Lib.hid hX
  have HB0 := Lib.hid hb0
  have HBX := Lib.hid hbox
  have HR0 := Lib.hid (fun W (hb : Below w.heap.size w W) => show W.rangeAt g o (Xs 0).cells from fun j v hj => (hb.cell (p := ⟨g, o + j, none⟩) hnr).trans (hr j v hj))
  have H7 := Lib.hid (show Value.slice X.a X.l X.c = .slice (some ⟨g, o, none⟩) 1 X.c by rw [hl, ha])
  clear hl ha hr hnr
  have HNE := Lib.hid hne
  have HLEN := Lib.hid hlen
  have HPA : Hid (∀ W, Below w.heap.size w W → Calls Tryz.prog 38 #[.agg (Xs 0).cells.toArray, .int .i64 2, .bool full] W fun e w' => ∃ u, e = .returned u ∧ OwnT w' W.heap.size u (partTk full 2 t0.op (tokM full t0)) ∧ Below W.heap.size W w') := Lib.hid hT
  clear hne hlen hT
  clear hb0 hbox
  unfold XV.v
  rw [hX]
  clear hX
  go_enter Tryz.func12, Tryz.ntmps12
  go_wp2_with fail
  generalize hW : World.alloc _ _ = W1
  obtain rfl : W0 = W1 := by rw [← hW0, ← hW]; unfold XV.cells xcells; rw [HX.out]
  clear hW hW0
  refine (HST.out W0).mono ?_
  rintro e w1 ⟨rfl, hb1⟩
  have HBX1 := Lib.hid (HBX.out.below hb1)
  have HB1 := Lib.hid (HB0.out.trans (hb1.mono HB0.out.size))
  have c0 : w1.cell? ⟨w.heap.size, 0, none⟩ = some (.string ⟨#[110, 111, 116]⟩) := by rw [HBX1.out.cell 0]; unfold XV.cells xcells; rw [HX.out]; rfl
  clear hb1 HB0 HBX HST
  have HR1 := Lib.hid (fun W (hb : Below w1.heap.size w1 W) => HR0.out W (HB1.out.trans (hb.mono HB1.out.size)))
  have HC7 := Lib.hid (fun W (hb : Below w1.heap.size w1 W) => show W.cell? ⟨w.heap.size, 7, none⟩ = some (.slice (some ⟨g, o, none⟩) 1 X.c) by rw [(HBX1.out.below hb).cell 7, ← H7.out]; rfl)
  go_wp2_with fail
  refine wp_region_held (S := fun W => Below w1.heap.size w1 W) (by kernel_rfl) ?_
  change wpAnyH _ _ _ _ _ _ _ _ (World.drew _)
  have hS0 : Below w1.heap.size w1 w1.drew := (Below.refl _ _).drew
  clear c0
  generalize w1.drew = Wd at *
  refine held_take (i := 2) (some 77) rfl (by rfl) (by kernel_rfl) (by kernel_rfl) (by kernel_rfl) (.pointer (some ⟨w.heap.size, 7, none⟩)) (fun _ _ _ h => h) (by rfl) (fun w0 hS => by clear hS; go_simp; try with_reducible rfl) hS0 ?_
  simp only [Act.put, List.setIfInBounds_toArray, List.set_cons_succ, List.set_cons_zero]
  refine held_take (i := 3) (some 78) rfl (by rfl) (by kernel_rfl) (by kernel_rfl) (by kernel_rfl) (.slice (some ⟨g, o, none⟩) 1 X.c) (fun _ _ _ h => h) (by rfl) (fun w0 hS => by have c := (HC7.out w0 hS); clear hS; go_simp; try with_reducible rfl) hS0 ?_
  simp only [Act.put, List.setIfInBounds_toArray, List.set_cons_succ, List.set_cons_zero]
  refine held_take (i := 4) (some 79) rfl (by rfl) (by kernel_rfl) (by kernel_rfl) (by kernel_rfl) (.pointer (some ⟨g, o, none⟩)) (fun _ _ _ h => h) (by rfl) (fun w0 hS => by clear hS; go_simp; try with_reducible rfl) hS0 ?_
  simp only [Act.put, List.setIfInBounds_toArray, List.set_cons_succ, List.set_cons_zero]
  refine held_take (i := 5) (some 80) rfl (by rfl) (by kernel_rfl) (by kernel_rfl) (by kernel_rfl) (.agg (Xs 0).cells.toArray) (fun _ _ _ h => h) (by rfl) (fun w0 hS => by exact run_load_op 27 (.tmp 79) (by rfl) g o (by rfl) (Xs 0).cells _ (HR1.out w0 hS) Tryz.underlying27 rfl (infoX _ rfl)) hS0 ?_
  simp only [Act.put, List.setIfInBounds_toArray, List.set_cons_succ, List.set_cons_zero]
  refine held_take (i := 6) (some 81) rfl (by rfl) (by kernel_rfl) (by kernel_rfl) (by kernel_rfl) (.bool full) (fun _ _ _ h => h) (by rfl) (fun w0 hS => by clear hS; go_simp; try with_reducible rfl) hS0 ?_
  simp only [Act.put, List.setIfInBounds_toArray, List.set_cons_succ, List.set_cons_zero]
  refine held_call (i := 0) (some 75) rfl (by rfl) (by kernel_rfl) (by rfl) 36 #[.string ⟨#[110, 111, 116]⟩] (by go_simp; try with_reducible rfl) ((HW.out _ _).mono ?_)
  rintro e w2 ⟨rfl, hb2⟩
  have hS2 : Below w1.heap.size w1 w2 := hS0.trans (hb2.mono hS0.size)
  refine ⟨_, rfl, hS2, ?_⟩
  simp only [Act.put, List.setIfInBounds_toArray, List.set_cons_succ, List.set_cons_zero]
  refine held_two (i := 1) (j := 7) rfl rfl (by kernel_rfl) (by rfl) (by rfl) (wp_val (some 76) (by rfl) (.slice (some ⟨w2.heap.size, 0, none⟩) 1 1) (w2.alloc (.cells #[.int .i64 1, .string ⟨#[110, 111, 116]⟩, .int .i64 0] 41 (0, 0))) (by go_simp; try with_reducible rfl) ⟨hS2.alloc hS2.size _, ?_⟩) (wp_ent (some 82) (by rfl) 38 #[.agg (Xs 0).cells.toArray, .int .i64 2, .bool full] (by go_simp; try with_reducible rfl) ?_)
  · simp only [Act.put, List.setIfInBounds_toArray, List.set_cons_succ, List.set_cons_zero]
    have hS2a : Below w1.heap.size w1 (w2.alloc (.cells #[.int .i64 1, .string ⟨#[110, 111, 116]⟩, .int .i64 0] 41 (0, 0))) := hS2.alloc hS2.size _
    refine held_call (i := 7) (some 82) rfl (by rfl) (by kernel_rfl) (by rfl) 38 #[.agg (Xs 0).cells.toArray, .int .i64 2, .bool full] (by go_simp; try with_reducible rfl) ((HPA.out _ (HB1.out.trans (hS2a.mono HB1.out.size))).mono ?_)
    rintro e w3 ⟨v3, rfl, hown3, hb3⟩
    have hS3 : Below w1.heap.size w1 w3 := hS2a.trans (hb3.mono hS2a.size)
    refine ⟨_, rfl, hS3, ?_⟩
    simp only [Act.put, List.setIfInBounds_toArray, List.set_cons_succ, List.set_cons_zero]
    have hnew : OwnT (w2.alloc (.cells #[.int .i64 1, .string ⟨#[110, 111, 116]⟩, .int .i64 0] 41 (0, 0))) w1.heap.size (.slice (some ⟨w2.heap.size, 0, none⟩) 1 1) [tkW kNot] := ownT_at _ rfl rfl rfl hS2.size (by decide)
    refine held_of (i := 8) rfl (by kernel_rfl) (by rfl) (wp_append_toks (.tmp 76) (.tmp 82) rfl w1.heap.size _ [tkW kNot] rfl v3 _ (partTk full 2 t0.op (tokM full t0)) rfl HNE.out hown3 (hnew.below hb3) (by have := HLEN.out; simp; omega) hS3.size (some 83) (by rfl) (fun v' w' hown' hb' => ⟨hS3.trans hb', ?_⟩))
    simp only [Act.put, List.setIfInBounds_toArray, List.set_cons_succ, List.set_cons_zero]
    have hSF := hS3.trans hb'
    refine held_run (i := 9) (some 4) rfl (by rfl) (by kernel_rfl) (by rfl) v' w' (by go_simp; try with_reducible rfl) hSF ?_
    simp only [Act.put, List.setIfInBounds_toArray, List.set_cons_succ, List.set_cons_zero]
    refine wpAnyH_done (by kernel_rfl) ?_ _
    have HOWNF := Lib.hid (hown'.base HB1.out.size)
    have HBF := Lib.hid (HB1.out.trans (hSF.mono HB1.out.size))
    clear hown' hb' hSF hS0 hS2 hS3
    go_wp2_with fail
    go_ret
    exact ⟨_, rfl, HOWNF.out, HBF.out⟩
  · refine (HPA.out _ (HB1.out.trans (hS2.mono HB1.out.size))).mono ?_
    rintro e w3 ⟨v3, rfl, hown3, hb3⟩
    have hS3' : Below w1.heap.size w1 w3 := hS2.trans (hb3.mono hS2.size)
    refine ⟨_, rfl, hS3', ?_⟩
    simp only [Act.put, List.setIfInBounds_toArray, List.set_cons_succ, List.set_cons_zero]
    have hS3 : Below w1.heap.size w1 (w3.alloc (.cells #[.int .i64 1, .string ⟨#[110, 111, 116]⟩, .int .i64 0] 41 (0, 0))) := hS3'.alloc hS3'.size _
    refine held_run (i := 1) (some 76) rfl (by rfl) (by kernel_rfl) (by rfl) (.slice (some ⟨w3.heap.size, 0, none⟩) 1 1) (w3.alloc (.cells #[.int .i64 1, .string ⟨#[110, 111, 116]⟩, .int .i64 0] 41 (0, 0))) (by go_simp; try with_reducible rfl) hS3 ?_
    simp only [Act.put, List.setIfInBounds_toArray, List.set_cons_succ, List.set_cons_zero]
    have hnew : OwnT (w3.alloc (.cells #[.int .i64 1, .string ⟨#[110, 111, 116]⟩, .int .i64 0] 41 (0, 0))) w1.heap.size (.slice (some ⟨w3.heap.size, 0, none⟩) 1 1) [tkW kNot] := ownT_at _ rfl rfl rfl hS3'.size (by decide)
    refine held_of (i := 8) rfl (by kernel_rfl) (by rfl) (wp_append_toks (.tmp 76) (.tmp 82) rfl w1.heap.size _ [tkW kNot] rfl v3 _ (partTk full 2 t0.op (tokM full t0)) rfl HNE.out (hown3.below ((Below.refl _ _).alloc (Nat.le_refl _) _)) hnew (by have := HLEN.out; simp; omega) hS3.size (some 83) (by rfl) (fun v' w' hown' hb' => ⟨hS3.trans hb', ?_⟩))
    simp only [Act.put, List.setIfInBounds_toArray, List.set_cons_succ, List.set_cons_zero]
    have hSF := hS3.trans hb'
    refine held_run (i := 9) (some 4) rfl (by rfl) (by kernel_rfl) (by rfl) v' w' (by go_simp; try with_reducible rfl) hSF ?_
    simp only [Act.put, List.setIfInBounds_toArray, List.set_cons_succ, List.set_cons_zero]
    refine wpAnyH_done (by kernel_rfl) ?_ _
    have HOWNF := Lib.hid (hown'.base HB1.out.size)
    have HBF := Lib.hid (HB1.out.trans (hSF.mono HB1.out.size))
    clear hown' hb' hSF hS0 hS2 hS3
    go_wp2_with fail
    go_ret
    exact ⟨_, rfl, HOWNF.out, HBF.out⟩
set_option maxRecDepth 100000 in
set_option maxHeartbeats 4000000 in
theorem tok_neg (w : World) (X : XV) (full : Bool) (hX : X.o = ⟨#[110, 101, 103]⟩) (t0 : Tr) (g o : Nat) (Xs : Nat → XV) (hl : X.l = 1) (ha : X.a = some ⟨g, o, none⟩) (hr : w.rangeAt g o (Xs 0).cells) (hnr : g < w.heap.size) (hne : partTk full 6 t0.op (tokM full t0) ≠ []) (hlen : (partTk full 6 t0.op (tokM full t0)).length ≤ 900000) (hT : ∀ W, Below w.heap.size w W → Calls Tryz.prog 38 #[(Xs 0).v, .int .i64 6, .bool full] W fun e w' => ∃ u, e = .returned u ∧ OwnT w' W.heap.size u (partTk full 6 t0.op (tokM full t0)) ∧ Below W.heap.size W w') :
    Calls Tryz.prog 12 #[X.v, .bool full] w fun e w' => ∃ u, e = .returned u ∧ OwnT w' w.heap.size u (tkS kMinus :: partTk full 6 t0.op (tokM full t0)) ∧ Below w.heap.size w w' := by
  obtain ⟨W0, hW0, hb0, hbox⟩ := boxed w X
  have HST : Hid (∀ W, Calls Tryz.prog 29 #[.string ⟨#[110, 101, 103]⟩] W fun e w' => e = .returned (.int .i64 (strM kNeg)) ∧ Below W.heap.size W w') := Lib.hid (fun W => strength_any W kNeg)
  have HW := Lib.hid (fun W s => word8_any W s)
  have HS := Lib.hid (fun W s => sign8_any W s)
  have HX := Lib.hid hX
  have HB0 := Lib.hid hb0
  have HBX := Lib.hid hbox
  have HR0 := Lib.hid (fun W (hb : Below w.heap.size w W) => show W.rangeAt g o (Xs 0).cells from fun j v hj => (hb.cell (p := ⟨g, o + j, none⟩) hnr).trans (hr j v hj))
  have H7 := Lib.hid (show Value.slice X.a X.l X.c = .slice (some ⟨g, o, none⟩) 1 X.c by rw [hl, ha])
  clear hl ha hr hnr
  have HNE := Lib.hid hne
  have HLEN := Lib.hid hlen
  have HPA : Hid (∀ W, Below w.heap.size w W → Calls Tryz.prog 38 #[.agg (Xs 0).cells.toArray, .int .i64 6, .bool full] W fun e w' => ∃ u, e = .returned u ∧ OwnT w' W.heap.size u (partTk full 6 t0.op (tokM full t0)) ∧ Below W.heap.size W w') := Lib.hid hT
  clear hne hlen hT
  clear hb0 hbox
  unfold XV.v
  rw [hX]
  clear hX
  go_enter Tryz.func12, Tryz.ntmps12
  go_wp2_with fail
  generalize hW : World.alloc _ _ = W1
  obtain rfl : W0 = W1 := by rw [← hW0, ← hW]; unfold XV.cells xcells; rw [HX.out]
  clear hW hW0
  refine (HST.out W0).mono ?_
  rintro e w1 ⟨rfl, hb1⟩
  have HBX1 := Lib.hid (HBX.out.below hb1)
  have HB1 := Lib.hid (HB0.out.trans (hb1.mono HB0.out.size))
  have c0 : w1.cell? ⟨w.heap.size, 0, none⟩ = some (.string ⟨#[110, 101, 103]⟩) := by rw [HBX1.out.cell 0]; unfold XV.cells xcells; rw [HX.out]; rfl
  clear hb1 HB0 HBX HST
  have HR1 := Lib.hid (fun W (hb : Below w1.heap.size w1 W) => HR0.out W (HB1.out.trans (hb.mono HB1.out.size)))
  have HC7 := Lib.hid (fun W (hb : Below w1.heap.size w1 W) => show W.cell? ⟨w.heap.size, 7, none⟩ = some (.slice (some ⟨g, o, none⟩) 1 X.c) by rw [(HBX1.out.below hb).cell 7, ← H7.out]; rfl)
  go_wp2_with fail
  refine wp_region_held (S := fun W => Below w1.heap.size w1 W) (by kernel_rfl) ?_
  change wpAnyH _ _ _ _ _ _ _ _ (World.drew _)
  have hS0 : Below w1.heap.size w1 w1.drew := (Below.refl _ _).drew
  clear c0
  generalize w1.drew = Wd at *
  refine held_take (i := 2) (some 88) rfl (by rfl) (by kernel_rfl) (by kernel_rfl) (by kernel_rfl) (.pointer (some ⟨w.heap.size, 7, none⟩)) (fun _ _ _ h => h) (by rfl) (fun w0 hS => by clear hS; go_simp; try with_reducible rfl) hS0 ?_
  simp only [Act.put, List.setIfInBounds_toArray, List.set_cons_succ, List.set_cons_zero]
  refine held_take (i := 3) (some 89) rfl (by rfl) (by kernel_rfl) (by kernel_rfl) (by kernel_rfl) (.slice (some ⟨g, o, none⟩) 1 X.c) (fun _ _ _ h => h) (by rfl) (fun w0 hS => by have c := (HC7.out w0 hS); clear hS; go_simp; try with_reducible rfl) hS0 ?_
  simp only [Act.put, List.setIfInBounds_toArray, List.set_cons_succ, List.set_cons_zero]
  refine held_take (i := 4) (some 90) rfl (by rfl) (by kernel_rfl) (by kernel_rfl) (by kernel_rfl) (.pointer (some ⟨g, o, none⟩)) (fun _ _ _ h => h) (by rfl) (fun w0 hS => by clear hS; go_simp; try with_reducible rfl) hS0 ?_
  simp only [Act.put, List.setIfInBounds_toArray, List.set_cons_succ, List.set_cons_zero]
  refine held_take (i := 5) (some 91) rfl (by rfl) (by kernel_rfl) (by kernel_rfl) (by kernel_rfl) (.agg (Xs 0).cells.toArray) (fun _ _ _ h => h) (by rfl) (fun w0 hS => by exact run_load_op 27 (.tmp 90) (by rfl) g o (by rfl) (Xs 0).cells _ (HR1.out w0 hS) Tryz.underlying27 rfl (infoX _ rfl)) hS0 ?_
  simp only [Act.put, List.setIfInBounds_toArray, List.set_cons_succ, List.set_cons_zero]
  refine held_take (i := 6) (some 92) rfl (by rfl) (by kernel_rfl) (by kernel_rfl) (by kernel_rfl) (.bool full) (fun _ _ _ h => h) (by rfl) (fun w0 hS => by clear hS; go_simp; try with_reducible rfl) hS0 ?_
  simp only [Act.put, List.setIfInBounds_toArray, List.set_cons_succ, List.set_cons_zero]
  refine held_call (i := 0) (some 86) rfl (by rfl) (by kernel_rfl) (by rfl) 37 #[.string ⟨#[45]⟩] (by go_simp; try with_reducible rfl) ((HS.out _ _).mono ?_)
  rintro e w2 ⟨rfl, hb2⟩
  have hS2 : Below w1.heap.size w1 w2 := hS0.trans (hb2.mono hS0.size)
  refine ⟨_, rfl, hS2, ?_⟩
  simp only [Act.put, List.setIfInBounds_toArray, List.set_cons_succ, List.set_cons_zero]
  refine held_two (i := 1) (j := 7) rfl rfl (by kernel_rfl) (by rfl) (by rfl) (wp_val (some 87) (by rfl) (.slice (some ⟨w2.heap.size, 0, none⟩) 1 1) (w2.alloc (.cells #[.int .i64 5, .string ⟨#[45]⟩, .int .i64 0] 41 (0, 0))) (by go_simp; try with_reducible rfl) ⟨hS2.alloc hS2.size _, ?_⟩) (wp_ent (some 93) (by rfl) 38 #[.agg (Xs 0).cells.toArray, .int .i64 6, .bool full] (by go_simp; try with_reducible rfl) ?_)
  · simp only [Act.put, List.setIfInBounds_toArray, List.set_cons_succ, List.set_cons_zero]
    have hS2a : Below w1.heap.size w1 (w2.alloc (.cells #[.int .i64 5, .string ⟨#[45]⟩, .int .i64 0] 41 (0, 0))) := hS2.alloc hS2.size _
    refine held_call (i := 7) (some 93) rfl (by rfl) (by kernel_rfl) (by rfl) 38 #[.agg (Xs 0).cells.toArray, .int .i64 6, .bool full] (by go_simp; try with_reducible rfl) ((HPA.out _ (HB1.out.trans (hS2a.mono HB1.out.size))).mono ?_)
    rintro e w3 ⟨v3, rfl, hown3, hb3⟩
    have hS3 : Below w1.heap.size w1 w3 := hS2a.trans (hb3.mono hS2a.size)
    refine ⟨_, rfl, hS3, ?_⟩
    simp only [Act.put, List.setIfInBounds_toArray, List.set_cons_succ, List.set_cons_zero]
    have hnew : OwnT (w2.alloc (.cells #[.int .i64 5, .string ⟨#[45]⟩, .int .i64 0] 41 (0, 0))) w1.heap.size (.slice (some ⟨w2.heap.size, 0, none⟩) 1 1) [tkS kMinus] := ownT_at _ rfl rfl rfl hS2.size (by decide)
    refine held_of (i := 8) rfl (by kernel_rfl) (by rfl) (wp_append_toks (.tmp 87) (.tmp 93) rfl w1.heap.size _ [tkS kMinus] rfl v3 _ (partTk full 6 t0.op (tokM full t0)) rfl HNE.out hown3 (hnew.below hb3) (by have := HLEN.out; simp; omega) hS3.size (some 94) (by rfl) (fun v' w' hown' hb' => ⟨hS3.trans hb', ?_⟩))
    simp only [Act.put, List.setIfInBounds_toArray, List.set_cons_succ, List.set_cons_zero]
    have hSF := hS3.trans hb'
    refine held_run (i := 9) (some 4) rfl (by rfl) (by kernel_rfl) (by rfl) v' w' (by go_simp; try with_reducible rfl) hSF ?_
    simp only [Act.put, List.setIfInBounds_toArray, List.set_cons_succ, List.set_cons_zero]
    refine wpAnyH_done (by kernel_rfl) ?_ _
    have HOWNF := Lib.hid (hown'.base HB1.out.size)
    have HBF := Lib.hid (HB1.out.trans (hSF.mono HB1.out.size))
    clear hown' hb' hSF hS0 hS2 hS3
    go_wp2_with fail
    go_ret
    exact ⟨_, rfl, HOWNF.out, HBF.out⟩
  · refine (HPA.out _ (HB1.out.trans (hS2.mono HB1.out.size))).mono ?_
    rintro e w3 ⟨v3, rfl, hown3, hb3⟩
    have hS3' : Below w1.heap.size w1 w3 := hS2.trans (hb3.mono hS2.size)
    refine ⟨_, rfl, hS3', ?_⟩
    simp only [Act.put, List.setIfInBounds_toArray, List.set_cons_succ, List.set_cons_zero]
    have hS3 : Below w1.heap.size w1 (w3.alloc (.cells #[.int .i64 5, .string ⟨#[45]⟩, .int .i64 0] 41 (0, 0))) := hS3'.alloc hS3'.size _
    refine held_run (i := 1) (some 87) rfl (by rfl) (by kernel_rfl) (by rfl) (.slice (some ⟨w3.heap.size, 0, none⟩) 1 1) (w3.alloc (.cells #[.int .i64 5, .string ⟨#[45]⟩, .int .i64 0] 41 (0, 0))) (by go_simp; try with_reducible rfl) hS3 ?_
    simp only [Act.put, List.setIfInBounds_toArray, List.set_cons_succ, List.set_cons_zero]
    have hnew : OwnT (w3.alloc (.cells #[.int .i64 5, .string ⟨#[45]⟩, .int .i64 0] 41 (0, 0))) w1.heap.size (.slice (some ⟨w3.heap.size, 0, none⟩) 1 1) [tkS kMinus] := ownT_at _ rfl rfl rfl hS3'.size (by decide)
    refine held_of (i := 8) rfl (by kernel_rfl) (by rfl) (wp_append_toks (.tmp 87) (.tmp 93) rfl w1.heap.size _ [tkS kMinus] rfl v3 _ (partTk full 6 t0.op (tokM full t0)) rfl HNE.out (hown3.below ((Below.refl _ _).alloc (Nat.le_refl _) _)) hnew (by have := HLEN.out; simp; omega) hS3.size (some 94) (by rfl) (fun v' w' hown' hb' => ⟨hS3.trans hb', ?_⟩))
    simp only [Act.put, List.setIfInBounds_toArray, List.set_cons_succ, List.set_cons_zero]
    have hSF := hS3.trans hb'
    refine held_run (i := 9) (some 4) rfl (by rfl) (by kernel_rfl) (by rfl) v' w' (by go_simp; try with_reducible rfl) hSF ?_
    simp only [Act.put, List.setIfInBounds_toArray, List.set_cons_succ, List.set_cons_zero]
    refine wpAnyH_done (by kernel_rfl) ?_ _
    have HOWNF := Lib.hid (hown'.base HB1.out.size)
    have HBF := Lib.hid (HB1.out.trans (hSF.mono HB1.out.size))
    clear hown' hb' hSF hS0 hS2 hS3
    go_wp2_with fail
    go_ret
    exact ⟨_, rfl, HOWNF.out, HBF.out⟩
end Go.Proofs.YtllgodaphoncnaaGreatDoor
