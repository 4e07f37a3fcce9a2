/- First tokens: what they are like. Rows of tokens; A text's tokens. -/
import Derived.Test.YtllgodaphoncnaaGreatDoorJ43
namespace Go.Proofs.YtllgodaphoncnaaGreatDoor
open Go.RowKit

set_option maxRecDepth 100000 in
theorem parse_bd {l : List UInt8} {v : Int} (h : Lib.parseIntB 64 l = .ok v) : -9223372036854775808 ≤ v ∧ v ≤ 9223372036854775807 := by
  unfold Lib.parseIntB at h
  split at h
  · cases h
  · dsimp only at h
    split at h
    · cases h
    · cases h
    · split at h
      · cases h
      · split at h
        · cases h
        · rename_i u hu h1 h2
          injection h with h
          subst h
          split
          · rename_i h3; simp [h3] at h2; omega
          · rename_i h3; simp [h3] at h1; omega
set_option maxRecDepth 100000 in
theorem digM_bd (l : List UInt8) : -9223372036854775808 ≤ (digM l).1 ∧ (digM l).1 ≤ 9223372036854775807 := by
  unfold digM
  dsimp only
  split
  · exact ⟨by simp, by simp⟩
  · split
    · rename_i h; exact parse_bd h
    · exact ⟨by simp, by simp⟩
set_option maxRecDepth 100000 in
theorem inM_le : ∀ (f : Nat) (l : List UInt8), l.length ≤ f → ∀ x n, inM l = some (x, n) → n ≤ l.length ∧ x.length ≤ l.length
  | 0, l, hf, x, n, h => by
    obtain rfl : l = [] := List.eq_nil_of_length_eq_zero (by omega)
    rw [inM_nil] at h; cases h
  | f + 1, [], _, x, n, h => by rw [inM_nil] at h; cases h
  | f + 1, c :: l, hf, x, n, h => by
    simp only [List.length_cons] at hf
    by_cases h1 : c.toNat = 34
    · rw [inM_quote _ _ h1] at h
      injection h with h
      injection h with ha hb
      subst ha hb
      simp
    · by_cases h2 : c.toNat = 92
      · cases l with
        | nil => rw [inM_end _ h2] at h; cases h
        | cons d l =>
          rw [inM_esc _ _ _ h2] at h
          split at h
          · cases hi : inM l with
            | none => rw [hi] at h; cases h
            | some y =>
              rw [hi] at h
              obtain ⟨a, b⟩ := inM_le f l (by simp at hf; omega) y.1 y.2 hi
              simp only [Option.map_some, Option.some.injEq, Prod.mk.injEq] at h
              obtain ⟨rfl, rfl⟩ := h
              simp; omega
          · cases h
      · rw [inM_plain _ _ h1 h2] at h
        cases hi : inM l with
        | none => rw [hi] at h; cases h
        | some y =>
          rw [hi] at h
          obtain ⟨a, b⟩ := inM_le f l (by omega) y.1 y.2 hi
          simp only [Option.map_some, Option.some.injEq, Prod.mk.injEq] at h
          obtain ⟨rfl, rfl⟩ := h
          simp; omega
set_option maxRecDepth 100000 in
theorem fsign_mem (l : List UInt8) : fsign l = [] ∨ (fsign l ∈ signsL ∧ (fsign l).isPrefixOf l = true) := by
  unfold fsign
  cases h : signsL.find? (·.isPrefixOf l) with
  | none => exact .inl rfl
  | some x => exact .inr ⟨List.mem_of_find?_eq_some h, by simpa using List.find?_some h⟩
set_option maxRecDepth 100000 in
theorem prefix_len {a b : List UInt8} (h : a.isPrefixOf b = true) : a.length ≤ b.length := (List.isPrefixOf_iff_prefix.1 h).length_le
set_option maxRecDepth 100000 in
theorem fsign_le (l : List UInt8) : (fsign l).length ≤ l.length := by
  rcases fsign_mem l with h | ⟨_, h⟩
  · rw [h]; exact Nat.zero_le _
  · exact prefix_len h
set_option maxRecDepth 100000 in
theorem okTk (k : Int) (s : List UInt8) (n : Int) (hk : 0 ≤ k ∧ k ≤ 5) (hn : -9223372036854775808 ≤ n ∧ n ≤ 9223372036854775807) (hs : s.length ≤ 1000000) : Tk.Ok ⟨k, s, n⟩ := ⟨by show _ ≤ k; omega, by show k ≤ _; omega, hn.1, hn.2, hs⟩
set_option maxRecDepth 100000 in
theorem ok_noTk : noTk.Ok := ⟨by decide, by decide, by decide, by decide, by decide⟩
set_option maxRecDepth 100000 in
theorem firstM_all (l : List UInt8) (hl : l.length ≤ 1000000) : (firstM l).1.Ok ∧ (firstM l).2 ≤ l.length ∧ (formB (firstM l).1 = true → 1 ≤ (firstM l).2) := by
  have hno : formB noTk = true → False := by decide
  cases l with
  | nil => exact ⟨ok_noTk, Nat.le_refl _, fun h => (hno h).elim⟩
  | cons c r =>
    obtain ⟨l, hll⟩ : ∃ l, c :: r = l := ⟨_, rfl⟩
    have hlen : 1 ≤ l.length := by rw [← hll]; simp
    have e : firstM l = if letB c then wordM l else if digB c then numM1 l else if c.toNat = 34 then textM1 l else if c.toNat = 64 then timeM l else signM l := by rw [← hll]; rfl
    rw [hll] at hl ⊢
    rw [e]
    split
    · rename_i hc
      have h1 := runN_le innB l
      have h2 : 1 ≤ runN innB l := by
        rw [← hll, runN_cons, if_pos (by simp [innB, hc])]; omega
      unfold wordM
      exact ⟨okTk 1 _ 0 (by decide) (by decide) (by rw [List.length_take]; omega), h1, fun _ => h2⟩
    · split
      · have h1 := digM_le l
        have h2 := digM_bd l
        unfold numM1
        split
        · exact ⟨ok_noTk, Nat.zero_le _, fun h => (hno h).elim⟩
        · exact ⟨okTk 2 [] _ (by decide) h2 (by decide), h1, fun _ => by show 1 ≤ (digM l).2; omega⟩
      · split
        · unfold textM1
          split
          · rename_i x n hi
            have := inM_le _ (l.drop 1) (Nat.le_refl _) x n hi
            rw [List.length_drop] at this
            exact ⟨okTk 3 x 0 (by decide) (by decide) (by omega), by show n + 1 ≤ _; omega, fun _ => by show 1 ≤ n + 1; omega⟩
          · exact ⟨ok_noTk, Nat.zero_le _, fun h => (hno h).elim⟩
        · split
          · have h1 := digM_le (l.drop 1)
            rw [List.length_drop] at h1
            have h2 := digM_bd (l.drop 1)
            unfold timeM
            split
            · exact ⟨ok_noTk, Nat.zero_le _, fun h => (hno h).elim⟩
            · exact ⟨okTk 4 [] _ (by decide) h2 (by decide), by show 1 + (digM (l.drop 1)).2 ≤ _; omega, fun _ => by show 1 ≤ 1 + (digM (l.drop 1)).2; omega⟩
          · have h1 := fsign_le l
            unfold signM
            refine ⟨okTk 5 _ 0 (by decide) (by decide) (by omega), h1, fun h => ?_⟩
            have h2 : signB (fsign l) = true := by
              have : formB ⟨5, fsign l, 0⟩ = signB (fsign l) := by simp [formB]
              rw [← this]; exact h
            show 1 ≤ (fsign l).length
            cases hf : fsign l with
            | nil => rw [hf] at h2; cases h2
            | cons _ _ => simp
set_option maxRecDepth 100000 in
theorem skipB_le (b : Bool) (l : List UInt8) : (skipB b l).length ≤ l.length := by
  induction l generalizing b with
  | nil => cases b <;> simp [skipB]
  | cons c l ih =>
    cases b with
    | true => rw [skipB]; have := ih (!decide (c.toNat = 10)); simp; omega
    | false =>
      rw [skipB]
      split
      · have := ih false; simp; omega
      · split
        · have := ih true; simp; omega
        · exact Nat.le_refl _
set_option maxRecDepth 100000 in
theorem rangeL {w : World} {g : Nat} {L : List Value} {t : TypeId} {fr : Nat × Nat} (h : w.heap[g]? = some (.cells L.toArray t fr)) : w.rangeAt g 0 L := fun j v hv => by
  rw [Nat.zero_add, cell_block h]; simpa using hv
def cellsT (ts : List Tk) : List Value := (ts.map Tk.cells).flatten
set_option maxRecDepth 100000 in
theorem length_cellsT (ts : List Tk) : (cellsT ts).length = ts.length * 3 := by
  induction ts with
  | nil => rfl
  | cons t ts ih =>
    show (t.cells ++ cellsT ts).length = _
    rw [List.length_append, ih]
    simp [Tk.cells]; omega
set_option maxRecDepth 100000 in
theorem cellsT_snoc (ts : List Tk) (t : Tk) : cellsT (ts ++ [t]) = cellsT ts ++ t.cells := by simp [cellsT]
/-- a row of one's own of these tokens -/
structure OwnT (w : World) (N : Nat) (v : Value) (ts : List Tk) : Prop where
  row : w.ownsRow N 41 3 v ts.length (cellsT ts)
set_option maxRecDepth 100000 in
theorem OwnT.below {w w' : World} {N : Nat} {v : Value} {ts : List Tk} (h : OwnT w N v ts) (hb : Below w.heap.size w w') : OwnT w' N v ts := by
  obtain ⟨h1, h2⟩ := h.row
  refine ⟨⟨h1, ?_⟩⟩
  rcases h2 with h2 | ⟨g, cap, cur, e, hg, hc, rest⟩
  · exact .inl h2
  · exact .inr ⟨g, cap, cur, e, hg, (hb.block g (lt_block hc)).trans hc, rest⟩
set_option maxRecDepth 100000 in
theorem OwnT.nil (w : World) (N : Nat) : OwnT w N (.slice none 0 0) [] := ⟨World.ownsRow_nil _ _ _ _⟩
set_option maxRecDepth 100000 in
theorem OwnT.shape {w : World} {N : Nat} {v : Value} {ts : List Tk} (h : OwnT w N v ts) : ∃ ad cp, v = .slice ad ts.length cp := by
  rcases h.row.2 with ⟨rfl, hn⟩ | ⟨g, cap, cur, rfl, _⟩
  · exact ⟨none, 0, by rw [hn]⟩
  · exact ⟨_, _, rfl⟩
set_option maxRecDepth 100000 in
theorem info_tok3 : (Tryz.prog.info? 41).map (fun i => (i.zero, i.size, i.bytes)) = some (some (.agg #[.int .i64 0, .string (st []), .int .i64 0]), 3, 32) := by kernel_rfl
set_option maxRecDepth 100000 in
/-- one token more -/
theorem append_tok {ops : Array Oper} {rest : List Oper} {o : Oper} {a : Act} {w : World} {Q : Exit → Act → World → Prop} (hgd : o.guard = none) (s x : Operand)
    (ho : o.op = .call { callee := .builtin .append, args := #[s, x], argTypes := #[30, 30] })
    (N : Nat) (v : Value) (ts : List Tk) (hs : a.eval s = v) (t : Tk) (g cp : Nat) (hx : a.eval x = .slice (some ⟨g, 0, none⟩) 1 cp) (hg : w.heap[g]? = some (.cells t.cells.toArray 41 (0, 0))) (hown : OwnT w N v ts) (hlen : ts.length ≤ 1000000) (hN : N ≤ w.heap.size)
    (k : ∀ v' w', OwnT w' N v' (ts ++ [t]) → Below N w w' → wpList Tryz.prog ops Q rest (a.put o.dst v') w') : wpList Tryz.prog ops Q (o :: rest) a w := by
  obtain ⟨i, hi, hz, hsz, hby⟩ := info_parts info_tok3
  refine wpList_append_own_wide w hgd s x 30 ho N 41 i _ 3 32 Tryz.underlying30 hi hz hsz hby rfl (by omega) v ts.length (cellsT ts) hs hown.row ⟨g, 0, none⟩ 1 cp t.cells hx (by simp [Tk.cells]) (fun j u hj => by
    rw [Addr.add_mid, Nat.zero_add, cell_block hg]
    simpa using hj) (fun u hu => by
      simp only [Tk.cells, List.mem_cons, List.not_mem_nil, or_false] at hu
      rcases hu with rfl | rfl | rfl <;> rfl) (by unfold maxLen; omega) (by omega) hN ?_
  intro v' w' hown'' hgr _
  exact k v' w' ⟨by rw [List.length_append, cellsT_snoc]; exact hown''⟩ ((Below.refl N w).grown hgr hN (fun b hb => (hown.row.lt b hb).1))
end Go.Proofs.YtllgodaphoncnaaGreatDoor
namespace Go.Proofs.YtllgodaphoncnaaGreatDoor
open Go.RowKit

structure LexRel (w : World) (l r : List UInt8) (f : Nat) (acc : List Tk) (R : List Tk × Nat × Int) (v : Value) (wr : World) : Prop where
  own : OwnT wr w.heap.size v acc
  below : Below w.heap.size w wr
  eq : lexF l.length f r acc = R
  len : r.length ≤ f
  len2 : r.length ≤ l.length
  few : acc.length ≤ 600
set_option maxRecDepth 100000 in
set_option maxHeartbeats 4000000 in
theorem lex_any (w : World) (hw : LexW w) (l : List UInt8) (hl : l.length ≤ 1000000) :
    Calls Tryz.prog 26 #[.string (st l)] w fun e w' => ∃ v, e = .returned (.tuple #[v, .int .i64 ((lexM l).2.1 : Int), .int .i64 (lexM l).2.2]) ∧ OwnT w' w.heap.size v (lexM l).1 ∧ Below w.heap.size w w' := by
  have hsz := size_st l
  have HSk0 := Lib.hid (skip_any w l hl)
  have hle0 := skipB_le false l
  obtain ⟨s, hs⟩ : ∃ s, st l = s := ⟨_, rfl⟩
  rw [hs] at hsz HSk0
  rw [hs]
  clear hs
  by_cases hlong : 4096 < l.length
  · have d1 : decide ((4096 : Int) < (l.length : Int)) = true := by simp; omega
    have hR : lexM l = ([], 0, 3) := by unfold lexM; rw [if_pos hlong]
    rw [hR]
    clear hR HSk0 hle0
    go_enter Tryz.func26, Tryz.ntmps26
    go_wp2_with fail
    exact bodyPost_ret (v := .tuple #[.slice none 0 0, .int .i64 0, .int .i64 3]) (by simp [results, Tryz.results26, go_sem]) rfl ⟨_, rfl, OwnT.nil _ _, Below.refl _ _⟩
  · have d1 : decide ((4096 : Int) < (l.length : Int)) = false := by simp; omega
    have hR : lexM l = lexF l.length l.length (skipB false l) [] := by unfold lexM; rw [if_neg hlong]
    obtain ⟨R, hRR⟩ : ∃ R, lexM l = R := ⟨_, rfl⟩
    rw [hRR] at hR ⊢
    have HW := Lib.hid hw
    have HR0 := Lib.hid hR.symm
    clear hR hRR hw
    go_enter Tryz.func26, Tryz.ntmps26
    go_wp2_with fail
    refine HSk0.out.mono ?_
    rintro e w1 ⟨rfl, hb1⟩
    have R0 : LexRel w l (skipB false l) l.length [] R (.slice none 0 0) w1 := ⟨OwnT.nil _ _, hb1, HR0.out, hle0, hle0, by simp⟩
    clear hb1 HSk0 HR0
    obtain ⟨r0, hr0⟩ : ∃ r0, skipB false l = r0 := ⟨_, rfl⟩
    rw [hr0] at R0
    rw [hr0]
    clear hr0 hle0
    go_wp2_with fail
    go_loopw [5, 6, 7, 8, 9] (fun v rs _ _ _ wr => ∃ (r : List UInt8) (f : Nat) (acc : List Tk), rs = .string (st r) ∧ LexRel w l r f acc R v wr) (fun _ rs _ _ _ _ => match rs with | .string s => s.size | _ => 0)
    case atStart => exact ⟨r0, l.length, [], rfl, R0⟩
    case round =>
      clear R0
      obtain ⟨r, f, acc, rfl, hr⟩ := hrel
      have HR := Lib.hid hr
      have hsr := size_st r
      have htr := toList_st r
      have hrl := hr.len2
      have hrf := hr.len
      have hacc := hr.few
      have hre := hr.eq
      clear hr
      by_cases hnil : r = []
      · have hR : R = (acc, 0, 0) := by
          subst hnil
          rw [← hre]
          cases f <;> simp [lexF]
        clear hre
        have hnil' : (r == []) = true := by rw [hnil]; rfl
        obtain ⟨sr, hsr'⟩ : ∃ s, st r = s := ⟨_, rfl⟩
        rw [hsr'] at hsr htr
        rw [hsr']
        have HRR := Lib.hid hR
        clear hsr' hnil hR
        go_wp2_with fail
        exact bodyPost_ret (v := .tuple #[u5, .int .i64 0, .int .i64 0]) (by simp [results, Tryz.results26, go_sem]) rfl ⟨u5, by rw [HRR.out]; rfl, by rw [HRR.out]; exact HR.out.own, HR.out.below⟩
      · obtain ⟨f', rfl⟩ : ∃ f', f = f' + 1 := ⟨f - 1, by
          have : r.length ≠ 0 := fun e => hnil (List.eq_nil_of_length_eq_zero e)
          omega⟩
        rw [lexF, if_neg hnil] at hre
        have HF := Lib.hid (first_any wr (HW.out.below HR.out.below) r hnil (by omega))
        obtain ⟨hok, hm, hpos⟩ := firstM_all r (by omega)
        have hne : (r == []) = false := by simpa using hnil
        have hlo := fun w => run_slice_lo w r (firstM r).2 hm
        obtain ⟨⟨t, m⟩, hT⟩ : ∃ T, firstM r = T := ⟨_, rfl⟩
        rw [hT] at hre HF hok hm hpos hlo
        dsimp only at hre HF hok hm hpos hlo
        have hdl : (skipB false (r.drop m)).length ≤ r.length - m := by
          have := skipB_le false (r.drop m)
          rwa [List.length_drop] at this
        obtain ⟨sr, hsr'⟩ : ∃ s, st r = s := ⟨_, rfl⟩
        rw [hsr'] at hsr htr HF hlo
        rw [hsr']
        obtain ⟨sd, hsd⟩ : ∃ s, st (r.drop m) = s := ⟨_, rfl⟩
        rw [hsd] at hlo
        have hpl : (l.length : Int) - (r.length : Int) = ((l.length - r.length : Nat) : Int) := by omega
        obtain ⟨P, hP⟩ : ∃ P, l.length - r.length = P := ⟨_, rfl⟩
        rw [hP] at hpl hre
        have HSd := Lib.hid hsd
        have HRe := Lib.hid hre
        have HOk := Lib.hid hok
        have HPos := Lib.hid hpos
        have hP4 : P ≤ 4096 := by omega
        clear hT hsr' hsd hP hre hok hpos hnil
        unfold Tk.val Tk.cells at HF
        have hfo := fun W (hW : Below wr.heap.size wr W) => lformed_any W (HW.out.below (HR.out.below.trans (hW.mono HR.out.below.size))) t HOk.out
        unfold Tk.val Tk.cells at hfo
        obtain ⟨ts, hts⟩ : ∃ s, st t.s = s := ⟨_, rfl⟩
        rw [hts] at HF hfo
        have HTs := Lib.hid hts
        have HFo := Lib.hid hfo
        clear hts hfo
        go_wp2_with fail
        refine HF.out.mono ?_
        rintro e w2 ⟨rfl, hb2⟩
        have HB2 := Lib.hid (HR.out.below.trans (hb2.mono HR.out.below.size))
        have HB22 := Lib.hid hb2
        clear hb2 HF
        go_wp2_with fail
        generalize hW : World.alloc _ _ = W3 at *
        have hb3 : Below w2.heap.size w2 W3 := by rw [← hW]; exact (Below.refl _ _).alloc (Nat.le_refl _) _
        have hg3 : W3.heap[w2.heap.size]? = some (.cells [.int .i64 t.k, .string ts, .int .i64 t.n].toArray 41 (0, 0)) := by rw [← hW]; exact heap_alloc_new _ _
        have hb03 := HB22.out.trans (hb3.mono HB22.out.size)
        have HFo3 := Lib.hid (HFo.out W3 hb03)
        have HB3 := Lib.hid (HR.out.below.trans (hb03.mono HR.out.below.size))
        have HG3 := Lib.hid hg3
        have HOwn := Lib.hid (HR.out.own.below hb03)
        clear hW hb3 hg3 HFo HB2 HB22 hb03
        refine HFo3.out.mono ?_
        rintro e w4 ⟨rfl, hb4⟩
        have HB4 := Lib.hid (HB3.out.trans (hb4.mono HB3.out.size))
        have HG4 := Lib.hid ((hb4.block _ (lt_block HG3.out)).trans HG3.out)
        have HOwn4 := Lib.hid (HOwn.out.below hb4)
        have hre := HRe.out
        have hpos := HPos.out
        obtain ⟨bf, hbf⟩ : ∃ b, formB t = b := ⟨_, rfl⟩
        rw [hbf] at hre hpos
        rw [hbf]
        clear hb4 HFo3 HB3 HG3 HOwn HRe hbf HPos
        cases bf with
        | false =>
          rw [if_pos rfl] at hre
          have HRR := Lib.hid hre.symm
          clear hre hpos
          go_wp2_with fail
          exact bodyPost_ret (v := .tuple #[.slice none 0 0, .int .i64 (P : Int), .int .i64 2]) (by simp [results, Tryz.results26, go_sem]) rfl ⟨_, by rw [HRR.out], by rw [HRR.out]; exact OwnT.nil _ _, HB4.out⟩
        | true =>
          have hm1 := hpos rfl
          rw [if_neg (by decide)] at hre
          obtain ⟨a5, c5, rfl⟩ := HOwn4.out.shape
          by_cases h6 : acc.length = 600
          · have d6 : ((acc.length : Int) == 600) = true := by rw [h6]; rfl
            rw [if_pos h6] at hre
            have HRR := Lib.hid hre.symm
            clear hre hpos h6
            go_wp2_with fail
            exact bodyPost_ret (v := .tuple #[.slice none 0 0, .int .i64 (P : Int), .int .i64 13]) (by simp [results, Tryz.results26, go_sem]) rfl ⟨_, by rw [HRR.out], by rw [HRR.out]; exact OwnT.nil _ _, HB4.out⟩
          · have d6 : ((acc.length : Int) == 600) = false := by rw [beq_eq_false_iff_ne]; omega
            rw [if_neg h6] at hre
            have HRe := Lib.hid hre
            have HRg := Lib.hid (rangeL HG4.out)
            clear hre hpos
            go_wp2_with (first
              | (refine append_tok rfl (.tmp 37) (.tmp 39) rfl w.heap.size _ acc rfl t w4.heap.size 1 rfl (by rw [Tk.cells, HTs.out]; exact heap_alloc_new _ _) (HOwn4.out.below ((Below.refl _ _).alloc (Nat.le_refl _) _)) (by omega) (by simp; have := HB4.out.size; omega) ?_)
              | (refine wpList_load_mid rfl 41 (.tmp 8) rfl w2.heap.size 0 rfl _ _ HRg.out Tryz.underlying41 rfl info_tok ?_))
            intro v' w5 hown5 hb5
            have HB5 := Lib.hid ((HB4.out.alloc HB4.out.size _).trans hb5)
            have HOwn5 := Lib.hid hown5
            have HSk := Lib.hid (skip_any w5 (r.drop m) (by rw [List.length_drop]; omega))
            rw [HSd.out] at HSk
            clear hown5 hb5 HRg HG4 HOwn4
            go_wp2_with fail
            refine HSk.out.mono ?_
            rintro e w6 ⟨rfl, hb6⟩
            have R6 : LexRel w l (skipB false (r.drop m)) f' (acc ++ [t]) R v' w6 := ⟨HOwn5.out.below hb6, HB5.out.trans (hb6.mono HB5.out.size), HRe.out, by omega, by omega, by simp; omega⟩
            have HR6 := Lib.hid R6
            have hs6 := size_st (skipB false (r.drop m))
            clear R6 hb6 HSk HOwn5 HB5
            go_wp2_with fail
            go_roundw
            case rel => exact ⟨_, f', acc ++ [t], rfl, HR6.out⟩
            case measure => simp; omega
end Go.Proofs.YtllgodaphoncnaaGreatDoor
