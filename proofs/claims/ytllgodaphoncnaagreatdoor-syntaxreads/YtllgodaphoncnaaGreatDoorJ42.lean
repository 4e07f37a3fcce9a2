/- Bytes of one's own, one more; a text read; A text read. -/
import Derived.Test.YtllgodaphoncnaaGreatDoorJ41
import Derived.Deep.AppendLies
import Derived.Deep.DeepAppendWide
import Derived.Laws.IdiomStrings
import Derived.Lib.AppendStr
namespace Go.Proofs.YtllgodaphoncnaaGreatDoor
open Go.RowKit

/-- a row of one's own of these bytes -/
structure OwnY (w : World) (N : Nat) (v : Value) (l : List UInt8) : Prop where
  row : w.ownsRow N 5 1 v l.length (l.map B)
set_option maxRecDepth 100000 in
theorem OwnY.on {w w' : World} {N : Nat} {v : Value} {l : List UInt8} (h : OwnY w N v l) (hk : ∀ g, N ≤ g → g < w.heap.size → w'.heap[g]? = w.heap[g]?) : OwnY w' N v l := by
  obtain ⟨h1, h2⟩ := h.row
  refine ⟨⟨h1, ?_⟩⟩
  rcases h2 with h2 | ⟨g, cap, cur, e, hb, hg, hc, hm, hsz, ht⟩
  · exact .inl h2
  · exact .inr ⟨g, cap, cur, e, hb, (hk g hb (lt_block hg)).trans hg, hc, hm, hsz, ht⟩
set_option maxRecDepth 100000 in
theorem OwnY.below {w w' : World} {N : Nat} {v : Value} {l : List UInt8} (h : OwnY w N v l) (hb : Below w.heap.size w w') : OwnY w' N v l := h.on fun g _ hg => hb.block g hg
set_option maxRecDepth 100000 in
theorem OwnY.nil (w : World) (N : Nat) : OwnY w N (.slice none 0 0) [] := ⟨by simpa using World.ownsRow_nil _ _ _ _⟩
set_option maxRecDepth 100000 in
theorem OwnY.shape {w : World} {N : Nat} {v : Value} {l : List UInt8} (h : OwnY w N v l) : ∃ ad cp, v = .slice ad l.length cp := by
  rcases h.row.2 with ⟨rfl, hn⟩ | ⟨g, cap, cur, rfl, _⟩
  · exact ⟨none, 0, by rw [hn]⟩
  · exact ⟨_, _, rfl⟩
set_option maxRecDepth 100000 in
/-- its text -/
theorem OwnY.conv {w : World} {N : Nat} {v : Value} {l : List UInt8} (h : OwnY w N v l) : (convert 143 9 v).run Tryz.prog w = .ok (.string (st l)) w := by
  rcases h.row.2 with ⟨rfl, hn⟩ | ⟨g, cap, cur, rfl, hb, hg, hc, hm, hsz, ht⟩
  · obtain rfl := List.eq_nil_of_length_eq_zero hn
    kernel_rfl
  · have := run_convert_bytes_back (P := Tryz.prog) w 143 9 5 ⟨g, 0, none⟩ cap l Tryz.underlying143 Tryz.underlying5 Tryz.underlying9 (fun j hj => by
      rw [Addr.add_mid, Nat.zero_add, cell_block hg]
      have h1 : (l.map B)[j]? = some (B l[j]) := by rw [List.getElem?_map, List.getElem?_eq_getElem hj]; rfl
      rw [← ht, List.getElem?_take, if_pos (by omega)] at h1
      simpa using h1)
    exact this
set_option maxRecDepth 100000 in
/-- one byte more, out of a slice of one that lies in the newest block -/
theorem append_one {ops : Array Oper} {rest : List Oper} {o : Oper} {a : Act} {w : World} {Q : Exit → Act → World → Prop} (hgd : o.guard = none) (s x : Operand)
    (ho : o.op = .call { callee := .builtin .append, args := #[s, x], argTypes := #[143, 143] })
    (N : Nat) (v : Value) (l : List UInt8) (hs : a.eval s = v) (c : UInt8) (g cp : Nat) (hx : a.eval x = .slice (some ⟨g, 0, none⟩) 1 cp) (hg : w.heap[g]? = some (.cells #[.int .u8 (c.toNat : Int)] 5 (0, 0))) (hown : OwnY w N v l) (hlen : l.length ≤ 1000000) (hN : N ≤ w.heap.size)
    (k : ∀ v' w', OwnY w' N v' (l ++ [c]) → Below N w w' → wpList Tryz.prog ops Q rest (a.put o.dst v') w') : wpList Tryz.prog ops Q (o :: rest) a w := by
  obtain ⟨i, hi, hz, hsz, hby⟩ := info_parts (show (Tryz.prog.info? 5).map (fun i => (i.zero, i.size, i.bytes)) = some (some (.int .u8 0), 1, 1) by kernel_rfl)
  refine wpList_append_own_wide w hgd s x 143 ho N 5 i _ 1 1 Tryz.underlying143 hi hz hsz hby rfl (by omega) v l.length (l.map B) hs hown.row ⟨g, 0, none⟩ 1 cp [B c] hx rfl (fun j u hj => by
    rw [Addr.add_mid, Nat.zero_add, cell_block hg]
    simpa using hj) (fun u hu => by obtain rfl := List.mem_singleton.1 hu; rfl) (by unfold maxLen; omega) (by omega) hN ?_
  intro v' w' hown'' hgr _
  exact k v' w' ⟨by rw [List.length_append, List.map_append]; exact hown''⟩ ((Below.refl N w).grown hgr hN (fun b hb => (hown.row.lt b hb).1))
set_option maxRecDepth 100000 in
/-- a text behind -/
theorem append_text {ops : Array Oper} {rest : List Oper} {o : Oper} {a : Act} {w : World} {Q : Exit → Act → World → Prop} (hgd : o.guard = none) (s x : Operand)
    (ho : o.op = .call { callee := .builtin .append, args := #[s, x], argTypes := #[143, 9] })
    (N : Nat) (v : Value) (l : List UInt8) (hs : a.eval s = v) (t : List UInt8) (hx : a.eval x = .string (st t)) (hown : OwnY w N v l) (hlen : l.length + t.length ≤ 1000000) (hN : N ≤ w.heap.size)
    (k : ∀ v' w', OwnY w' N v' (l ++ t) → Below N w w' → wpList Tryz.prog ops Q rest (a.put o.dst v') w') : wpList Tryz.prog ops Q (o :: rest) a w := by
  obtain ⟨i, hi, hz, hsz, hby⟩ := info_parts (show (Tryz.prog.info? 5).map (fun i => (i.zero, i.size, i.bytes)) = some (some (.int .u8 0), 1, 1) by kernel_rfl)
  have hsz' := size_st t
  refine Lib.wpList_append_own_string w hgd s x 143 9 ho N 5 i Tryz.underlying143 Tryz.underlying9 hi hz hsz hby v l.length (l.map B) hs hown.row (st t) hx (by unfold maxLen; omega) (by omega) hN ?_
  intro v' w' hown'' hgr _
  refine k v' w' ⟨?_⟩ ((Below.refl N w).grown hgr hN (fun b hb => (hown.row.lt b hb).1))
  have e1 : (l ++ t).length = l.length + (st t).size := by rw [hsz']; simp
  have e2 : (l ++ t).map B = l.map B ++ Lib.strCells (st t) := by simp [Lib.strCells, st]
  rw [e1, e2]; exact hown''
set_option maxRecDepth 100000 in
theorem inM_nil : inM [] = none := by rw [inM]
set_option maxRecDepth 100000 in
theorem inM_quote (c : UInt8) (l : List UInt8) (h : c.toNat = 34) : inM (c :: l) = some ([], 1) := by rw [inM.eq_def]; simp [h]
set_option maxRecDepth 100000 in
theorem inM_end (c : UInt8) (h : c.toNat = 92) : inM [c] = none := by rw [inM.eq_def]; simp [h]
set_option maxRecDepth 100000 in
theorem inM_esc (c d : UInt8) (l : List UInt8) (h : c.toNat = 92) : inM (c :: d :: l) = if mrkB d then (inM l).map fun x => (d :: x.1, x.2 + 2) else none := by rw [inM.eq_def]; simp [h]
set_option maxRecDepth 100000 in
theorem inM_plain (c : UInt8) (l : List UInt8) (h : c.toNat ≠ 34) (h2 : c.toNat ≠ 92) : inM (c :: l) = (inM l).map fun x => (c :: x.1, x.2 + 1) := by rw [inM.eq_def]; simp [h, h2]
structure TxtRel (w : World) (l : List UInt8) (k : Nat) (x : List UInt8) (v : Value) (wr : World) : Prop where
  own : OwnY wr (w.heap.size + 1) v x
  blk : wr.heap[w.heap.size]? = some (.cells #[.int .i64 0, .string (st []), .int .i64 0] 41 (0, 0))
  below : Below w.heap.size w wr
  len : x.length ≤ k
  eq : (inM (l.drop k)).map (fun y => (x ++ y.1, k - 1 + y.2)) = inM (l.drop 1)
end Go.Proofs.YtllgodaphoncnaaGreatDoor
namespace Go.Proofs.YtllgodaphoncnaaGreatDoor
open Go.RowKit

set_option maxRecDepth 100000 in
set_option maxHeartbeats 4000000 in
theorem readText_any (w : World) (l : List UInt8) (h1 : 1 ≤ l.length) (hl : l.length ≤ 1000000) :
    Calls Tryz.prog 76 #[.string (st l)] w fun e w' => e = .returned (.tuple #[(textM1 l).1.val, .int .i64 ((textM1 l).2 : Int)]) ∧ Below w.heap.size w w' := by
  have hsz := size_st l
  have hix : ∀ (w : World) (k : Nat) (c : UInt8), l[k]? = some c → (Instr.index 9 (.string (st l)) (.int .i64 (k : Int))).run Tryz.prog w = .ok (.int .u8 (c.toNat : Int)) w := fun w k c h => run_index_st w l k c h
  have HTs : Hid (∀ x n, inM (l.drop 1) = some (x, n) → textM1 l = (⟨3, x, 0⟩, n + 1)) := Lib.hid fun x n h => by unfold textM1; rw [h]
  have HTn : Hid (inM (l.drop 1) = none → textM1 l = (noTk, 0)) := Lib.hid fun h => by unfold textM1; rw [h]
  obtain ⟨T, hT⟩ : ∃ T, textM1 l = T := ⟨_, rfl⟩
  rw [hT] at HTs HTn ⊢
  obtain ⟨s, hs⟩ : ∃ s, st l = s := ⟨_, rfl⟩
  rw [hs] at hsz hix ⊢
  have HI := Lib.hid hix
  clear hT hs hix
  unfold Tk.val Tk.cells
  go_enter Tryz.func76, Tryz.ntmps76
  go_wp2_with fail
  generalize hW : World.alloc _ _ = W0 at *
  have R0 : TxtRel w l 1 [] (.slice none 0 0) W0 := ⟨OwnY.nil _ _, by rw [← hW]; exact heap_alloc_new _ _, by rw [← hW]; exact (Below.refl _ _).alloc (Nat.le_refl _) _, by simp, by cases inM (l.drop 1) <;> simp⟩
  clear hW
  go_loopw [4, 5] (fun v i wr => ∃ (k : Nat) (x : List UInt8), 1 ≤ k ∧ k ≤ l.length ∧ i = .int .i64 (k : Int) ∧ TxtRel w l k x v wr) (fun _ i _ => l.length - (intOf i).toNat)
  case atStart => exact ⟨1, [], by omega, by omega, rfl, R0⟩
  case round =>
    clear R0
    obtain ⟨k, x, hk1, hk, rfl, hr⟩ := hrel
    have HR := Lib.hid hr
    have HG := Lib.hid hr.blk
    have HB := Lib.hid hr.below
    have hxk := hr.len
    have hlt1 := lt_block hr.blk
    have hN1 : w.heap.size + 1 ≤ wr.heap.size := by omega
    clear hr
    by_cases hlt : k < l.length
    · have hd : decide ((k : Int) < (l.length : Int)) = true := by simp; omega
      have hget : l[k]? = some l[k] := List.getElem?_eq_getElem hlt
      have hdr : l.drop k = l[k] :: l.drop (k + 1) := List.drop_eq_getElem_cons hlt
      have hix := fun w => HI.out w k _ hget
      have HEq := HR.out.eq
      rw [hdr] at HEq
      generalize l[k] = c at *
      have d34 := deqi c.toNat 34
      have d92 := deqi c.toNat 92
      clear hget hdr
      by_cases h34 : c.toNat = 34
      · rw [decide_eq_true h34] at d34
        have d34 : ((c.toNat : Int) == 34) = true := d34
        have HE : Hid (inM (l.drop 1) = some (x, k)) := Lib.hid (by
          rw [← HEq, inM_quote _ _ h34]
          simp; omega)
        have hcv := HR.out.own.conv
        clear HEq d92 h34
        go_wp2_with (refine store_tok rfl (.tmp 2) (.tmp 18) rfl rfl w.heap.size rfl 3 (st x) 0 rfl HG.out ?_)
        intro w3 hg3 hk3
        have HG3 := Lib.hid hg3
        have HB3 := Lib.hid (Kept1.mono HB.out hk3 (Nat.le_refl _))
        clear hg3 hk3
        go_wp2_with fail
        exact bodyPost_ret (results_cell_slot Tryz.results76 _ _ (w.heap.size) 41 #[.int .i64 3, .string (st x), .int .i64 0] (0, 0) _ rfl (HG3.out) Tryz.underlying41 rfl info_tok (.int .i64 ((k : Int) + 1)) rfl) rfl ⟨by rw [HTs.out _ _ HE.out]; rfl, HB3.out⟩
      · rw [decide_eq_false h34] at d34
        have d34 : ((c.toNat : Int) == 34) = false := d34
        by_cases h92 : c.toNat = 92
        · rw [decide_eq_true h92] at d92
          have d92 : ((c.toNat : Int) == 92) = true := d92
          by_cases hlt2 : k + 1 < l.length
          · have hd2 : ((k : Int) + 1 == (l.length : Int)) = false := by simp; omega
            have hget : l[k + 1]? = some l[k + 1] := List.getElem?_eq_getElem hlt2
            have hdr : l.drop (k + 1) = l[k + 1] :: l.drop (k + 1 + 1) := List.drop_eq_getElem_cons hlt2
            have hix2 : ∀ w, (Instr.index 9 (.string s) (.int .i64 ((k : Int) + 1))).run Tryz.prog w = .ok (.int .u8 (l[k + 1].toNat : Int)) w := fun w => HI.out w (k + 1) _ hget
            rw [hdr, inM_esc _ _ _ h92] at HEq
            generalize l[k + 1] = d at *
            have HM := Lib.hid (isMarked_any wr d)
            obtain ⟨b, hb⟩ : ∃ b, mrkB d = b := ⟨_, rfl⟩
            rw [hb] at HM HEq
            have HEq := Lib.hid HEq
            clear hget hdr hb h34 h92
            go_wp2_with fail
            refine HM.out.mono ?_
            rintro e w' ⟨rfl, rfl⟩
            cases b with
            | true =>
              go_wp2_with (at_builtin; refine append_one rfl (.tmp 39) (.tmp 43) rfl (w.heap.size + 1) _ x rfl d wr.heap.size 1 rfl (heap_alloc_new _ _) (HR.out.own.below ((Below.refl _ _).alloc (Nat.le_refl _) _)) (by omega) (by simp; omega) ?_)
              intro v' w2 hown hb2
              have hlt0 : w.heap.size < wr.heap.size := hlt1
              have R2 : TxtRel w l (k + 2) (x ++ [d]) v' w2 := ⟨hown, (hb2.block w.heap.size (by omega)).trans ((Below.heap_alloc _ _ _ hlt0).trans HG.out), (HB.out.alloc (by omega) _).trans (hb2.mono (by omega)), by simp; omega, by
                rw [← HEq.out]
                simp only [if_true]
                rw [Option.map_map]
                congr 1
                funext y
                simp; omega⟩
              have HR2 := Lib.hid R2
              clear R2 hown hb2 HEq
              go_wp2_with fail
              go_roundw
              case rel => exact ⟨k + 2, _, by omega, by omega, by go_num, HR2.out⟩
              case measure => simp [intOf]; omega
            | false =>
              have HE : Hid (inM (l.drop 1) = none) := Lib.hid (by rw [← HEq.out]; rfl)
              go_wp2_with (refine store_tok rfl (.tmp 2) (.tmp 38) rfl rfl w.heap.size rfl 0 (st []) 0 rfl HG.out ?_)
              intro w3 hg3 hk3
              have HG3 := Lib.hid hg3
              have HB3 := Lib.hid (Kept1.mono HB.out hk3 (Nat.le_refl _))
              clear hg3 hk3
              go_wp2_with fail
              exact bodyPost_ret (results_cell_slot Tryz.results76 _ _ (w.heap.size) 41 #[.int .i64 0, .string (st []), .int .i64 0] (0, 0) _ rfl (HG3.out) Tryz.underlying41 rfl info_tok (.int .i64 0) rfl) rfl ⟨by rw [HTn.out HE.out]; rfl, HB3.out⟩
          · have hd2 : ((k : Int) + 1 == (l.length : Int)) = true := by simp; omega
            have hnil : l.drop (k + 1) = [] := List.drop_eq_nil_of_le (by omega)
            rw [hnil, inM_end _ h92] at HEq
            have HE : Hid (inM (l.drop 1) = none) := Lib.hid (by rw [← HEq]; rfl)
            clear HEq hnil h34 h92
            go_wp2_with (refine store_tok rfl (.tmp 2) (.tmp 38) rfl rfl w.heap.size rfl 0 (st []) 0 rfl HG.out ?_)
            intro w3 hg3 hk3
            have HG3 := Lib.hid hg3
            have HB3 := Lib.hid (Kept1.mono HB.out hk3 (Nat.le_refl _))
            clear hg3 hk3
            go_wp2_with fail
            exact bodyPost_ret (results_cell_slot Tryz.results76 _ _ (w.heap.size) 41 #[.int .i64 0, .string (st []), .int .i64 0] (0, 0) _ rfl (HG3.out) Tryz.underlying41 rfl info_tok (.int .i64 0) rfl) rfl ⟨by rw [HTn.out HE.out]; rfl, HB3.out⟩
        · rw [decide_eq_false h92] at d92
          have d92 : ((c.toNat : Int) == 92) = false := d92
          rw [inM_plain _ _ h34 h92] at HEq
          have HEq := Lib.hid HEq
          clear h34 h92
          go_wp2_with (at_builtin; refine append_one rfl (.tmp 39) (.tmp 43) rfl (w.heap.size + 1) _ x rfl c wr.heap.size 1 rfl (heap_alloc_new _ _) (HR.out.own.below ((Below.refl _ _).alloc (Nat.le_refl _) _)) (by omega) (by simp; omega) ?_)
          intro v' w2 hown hb2
          have hlt0 : w.heap.size < wr.heap.size := hlt1
          have R2 : TxtRel w l (k + 1) (x ++ [c]) v' w2 := ⟨hown, (hb2.block w.heap.size (by omega)).trans ((Below.heap_alloc _ _ _ hlt0).trans HG.out), (HB.out.alloc (by omega) _).trans (hb2.mono (by omega)), by simp; omega, by
            rw [← HEq.out]
            rw [Option.map_map]
            congr 1
            funext y
            simp; omega⟩
          have HR2 := Lib.hid R2
          clear R2 hown hb2 HEq
          go_wp2_with fail
          go_roundw
          case rel => exact ⟨k + 1, _, by omega, by omega, by go_num, HR2.out⟩
          case measure => simp [intOf]; omega
    · have hd : decide ((k : Int) < (l.length : Int)) = false := by simp; omega
      have HE : Hid (inM (l.drop 1) = none) := Lib.hid (by
        rw [← HR.out.eq, List.drop_eq_nil_of_le (by omega), inM_nil]; rfl)
      go_wp2_with (refine store_tok rfl (.tmp 2) (.tmp 45) rfl rfl w.heap.size rfl 0 (st []) 0 rfl HG.out ?_)
      intro w3 hg3 hk3
      have HG3 := Lib.hid hg3
      have HB3 := Lib.hid (Kept1.mono HB.out hk3 (Nat.le_refl _))
      clear hg3 hk3
      go_wp2_with fail
      exact bodyPost_ret (results_cell_slot Tryz.results76 _ _ (w.heap.size) 41 #[.int .i64 0, .string (st []), .int .i64 0] (0, 0) _ rfl (HG3.out) Tryz.underlying41 rfl info_tok (.int .i64 0) rfl) rfl ⟨by rw [HTn.out HE.out]; rfl, HB3.out⟩
end Go.Proofs.YtllgodaphoncnaaGreatDoor
