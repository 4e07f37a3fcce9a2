/- Tokens read off the beginning of a text; Bytes of one's own, one more; a text read. -/
import Derived.Test.YtllgodaphoncnaaGreatDoorJ33
import Derived.Test.YtllgodaphoncnaaGreatDoorJ21
import Derived.Deep.MidRow
import Derived.Lib.ItoaMem
import Derived.Deep.AppendLies
import Derived.Deep.DeepAppendWide
import Derived.Laws.IdiomStrings
import Derived.Lib.AppendStr
namespace Go.Proofs.YtllgodaphoncnaaGreatDoor
open Go.RowKit

set_option maxRecDepth 100000 in
theorem results_cell_slot {P : Program} {fn : Func} {p q : Tmp} {ty : TypeId} (h : fn.results = #[.cell p ty, .tmp q]) (tmps : Array Value) (w : World) (g : Nat) (t : TypeId) (cs : Array Value) (fr : Nat × Nat) (d : TypeDesc)
    (hp : tmps.getD p undef = .pointer (some ⟨g, 0, none⟩)) (hg : w.heap[g]? = some (.cells cs t fr))
    (hu : P.underlying ty = some d) (hd : (match d with | .struct _ | .array _ _ => true | _ => false) = true) (hi : (P.info? ty).map (·.size) = some cs.size) (v : Value) (hv : tmps.getD q undef = v) :
    (results fn tmps).run P w = .ok (.tuple #[.agg cs, v]) w := by
  have hp' : tmps[p]?.getD undef = .pointer (some ⟨g, 0, none⟩) := by simpa using hp
  have hv' : tmps[q]?.getD undef = v := by simpa using hv
  simp [results, h, hp', hv', asAddr, run_loadVar_row w g t ty cs fr d hg hu hd hi]
set_option maxRecDepth 100000 in
theorem store_tok {ops : Array Oper} {rest : List Oper} {op : Oper} {a : Act} {w : World} {Q : Exit → Act → World → Prop} (hgd : op.guard = none) (x y : Operand) (ho : op.op = .store 41 x y) (hdst : op.dst = none)
    (g : Nat) (hx : a.eval x = .pointer (some ⟨g, 0, none⟩)) (k : Int) (s : ByteArray) (n : Int) (hy : a.eval y = .agg #[.int .i64 k, .string s, .int .i64 n])
    {c0 c1 c2 : Value} (hg : w.heap[g]? = some (.cells #[c0, c1, c2] 41 (0, 0)))
    (h : ∀ w', w'.heap[g]? = some (.cells #[.int .i64 k, .string s, .int .i64 n] 41 (0, 0)) → Kept1 g w w' → wpList Tryz.prog ops Q rest a w') : wpList Tryz.prog ops Q (op :: rest) a w := by
  have hg' : w.heap[g]? = some (.cells [c0, c1, c2].toArray 41 (0, 0)) := hg
  refine wpList_store_mid hgd 41 x y ho g 0 #[.int .i64 k, .string s, .int .i64 n] hx hy (fun j hj => ⟨?_, ?_⟩) (by kernel_rfl) (by simp [Value.oneCell']) ?_
  · rw [cell_block hg']
    have hj' : j < 3 := hj
    simp; omega
  · simp [World.frozen?, hg]
  · rw [hdst]
    refine h _ ?_ (Kept1.setCells g (.inl rfl) _ _ (Kept1.refl _ _))
    have h1 := heap_setCells g 41 [.int .i64 k, .string s, .int .i64 n] 0 _ _ hg' (by simp)
    have e : over [c0, c1, c2] 0 [.int .i64 k, .string s, .int .i64 n] = [.int .i64 k, .string s, .int .i64 n] := by simp [over]
    rw [e] at h1
    exact h1
set_option maxRecDepth 100000 in
theorem info_tok : (Tryz.prog.info? 41).map (·.size) = some 3 := by kernel_rfl
set_option maxRecDepth 100000 in
set_option maxHeartbeats 1000000 in
theorem readSign_any (w : World) (hw : LexW w) (l : List UInt8) :
    Calls Tryz.prog 78 #[.string (st l)] w fun e w' => e = .returned (.tuple #[(signM l).1.val, .int .i64 ((signM l).2 : Int)]) ∧ Below w.heap.size w w' := by
  have hb : ∀ o, Below w.heap.size w (w.alloc o) := fun o => (Below.refl _ _).alloc (Nat.le_refl _) _
  have HF := Lib.hid (fun o => firstSign_any (w.alloc o) (hw.below (hb o)) l)
  have hsz := size_st (fsign l)
  unfold signM Tk.val Tk.cells
  dsimp only
  obtain ⟨s, hs⟩ : ∃ s, st l = s := ⟨_, rfl⟩
  rw [hs] at HF ⊢
  obtain ⟨r, hr⟩ : ∃ r, st (fsign l) = r := ⟨_, rfl⟩
  rw [hr] at HF hsz ⊢
  obtain ⟨n, hn⟩ : ∃ n, (fsign l).length = n := ⟨_, rfl⟩
  rw [hn] at hsz ⊢
  clear hs hr hn hb hw
  go_enter Tryz.func78, Tryz.ntmps78
  go_wp2_with fail
  refine (HF.out _).mono ?_
  rintro e w' ⟨rfl, rfl⟩
  go_wp2_with fail
  exact bodyPost_ret (results_cell_slot Tryz.results78 _ _ (w.heap.size) 41 #[.int .i64 5, .string r, .int .i64 0] (0, 0) _ rfl (heap_alloc_new _ _) Tryz.underlying41 rfl info_tok (.int .i64 (n : Int)) rfl) rfl ⟨rfl, (Below.refl _ _).alloc (Nat.le_refl _) _⟩
set_option maxRecDepth 100000 in
set_option maxHeartbeats 1000000 in
theorem readWord_any (w : World) (l : List UInt8) (hl : l.length ≤ 1000000) :
    Calls Tryz.prog 73 #[.string (st l)] w fun e w' => e = .returned (.tuple #[(wordM l).1.val, .int .i64 ((wordM l).2 : Int)]) ∧ Below w.heap.size w w' := by
  have hb : ∀ o, Below w.heap.size w (w.alloc o) := fun o => (Below.refl _ _).alloc (Nat.le_refl _) _
  have HR := Lib.hid (fun o => runW_any (w.alloc o) l hl)
  have hle := runN_le innB l
  have hsl : ∀ w, _ := fun w => run_slice_hi w l (runN innB l) hle
  have hsz := size_st l
  unfold wordM Tk.val Tk.cells
  dsimp only
  obtain ⟨k, hk⟩ : ∃ k, runN innB l = k := ⟨_, rfl⟩
  rw [hk] at HR hle hsl ⊢
  have HC := Lib.hid (fun o => clone_st (w.alloc o) (l.take k) (by rw [List.length_take]; omega))
  obtain ⟨s, hs⟩ : ∃ s, st l = s := ⟨_, rfl⟩
  rw [hs] at HR hsl hsz ⊢
  obtain ⟨r, hr⟩ : ∃ r, st (l.take k) = r := ⟨_, rfl⟩
  rw [hr] at HC hsl ⊢
  have HB := Lib.hid hb
  clear hs hr hk hb
  go_enter Tryz.func73, Tryz.ntmps73
  go_wp2_with fail
  refine (HR.out _).mono ?_
  rintro e w' ⟨rfl, rfl⟩
  go_wp2_with fail
  refine (HC.out _).mono ?_
  rintro e w2 ⟨rfl, hb2⟩
  have HB2 := Lib.hid ((HB.out _).trans (hb2.mono (by simp)))
  have HG2 := Lib.hid ((hb2.block w.heap.size (by simp)).trans (heap_alloc_new w _))
  clear hb2
  clear HC HR
  go_wp2_with (refine store_tok rfl (.tmp 2) (.tmp 11) rfl rfl w.heap.size rfl 1 r 0 rfl HG2.out ?_)
  intro w3 hg3 hk3
  have HG3 := Lib.hid hg3
  have HB3 := Lib.hid (Kept1.mono HB2.out hk3 (Nat.le_refl _))
  clear hg3 hk3
  go_wp2_with fail
  exact bodyPost_ret (results_cell_slot Tryz.results73 _ _ (w.heap.size) 41 #[.int .i64 1, .string r, .int .i64 0] (0, 0) _ rfl (HG3.out) Tryz.underlying41 rfl info_tok (.int .i64 (k : Int)) rfl) rfl ⟨rfl, HB3.out⟩
set_option maxRecDepth 100000 in
set_option maxHeartbeats 1000000 in
theorem readNumber_any (w : World) (hw : LexW w) (l : List UInt8) (hl : l.length ≤ 1000000) :
    Calls Tryz.prog 75 #[.string (st l)] w fun e w' => e = .returned (.tuple #[(numM1 l).1.val, .int .i64 ((numM1 l).2 : Int)]) ∧ Below w.heap.size w w' := by
  have hb : ∀ o, Below w.heap.size w (w.alloc o) := fun o => (Below.refl _ _).alloc (Nat.le_refl _) _
  have HD := Lib.hid (fun o => digits_any (w.alloc o) (hw.below (hb o)) l (by omega))
  unfold numM1
  obtain ⟨⟨v, k⟩, hD⟩ : ∃ D, digM l = D := ⟨_, rfl⟩
  rw [hD] at HD ⊢
  dsimp only at HD ⊢
  clear hD
  obtain ⟨s, hs⟩ : ∃ s, st l = s := ⟨_, rfl⟩
  rw [hs] at HD ⊢
  have HB := Lib.hid hb
  clear hs hb hw
  by_cases h0 : k = 0
  · subst h0
    rw [if_pos rfl]
    unfold noTk Tk.val Tk.cells
    dsimp only
    go_enter Tryz.func75, Tryz.ntmps75
    go_wp2_with fail
    refine (HD.out _).mono ?_
    rintro e w2 ⟨rfl, hb2⟩
    have HB2 := Lib.hid ((HB.out _).trans (hb2.mono (by simp)))
    have HG2 := Lib.hid ((hb2.block w.heap.size (by simp)).trans (heap_alloc_new w _))
    clear hb2
    clear HD
    go_wp2_with (refine store_tok rfl (.tmp 2) (.tmp 13) rfl rfl w.heap.size rfl 0 (st []) 0 rfl HG2.out ?_)
    intro w3 hg3 hk3
    have HG3 := Lib.hid hg3
    have HB3 := Lib.hid (Kept1.mono HB2.out hk3 (Nat.le_refl _))
    clear hg3 hk3
    go_wp2_with fail
    exact bodyPost_ret (results_cell_slot Tryz.results75 _ _ (w.heap.size) 41 #[.int .i64 0, .string (st []), .int .i64 0] (0, 0) _ rfl (HG3.out) Tryz.underlying41 rfl info_tok (.int .i64 0) rfl) rfl ⟨rfl, HB3.out⟩
  · have hk0 : ((k : Int) == 0) = false := by simp; omega
    rw [if_neg h0]
    unfold Tk.val Tk.cells
    dsimp only
    clear h0
    go_enter Tryz.func75, Tryz.ntmps75
    go_wp2_with fail
    refine (HD.out _).mono ?_
    rintro e w2 ⟨rfl, hb2⟩
    have HB2 := Lib.hid ((HB.out _).trans (hb2.mono (by simp)))
    have HG2 := Lib.hid ((hb2.block w.heap.size (by simp)).trans (heap_alloc_new w _))
    clear hb2
    clear HD
    go_wp2_with (refine store_tok rfl (.tmp 2) (.tmp 15) rfl rfl w.heap.size rfl 2 (st []) v rfl HG2.out ?_)
    intro w3 hg3 hk3
    have HG3 := Lib.hid hg3
    have HB3 := Lib.hid (Kept1.mono HB2.out hk3 (Nat.le_refl _))
    clear hg3 hk3
    go_wp2_with fail
    exact bodyPost_ret (results_cell_slot Tryz.results75 _ _ (w.heap.size) 41 #[.int .i64 2, .string (st []), .int .i64 v] (0, 0) _ rfl (HG3.out) Tryz.underlying41 rfl info_tok (.int .i64 ((k : Int))) rfl) rfl ⟨rfl, HB3.out⟩
set_option maxRecDepth 100000 in
set_option maxHeartbeats 1000000 in
theorem readTime_any (w : World) (hw : LexW w) (l : List UInt8) (hl : l.length ≤ 1000000) (h1 : 1 ≤ l.length) (hk : (digM (l.drop 1)).2 ≤ 1000000) :
    Calls Tryz.prog 77 #[.string (st l)] w fun e w' => e = .returned (.tuple #[(timeM l).1.val, .int .i64 ((timeM l).2 : Int)]) ∧ Below w.heap.size w w' := by
  have hb : ∀ o, Below w.heap.size w (w.alloc o) := fun o => (Below.refl _ _).alloc (Nat.le_refl _) _
  have HD := Lib.hid (fun o => digits_any (w.alloc o) (hw.below (hb o)) (l.drop 1) (by rw [List.length_drop]; omega))
  unfold timeM
  obtain ⟨⟨v, k⟩, hD⟩ : ∃ D, digM (l.drop 1) = D := ⟨_, rfl⟩
  rw [hD] at HD hk ⊢
  dsimp only at HD hk ⊢
  clear hD
  have hsl := fun w => run_slice_lo w l 1 h1
  obtain ⟨s, hs⟩ : ∃ s, st l = s := ⟨_, rfl⟩
  rw [hs] at hsl ⊢
  obtain ⟨r, hr⟩ : ∃ r, st (l.drop 1) = r := ⟨_, rfl⟩
  rw [hr] at HD hsl
  have hsl : ∀ w, (Instr.sliceAt 9 (.string s) (some (.int .i64 1)) none none).run Tryz.prog w = .ok (.string r) w := hsl
  clear hr
  have HB := Lib.hid hb
  clear hs hb hw
  by_cases h0 : k = 0
  · subst h0
    rw [if_pos rfl]
    unfold noTk Tk.val Tk.cells
    dsimp only
    go_enter Tryz.func77, Tryz.ntmps77
    go_wp2_with fail
    refine (HD.out _).mono ?_
    rintro e w2 ⟨rfl, hb2⟩
    have HB2 := Lib.hid ((HB.out _).trans (hb2.mono (by simp)))
    have HG2 := Lib.hid ((hb2.block w.heap.size (by simp)).trans (heap_alloc_new w _))
    clear hb2
    clear HD
    go_wp2_with (refine store_tok rfl (.tmp 2) (.tmp 14) rfl rfl w.heap.size rfl 0 (st []) 0 rfl HG2.out ?_)
    intro w3 hg3 hk3
    have HG3 := Lib.hid hg3
    have HB3 := Lib.hid (Kept1.mono HB2.out hk3 (Nat.le_refl _))
    clear hg3 hk3
    go_wp2_with fail
    exact bodyPost_ret (results_cell_slot Tryz.results77 _ _ (w.heap.size) 41 #[.int .i64 0, .string (st []), .int .i64 0] (0, 0) _ rfl (HG3.out) Tryz.underlying41 rfl info_tok (.int .i64 0) rfl) rfl ⟨rfl, HB3.out⟩
  · have hk0 : ((k : Int) == 0) = false := by simp; omega
    rw [if_neg h0]
    unfold Tk.val Tk.cells
    dsimp only
    clear h0
    go_enter Tryz.func77, Tryz.ntmps77
    go_wp2_with fail
    refine (HD.out _).mono ?_
    rintro e w2 ⟨rfl, hb2⟩
    have HB2 := Lib.hid ((HB.out _).trans (hb2.mono (by simp)))
    have HG2 := Lib.hid ((hb2.block w.heap.size (by simp)).trans (heap_alloc_new w _))
    clear hb2
    clear HD
    go_wp2_with (refine store_tok rfl (.tmp 2) (.tmp 16) rfl rfl w.heap.size rfl 4 (st []) v rfl HG2.out ?_)
    intro w3 hg3 hk3
    have HG3 := Lib.hid hg3
    have HB3 := Lib.hid (Kept1.mono HB2.out hk3 (Nat.le_refl _))
    clear hg3 hk3
    go_wp2_with fail
    exact bodyPost_ret (results_cell_slot Tryz.results77 _ _ (w.heap.size) 41 #[.int .i64 4, .string (st []), .int .i64 v] (0, 0) _ rfl (HG3.out) Tryz.underlying41 rfl info_tok (.int .i64 (1 + (k : Int))) rfl) rfl ⟨rfl, HB3.out⟩
end Go.Proofs.YtllgodaphoncnaaGreatDoor
namespace Go.Proofs.YtllgodaphoncnaaGreatDoor
open Go.RowKit

/-- a row of one's own of these bytes -/
structure OwnY (w : World) (N : Nat) (v : Value) (l : List UInt8) : Prop where
  row : w.ownsRow N 5 1 v l.length (l.map B)
set_option maxRecDepth 100000 in
theorem OwnY.on {w w' : World} {N : Nat} {v : Value} {l : List UInt8} (h : OwnY w N v l) (hk : ∀ g, N ≤ g → g < w.heap.size → w'.heap[g]? = w.heap[g]?) : OwnY w' N v l := by
  obtain ⟨h1, h2⟩ := h.row
  refine ⟨⟨h1, ?_⟩⟩
  rcases h2 with h2 | ⟨g, cap, cur, e, hb, hg, hc, hm, hsz, ht⟩
  · exact .inl h2
  · exact .inr ⟨g, cap, cur, e, hb, (hk g hb (lt_block hg)).trans hg, hc, hm, hsz, ht⟩
set_option maxRecDepth 100000 in
theorem OwnY.below {w w' : World} {N : Nat} {v : Value} {l : List UInt8} (h : OwnY w N v l) (hb : Below w.heap.size w w') : OwnY w' N v l := h.on fun g _ hg => hb.block g hg
set_option maxRecDepth 100000 in
theorem OwnY.nil (w : World) (N : Nat) : OwnY w N (.slice none 0 0) [] := ⟨by simpa using World.ownsRow_nil _ _ _ _⟩
set_option maxRecDepth 100000 in
theorem OwnY.shape {w : World} {N : Nat} {v : Value} {l : List UInt8} (h : OwnY w N v l) : ∃ ad cp, v = .slice ad l.length cp := by
  rcases h.row.2 with ⟨rfl, hn⟩ | ⟨g, cap, cur, rfl, _⟩
  · exact ⟨none, 0, by rw [hn]⟩
  · exact ⟨_, _, rfl⟩
set_option maxRecDepth 100000 in
/-- its text -/
theorem OwnY.conv {w : World} {N : Nat} {v : Value} {l : List UInt8} (h : OwnY w N v l) : (convert 143 9 v).run Tryz.prog w = .ok (.string (st l)) w := by
  rcases h.row.2 with ⟨rfl, hn⟩ | ⟨g, cap, cur, rfl, hb, hg, hc, hm, hsz, ht⟩
  · obtain rfl := List.eq_nil_of_length_eq_zero hn
    kernel_rfl
  · have := run_convert_bytes_back (P := Tryz.prog) w 143 9 5 ⟨g, 0, none⟩ cap l Tryz.underlying143 Tryz.underlying5 Tryz.underlying9 (fun j hj => by
      rw [Addr.add_mid, Nat.zero_add, cell_block hg]
      have h1 : (l.map B)[j]? = some (B l[j]) := by rw [List.getElem?_map, List.getElem?_eq_getElem hj]; rfl
      rw [← ht, List.getElem?_take, if_pos (by omega)] at h1
      simpa using h1)
    exact this
set_option maxRecDepth 100000 in
/-- one byte more, out of a slice of one that lies in the newest block -/
theorem append_one {ops : Array Oper} {rest : List Oper} {o : Oper} {a : Act} {w : World} {Q : Exit → Act → World → Prop} (hgd : o.guard = none) (s x : Operand)
    (ho : o.op = .call { callee := .builtin .append, args := #[s, x], argTypes := #[143, 143] })
    (N : Nat) (v : Value) (l : List UInt8) (hs : a.eval s = v) (c : UInt8) (g cp : Nat) (hx : a.eval x = .slice (some ⟨g, 0, none⟩) 1 cp) (hg : w.heap[g]? = some (.cells #[.int .u8 (c.toNat : Int)] 5 (0, 0))) (hown : OwnY w N v l) (hlen : l.length ≤ 1000000) (hN : N ≤ w.heap.size)
    (k : ∀ v' w', OwnY w' N v' (l ++ [c]) → Below N w w' → wpList Tryz.prog ops Q rest (a.put o.dst v') w') : wpList Tryz.prog ops Q (o :: rest) a w := by
  obtain ⟨i, hi, hz, hsz, hby⟩ := info_parts (show (Tryz.prog.info? 5).map (fun i => (i.zero, i.size, i.bytes)) = some (some (.int .u8 0), 1, 1) by kernel_rfl)
  refine wpList_append_own_wide w hgd s x 143 ho N 5 i _ 1 1 Tryz.underlying143 hi hz hsz hby rfl (by omega) v l.length (l.map B) hs hown.row ⟨g, 0, none⟩ 1 cp [B c] hx rfl (fun j u hj => by
    rw [Addr.add_mid, Nat.zero_add, cell_block hg]
    simpa using hj) (fun u hu => by obtain rfl := List.mem_singleton.1 hu; rfl) (by unfold maxLen; omega) (by omega) hN ?_
  intro v' w' hown'' hgr _
  exact k v' w' ⟨by rw [List.length_append, List.map_append]; exact hown''⟩ ((Below.refl N w).grown hgr hN (fun b hb => (hown.row.lt b hb).1))
set_option maxRecDepth 100000 in
/-- a text behind -/
theorem append_text {ops : Array Oper} {rest : List Oper} {o : Oper} {a : Act} {w : World} {Q : Exit → Act → World → Prop} (hgd : o.guard = none) (s x : Operand)
    (ho : o.op = .call { callee := .builtin .append, args := #[s, x], argTypes := #[143, 9] })
    (N : Nat) (v : Value) (l : List UInt8) (hs : a.eval s = v) (t : List UInt8) (hx : a.eval x = .string (st t)) (hown : OwnY w N v l) (hlen : l.length + t.length ≤ 1000000) (hN : N ≤ w.heap.size)
    (k : ∀ v' w', OwnY w' N v' (l ++ t) → Below N w w' → wpList Tryz.prog ops Q rest (a.put o.dst v') w') : wpList Tryz.prog ops Q (o :: rest) a w := by
  obtain ⟨i, hi, hz, hsz, hby⟩ := info_parts (show (Tryz.prog.info? 5).map (fun i => (i.zero, i.size, i.bytes)) = some (some (.int .u8 0), 1, 1) by kernel_rfl)
  have hsz' := size_st t
  refine Lib.wpList_append_own_string w hgd s x 143 9 ho N 5 i Tryz.underlying143 Tryz.underlying9 hi hz hsz hby v l.length (l.map B) hs hown.row (st t) hx (by unfold maxLen; omega) (by omega) hN ?_
  intro v' w' hown'' hgr _
  refine k v' w' ⟨?_⟩ ((Below.refl N w).grown hgr hN (fun b hb => (hown.row.lt b hb).1))
  have e1 : (l ++ t).length = l.length + (st t).size := by rw [hsz']; simp
  have e2 : (l ++ t).map B = l.map B ++ Lib.strCells (st t) := by simp [Lib.strCells, st]
  rw [e1, e2]; exact hown''
set_option maxRecDepth 100000 in
theorem inM_nil : inM [] = none := by rw [inM]
set_option maxRecDepth 100000 in
theorem inM_quote (c : UInt8) (l : List UInt8) (h : c.toNat = 34) : inM (c :: l) = some ([], 1) := by rw [inM.eq_def]; simp [h]
set_option maxRecDepth 100000 in
theorem inM_end (c : UInt8) (h : c.toNat = 92) : inM [c] = none := by rw [inM.eq_def]; simp [h]
set_option maxRecDepth 100000 in
theorem inM_esc (c d : UInt8) (l : List UInt8) (h : c.toNat = 92) : inM (c :: d :: l) = if mrkB d then (inM l).map fun x => (d :: x.1, x.2 + 2) else none := by rw [inM.eq_def]; simp [h]
set_option maxRecDepth 100000 in
theorem inM_plain (c : UInt8) (l : List UInt8) (h : c.toNat ≠ 34) (h2 : c.toNat ≠ 92) : inM (c :: l) = (inM l).map fun x => (c :: x.1, x.2 + 1) := by rw [inM.eq_def]; simp [h, h2]
structure TxtRel (w : World) (l : List UInt8) (k : Nat) (x : List UInt8) (v : Value) (wr : World) : Prop where
  own : OwnY wr (w.heap.size + 1) v x
  blk : wr.heap[w.heap.size]? = some (.cells #[.int .i64 0, .string (st []), .int .i64 0] 41 (0, 0))
  below : Below w.heap.size w wr
  len : x.length ≤ k
  eq : (inM (l.drop k)).map (fun y => (x ++ y.1, k - 1 + y.2)) = inM (l.drop 1)
end Go.Proofs.YtllgodaphoncnaaGreatDoor
