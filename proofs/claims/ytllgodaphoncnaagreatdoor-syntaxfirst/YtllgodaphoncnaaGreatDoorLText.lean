/- Bytes of one's own, one more; a text read. -/
import Derived.Test.YtllgodaphoncnaaGreatDoorLRead2
import Derived.Deep.AppendLies
import Derived.Deep.DeepAppendWide
import Derived.Laws.IdiomStrings
import Derived.Lib.AppendStr
namespace Go.Proofs.YtllgodaphoncnaaGreatDoor
open Go.RowKit

/-- a row of one's own of these bytes -/
structure OwnY (w : World) (N : Nat) (v : Value) (l : List UInt8) : Prop where
  row : w.ownsRow N 5 1 v l.length (l.map B)
set_option maxRecDepth 100000 in
theorem OwnY.on {w w' : World} {N : Nat} {v : Value} {l : List UInt8} (h : OwnY w N v l) (hk : ∀ g, N ≤ g → g < w.heap.size → w'.heap[g]? = w.heap[g]?) : OwnY w' N v l := by
  obtain ⟨h1, h2⟩ := h.row
  refine ⟨⟨h1, ?_⟩⟩
  rcases h2 with h2 | ⟨g, cap, cur, e, hb, hg, hc, hm, hsz, ht⟩
  · exact .inl h2
  · exact .inr ⟨g, cap, cur, e, hb, (hk g hb (lt_block hg)).trans hg, hc, hm, hsz, ht⟩
set_option maxRecDepth 100000 in
theorem OwnY.below {w w' : World} {N : Nat} {v : Value} {l : List UInt8} (h : OwnY w N v l) (hb : Below w.heap.size w w') : OwnY w' N v l := h.on fun g _ hg => hb.block g hg
set_option maxRecDepth 100000 in
theorem OwnY.nil (w : World) (N : Nat) : OwnY w N (.slice none 0 0) [] := ⟨by simpa using World.ownsRow_nil _ _ _ _⟩
set_option maxRecDepth 100000 in
theorem OwnY.shape {w : World} {N : Nat} {v : Value} {l : List UInt8} (h : OwnY w N v l) : ∃ ad cp, v = .slice ad l.length cp := by
  rcases h.row.2 with ⟨rfl, hn⟩ | ⟨g, cap, cur, rfl, _⟩
  · exact ⟨none, 0, by rw [hn]⟩
  · exact ⟨_, _, rfl⟩
set_option maxRecDepth 100000 in
/-- its text -/
theorem OwnY.conv {w : World} {N : Nat} {v : Value} {l : List UInt8} (h : OwnY w N v l) : (convert 143 9 v).run Tryz.prog w = .ok (.string (st l)) w := by
  rcases h.row.2 with ⟨rfl, hn⟩ | ⟨g, cap, cur, rfl, hb, hg, hc, hm, hsz, ht⟩
  · obtain rfl := List.eq_nil_of_length_eq_zero hn
    kernel_rfl
  · have := run_convert_bytes_back (P := Tryz.prog) w 143 9 5 ⟨g, 0, none⟩ cap l Tryz.underlying143 Tryz.underlying5 Tryz.underlying9 (fun j hj => by
      rw [Addr.add_mid, Nat.zero_add, cell_block hg]
      have h1 : (l.map B)[j]? = some (B l[j]) := by rw [List.getElem?_map, List.getElem?_eq_getElem hj]; rfl
      rw [← ht, List.getElem?_take, if_pos (by omega)] at h1
      simpa using h1)
    exact this
set_option maxRecDepth 100000 in
/-- one byte more, out of a slice of one that lies in the newest block -/
theorem append_one {ops : Array Oper} {rest : List Oper} {o : Oper} {a : Act} {w : World} {Q : Exit → Act → World → Prop} (hgd : o.guard = none) (s x : Operand)
    (ho : o.op = .call { callee := .builtin .append, args := #[s, x], argTypes := #[143, 143] })
    (N : Nat) (v : Value) (l : List UInt8) (hs : a.eval s = v) (c : UInt8) (g cp : Nat) (hx : a.eval x = .slice (some ⟨g, 0, none⟩) 1 cp) (hg : w.heap[g]? = some (.cells #[.int .u8 (c.toNat : Int)] 5 (0, 0))) (hown : OwnY w N v l) (hlen : l.length ≤ 1000000) (hN : N ≤ w.heap.size)
    (k : ∀ v' w', OwnY w' N v' (l ++ [c]) → Below N w w' → wpList Tryz.prog ops Q rest (a.put o.dst v') w') : wpList Tryz.prog ops Q (o :: rest) a w := by
  obtain ⟨i, hi, hz, hsz, hby⟩ := info_parts (show (Tryz.prog.info? 5).map (fun i => (i.zero, i.size, i.bytes)) = some (some (.int .u8 0), 1, 1) by kernel_rfl)
  refine wpList_append_own_wide w hgd s x 143 ho N 5 i _ 1 1 Tryz.underlying143 hi hz hsz hby rfl (by omega) v l.length (l.map B) hs hown.row ⟨g, 0, none⟩ 1 cp [B c] hx rfl (fun j u hj => by
    rw [Addr.add_mid, Nat.zero_add, cell_block hg]
    simpa using hj) (fun u hu => by obtain rfl := List.mem_singleton.1 hu; rfl) (by unfold maxLen; omega) (by omega) hN ?_
  intro v' w' hown'' hgr _
  exact k v' w' ⟨by rw [List.length_append, List.map_append]; exact hown''⟩ ((Below.refl N w).grown hgr hN (fun b hb => (hown.row.lt b hb).1))
set_option maxRecDepth 100000 in
/-- a text behind -/
theorem append_text {ops : Array Oper} {rest : List Oper} {o : Oper} {a : Act} {w : World} {Q : Exit → Act → World → Prop} (hgd : o.guard = none) (s x : Operand)
    (ho : o.op = .call { callee := .builtin .append, args := #[s, x], argTypes := #[143, 9] })
    (N : Nat) (v : Value) (l : List UInt8) (hs : a.eval s = v) (t : List UInt8) (hx : a.eval x = .string (st t)) (hown : OwnY w N v l) (hlen : l.length + t.length ≤ 1000000) (hN : N ≤ w.heap.size)
    (k : ∀ v' w', OwnY w' N v' (l ++ t) → Below N w w' → wpList Tryz.prog ops Q rest (a.put o.dst v') w') : wpList Tryz.prog ops Q (o :: rest) a w := by
  obtain ⟨i, hi, hz, hsz, hby⟩ := info_parts (show (Tryz.prog.info? 5).map (fun i => (i.zero, i.size, i.bytes)) = some (some (.int .u8 0), 1, 1) by kernel_rfl)
  have hsz' := size_st t
  refine Lib.wpList_append_own_string w hgd s x 143 9 ho N 5 i Tryz.underlying143 Tryz.underlying9 hi hz hsz hby v l.length (l.map B) hs hown.row (st t) hx (by unfold maxLen; omega) (by omega) hN ?_
  intro v' w' hown'' hgr _
  refine k v' w' ⟨?_⟩ ((Below.refl N w).grown hgr hN (fun b hb => (hown.row.lt b hb).1))
  have e1 : (l ++ t).length = l.length + (st t).size := by rw [hsz']; simp
  have e2 : (l ++ t).map B = l.map B ++ Lib.strCells (st t) := by simp [Lib.strCells, st]
  rw [e1, e2]; exact hown''
set_option maxRecDepth 100000 in
theorem inM_nil : inM [] = none := by rw [inM]
set_option maxRecDepth 100000 in
theorem inM_quote (c : UInt8) (l : List UInt8) (h : c.toNat = 34) : inM (c :: l) = some ([], 1) := by rw [inM.eq_def]; simp [h]
set_option maxRecDepth 100000 in
theorem inM_end (c : UInt8) (h : c.toNat = 92) : inM [c] = none := by rw [inM.eq_def]; simp [h]
set_option maxRecDepth 100000 in
theorem inM_esc (c d : UInt8) (l : List UInt8) (h : c.toNat = 92) : inM (c :: d :: l) = if mrkB d then (inM l).map fun x => (d :: x.1, x.2 + 2) else none := by rw [inM.eq_def]; simp [h]
set_option maxRecDepth 100000 in
theorem inM_plain (c : UInt8) (l : List UInt8) (h : c.toNat ≠ 34) (h2 : c.toNat ≠ 92) : inM (c :: l) = (inM l).map fun x => (c :: x.1, x.2 + 1) := by rw [inM.eq_def]; simp [h, h2]
structure TxtRel (w : World) (l : List UInt8) (k : Nat) (x : List UInt8) (v : Value) (wr : World) : Prop where
  own : OwnY wr (w.heap.size + 1) v x
  blk : wr.heap[w.heap.size]? = some (.cells #[.int .i64 0, .string (st []), .int .i64 0] 41 (0, 0))
  below : Below w.heap.size w wr
  len : x.length ≤ k
  eq : (inM (l.drop k)).map (fun y => (x ++ y.1, k - 1 + y.2)) = inM (l.drop 1)
end Go.Proofs.YtllgodaphoncnaaGreatDoor
