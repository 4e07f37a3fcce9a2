/- How deep a tree is: rows of addresses, and the map, in memory. -/
import Derived.Test.YtllgodaphoncnaaGreatDoorSDepI
namespace Go.Proofs.YtllgodaphoncnaaGreatDoor
open Go.RowKit

def ptrsL (L : LT) : List Value := L.map fun n => Value.pointer (some n.1)
/-- a row of one's own of these addresses -/
structure OwnP (w : World) (base : Nat) (v : Value) (L : LT) : Prop where
  row : w.ownsRow base 74 1 v L.length (ptrsL L)
set_option maxRecDepth 100000 in
theorem append_ptr {w : World} {ops : Array Oper} {rest : List Oper} {o : Oper} {a : Act} {Q : Exit → Act → World → Prop} (hgd : o.guard = none) (s x : Operand)
    (ho : o.op = .call { callee := .builtin .append, args := #[s, x], argTypes := #[75, 75] })
    (base : Nat) (L : LT) (n : Addr × Tr) (v : Value) (hs : a.eval s = v) (hown : OwnP w base v L) (g c : Nat) (hx : a.eval x = .slice (some ⟨g, 0, none⟩) 1 c) (hg : w.heap[g]? = some (.cells #[.pointer (some n.1)] 74 (0, 0))) (hlen : L.length ≤ 1000000) (hbase : base ≤ w.heap.size)
    (k : ∀ v' w', OwnP w' base v' (L ++ [n]) → Below base w w' → wpList Tryz.prog ops Q rest (a.put o.dst v') w') : wpList Tryz.prog ops Q (o :: rest) a w := by
  obtain ⟨i, hi, hz, hsz, hby⟩ := info_parts (show (Tryz.prog.info? 74).map (fun i => (i.zero, i.size, i.bytes)) = some (some (.pointer none), 1, 8) by kernel_rfl)
  refine wpList_append_own_wide w hgd s x 75 ho base 74 i _ 1 8 Tryz.underlying75 hi hz hsz hby rfl (by omega) v L.length (ptrsL L) hs hown.row ⟨g, 0, none⟩ 1 c [.pointer (some n.1)] hx rfl (fun j u hj => by
    rw [Addr.add_mid, Nat.zero_add, cell_block hg]
    simpa using hj) (fun u hu => by obtain rfl := List.mem_singleton.1 hu; rfl) (by unfold maxLen; omega) (by omega) hbase ?_
  intro v' w' hown' hgr _
  refine k v' w' ⟨by rw [List.length_append, ptrsL, List.map_append]; exact hown'⟩ ((Below.refl base w).grown hgr hbase (fun b hb => (hown.row.lt b hb).1))
/-- addresses in memory, in blocks behind M -/
structure PtrsAt (w : World) (M : Nat) (v : Value) (L : LT) : Prop where
  at' : ∃ (ad : Option Addr) (g cap : Nat), v = .slice ad L.length cap ∧ (L ≠ [] → ad = some ⟨g, 0, none⟩ ∧ M < g) ∧ ∀ i, (hi : i < L.length) → w.cell? ⟨g, i, none⟩ = some (.pointer (some L[i].1))
set_option maxRecDepth 100000 in
theorem OwnP.ptrs {w : World} {base M : Nat} {v : Value} {L : LT} (h : OwnP w base v L) (hM : M < base) : PtrsAt w M v L := by
  rcases h.row.2 with ⟨rfl, hn⟩ | ⟨g, cap, cur, rfl, hb, hg, hc, hm, hcs, ht⟩
  · have : L = [] := List.eq_nil_of_length_eq_zero hn
    subst this
    exact ⟨none, 0, 0, rfl, fun h => absurd rfl h, fun i hi => absurd hi (by simp)⟩
  · refine ⟨some ⟨g, 0, none⟩, g, cap, rfl, fun _ => ⟨rfl, by omega⟩, fun i hi => ?_⟩
    rw [cell_block hg i]
    have e : (ptrsL L)[i]? = cur[i]? := by
      rw [← ht, List.getElem?_take, if_pos (by omega)]
      simp
    rw [← e, ptrsL, List.getElem?_map, List.getElem?_eq_getElem hi]; rfl
set_option maxRecDepth 100000 in
theorem PtrsAt.kept {w w' : World} {M : Nat} {v : Value} {L : LT} (h : PtrsAt w M v L) (hk : ∀ k, M < k → k < w.heap.size → w'.heap[k]? = w.heap[k]?) : PtrsAt w' M v L := by
  obtain ⟨ad, g, cap, e, h1, h2⟩ := h.at'
  refine ⟨ad, g, cap, e, h1, fun i hi => ?_⟩
  have h0 := h2 i hi
  rw [← h0]
  exact World.cell?_of_block (w := w) (hk g (h1 (by intro e; subst e; cases hi)).2 (block_lt_of_cell h0))
structure RowP (w : World) (g : Nat) (L : LT) : Prop where
  at' : ∀ i, (hi : i < L.length) → w.cell? ⟨g, i, none⟩ = some (.pointer (some L[i].1))
set_option maxRecDepth 100000 in
theorem RowP.kept {w w' : World} {g : Nat} {L : LT} (h : RowP w g L) (hk : w'.heap[g]? = w.heap[g]?) : RowP w' g L :=
  ⟨fun i hi => by rw [← h.at' i hi]; exact World.cell?_of_block (w := w) hk⟩
/-- the worlds of the walk: what was there stays, and the map -/
structure DW (w1 W : World) (F : List (Addr × Int)) : Prop where
  below : Below w1.heap.size w1 W
  map : MapIs W w1.heap.size F
  old : ∀ x ∈ F, PlainB w1 x.1
set_option maxRecDepth 100000 in
theorem PlainB.low {w w' : World} {a : Addr} (h : PlainB w a) (hb : Below w.heap.size w w') : PlainB w' a := by
  obtain ⟨C, T, hg⟩ := h
  exact ⟨C, T, (hb.block _ (lt_block hg)).trans hg⟩
set_option maxRecDepth 100000 in
/-- blocks are made, or turned that are new behind a base -/
theorem DW.over {w1 W W' : World} {F : List (Addr × Int)} {base : Nat} (h : DW w1 W F) (hb : Below base W W') (hM : w1.heap.size < base) : DW w1 W' F := by
  have hbel : Below w1.heap.size w1 W' := h.below.trans (hb.mono (Nat.le_of_lt hM))
  obtain ⟨es, clk, hg, he⟩ := h.map.map
  exact ⟨hbel, ⟨⟨es, clk, (hb.block _ hM).trans hg, he⟩, fun x hx => (h.old x hx).low hbel⟩, h.old⟩
set_option maxRecDepth 100000 in
theorem len_map {w : World} {M : Nat} {F : List (Addr × Int)} (h : MapIs w M F) (ty : TypeId) : (Builtin.len_ #[73] ty #[.map (some M)]).run Tryz.prog w = .ok (.int .i64 F.length) w := by
  obtain ⟨es, clk, hg, he⟩ := h.map
  have hlen : es.size = F.length := by
    have := congrArg List.length he
    simpa using this
  simp [Builtin.len_, run_underlying Tryz.underlying73, MapKept.run_getObj_map hg, hlen, goInt]
set_option maxRecDepth 100000 in
theorem look_map {w : World} {M : Nat} {F : List (Addr × Int)} {a : Addr} (h : MapIs w M F) (ha : PlainB w a) : (Instr.lookup 73 (.map (some M)) (.pointer (some a)) false).run Tryz.prog w = .ok (.int .i64 (lookF a F)) w := by
  obtain ⟨j, hj, hs⟩ : ∃ j, Tryz.prog.info? 27 = some j ∧ j.size ≠ 0 := by
    have h0 : (Tryz.prog.info? 27).map (·.size) = some 8 := by kernel_rfl
    obtain ⟨j, h1, h2⟩ := Option.map_eq_some_iff.1 h0
    exact ⟨j, h1, by rw [h2]; decide⟩
  exact run_lookup_ptr Tryz.underlying73 Tryz.underlying74 hj hs (by kernel_rfl) ha h
set_option maxRecDepth 100000 in
theorem put_map {w : World} {M : Nat} {F : List (Addr × Int)} {a : Addr} (v : Int) (h : MapIs w M F) (ha : PlainB w a) :
    ∃ w', (Instr.mapUpdate 73 (.map (some M)) (.pointer (some a)) (.int .i64 v)).run Tryz.prog w = .ok () w' ∧ Kept1 M w w' ∧ MapIs w' M (putF' a v F) ∧ w'.heap.size = w.heap.size := by
  obtain ⟨j, hj, hs⟩ : ∃ j, Tryz.prog.info? 27 = some j ∧ j.size ≠ 0 := by
    have h0 : (Tryz.prog.info? 27).map (·.size) = some 8 := by kernel_rfl
    obtain ⟨j, h1, h2⟩ := Option.map_eq_some_iff.1 h0
    exact ⟨j, h1, by rw [h2]; decide⟩
  exact run_update_ptr v Tryz.underlying73 Tryz.underlying74 hj hs ha h
set_option maxRecDepth 100000 in
theorem mem_put {a : Addr} {v : Int} {F : List (Addr × Int)} {x : Addr × Int} (h : x ∈ putF' a v F) : x.1 = a ∨ x ∈ F := by
  unfold putF' at h
  split at h
  · rcases List.mem_or_eq_of_mem_set h with h | rfl
    · exact .inr h
    · exact .inl rfl
  · rcases List.mem_append.1 h with h | h
    · exact .inr h
    · obtain rfl := List.mem_singleton.1 h; exact .inl rfl
set_option maxRecDepth 100000 in
theorem DW.put {w1 W : World} {F : List (Addr × Int)} {a : Addr} (v : Int) (h : DW w1 W F) (ha : PlainB w1 a) :
    ∃ W', (Instr.mapUpdate 73 (.map (some w1.heap.size)) (.pointer (some a)) (.int .i64 v)).run Tryz.prog W = .ok () W' ∧ DW w1 W' (putF' a v F) ∧ (∀ k, w1.heap.size < k → W'.heap[k]? = W.heap[k]?) ∧ W'.heap.size = W.heap.size := by
  obtain ⟨W', h1, h2, h3, h4⟩ := put_map v h.map (ha.low h.below)
  refine ⟨W', h1, ⟨⟨h2.os.trans h.below.os, h2.tape.trans h.below.tape, h2.output.trans h.below.output, by rw [h4]; exact h.below.size, fun k hk => ?_⟩, h3, fun x hx => ?_⟩, fun k hk => ?_, h4⟩
  · have hs := h.below.size
    exact (h2.block k (by omega) (by omega)).trans (h.below.block k hk)
  · rcases mem_put hx with e | hx
    · rw [e]; exact ha
    · exact h.old x hx
  · rcases Nat.lt_or_ge k W.heap.size with hl | hl
    · exact h2.block k hl (by omega)
    · rw [Array.getElem?_eq_none hl, Array.getElem?_eq_none (by omega)]
set_option maxRecDepth 100000 in
theorem OwnP.kept {w w' : World} {base : Nat} {v : Value} {L : LT} (h : OwnP w base v L) (hk : ∀ k, base ≤ k → k < w.heap.size → w'.heap[k]? = w.heap[k]?) : OwnP w' base v L := by
  obtain ⟨h1, h2⟩ := h.row
  refine ⟨⟨h1, ?_⟩⟩
  rcases h2 with h2 | ⟨g, cap, cur, e, hg, hc, rest⟩
  · exact .inl h2
  · exact .inr ⟨g, cap, cur, e, hg, (hk g hg (lt_block hc)).trans hc, rest⟩
end Go.Proofs.YtllgodaphoncnaaGreatDoor
