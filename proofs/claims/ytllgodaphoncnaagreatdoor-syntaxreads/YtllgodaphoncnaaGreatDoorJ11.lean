/- P2.1, the bags: slices.Insert of one value into a row of values; slices.Insert of one value: behind the last; in room; without room. -/
import Derived.Test.YtllgodaphoncnaaGreatDoorVSame
import Derived.Test.YtllgodaphoncnaaGreatDoorQTail
import Derived.Laws.CopyOwn
import Derived.Laws.AppendOwn
import Derived.Deep.DeepAppendWide
import Derived.Lib.Overlaps
import Derived.Lib.AppendZerosOnto
namespace Go.Proofs.YtllgodaphoncnaaGreatDoor
open Go.RowKit

set_option maxRecDepth 100000 in
theorem run_copy_row_wide (P : Program) (w : World) (dT sT ty elem : TypeId) (size g o dLen dCap : Nat) (a : Addr) (sLen sCap : Nat) (cur : Array Value) (t : TypeId) (cs : List Value)
    (hu : P.underlying dT = some (.slice elem)) (hs : (P.info? elem).map (·.size) = some size)
    (hg : w.heap[g]? = some (.cells cur t (0, 0))) (hn : cs.length = Nat.min sLen dLen * size)
    (hsrc : ∀ j v, cs[j]? = some v → w.cell? (a.add j) = some v) (hfit : o + cs.length ≤ cur.size) (h1 : ∀ v ∈ cs, v.oneCell' = true) :
    (Builtin.copy_ #[dT, sT] ty #[.slice (some ⟨g, o, none⟩) dLen dCap, .slice (some a) sLen sCap]).run P w =
      .ok (goInt (Nat.min sLen dLen)) (w.setRow g (cur.toList.take o ++ (cs ++ cur.toList.drop (o + cs.length))).toArray) := by
  have hl := run_loadCells_list (P := P) w a cs hsrc
  have hst := run_storeCells_at P g o t cs 0 cur w hg (by simpa using hfit) h1
  cases hq : P.info? elem with
  | none => simp [hq] at hs
  | some i =>
    have hi : i.size = size := by simpa [hq] using hs
    simp [Builtin.copy_, run_underlying hu, Builtin.lenOf, Builtin.firstCells, sizeOf, typeInfo, hq, hi, ← hn, hl, hst]
set_option maxRecDepth 100000 in
theorem wpList_copy_wide {P : Program} {w : World} {ops : Array Oper} {rest : List Oper} {o : Oper} {a : Act} {Q : Exit → Act → World → Prop} (hgd : o.guard = none) (d s : Operand) (dT sT : TypeId)
    (ho : o.op = .call { callee := .builtin .copy, args := #[d, s], argTypes := #[dT, sT] }) (elem : TypeId) (size : Nat) (hu : P.underlying dT = some (.slice elem)) (hsz : (P.info? elem).map (·.size) = some size)
    (g off dLen dCap : Nat) (ad : Addr) (sLen sCap : Nat) (hd : a.eval d = .slice (some ⟨g, off, none⟩) dLen dCap) (hs : a.eval s = .slice (some ad) sLen sCap)
    (cur : List Value) (t : TypeId) (hg : w.heap[g]? = some (.cells cur.toArray t (0, 0))) (cs : List Value) (hn : cs.length = Nat.min sLen dLen * size)
    (hsrc : ∀ j v, cs[j]? = some v → w.cell? (ad.add j) = some v) (hfit : off + cs.length ≤ cur.length) (h1 : ∀ v ∈ cs, v.oneCell' = true) (B : Nat) (w0 : World) (hb : Below B w0 w) (hBg : B ≤ g)
    (h : ∀ w', Hid (w'.heap[g]? = some (.cells (splice cur off cs).toArray t (0, 0))) → Below B w0 w' → Hid (∀ k, k ≠ g → w'.heap[k]? = w.heap[k]?) → wpList P ops Q rest (a.put o.dst (goInt (Nat.min sLen dLen))) w') : wpList P ops Q (o :: rest) a w := by
  refine wpList_plain hgd fun K hK => ?_
  have hrun := run_copy_row_wide P w dT sT o.type elem size g off dLen dCap ad sLen sCap cur.toArray t cs hu hsz hg hn hsrc (by simpa using hfit) h1
  unfold Oper.wp
  simp [execOp, ho, resolve, invoke, builtin, hd, hs, hrun, Result.andThen]
  refine hK _ _ (h _ (show _ = _ by simpa [splice] using setRow_heap w g _ _ t _ hg) (below_setRow hb hBg _) (Lib.hid fun k hk => setRow_other w g k _ hk))

set_option maxRecDepth 100000 in
/-- a copy as it runs: what the row holds then -/
theorem run_copy_ex {P : Program} {w : World} (dT sT ty elem : TypeId) (size : Nat) (hu : P.underlying dT = some (.slice elem)) (hsz : (P.info? elem).map (·.size) = some size)
    (g off dLen dCap : Nat) (ad : Addr) (sLen sCap : Nat) (cur : List Value) (t : TypeId) (hg : w.heap[g]? = some (.cells cur.toArray t (0, 0))) (cs : List Value) (hn : cs.length = Nat.min sLen dLen * size)
    (hsrc : ∀ j v, cs[j]? = some v → w.cell? (ad.add j) = some v) (hfit : off + cs.length ≤ cur.length) (h1 : ∀ v ∈ cs, v.oneCell' = true) (B : Nat) (w0 : World) (hb : Below B w0 w) (hBg : B ≤ g) :
    ∃ w', (Builtin.copy_ #[dT, sT] ty #[.slice (some ⟨g, off, none⟩) dLen dCap, .slice (some ad) sLen sCap]).run P w = .ok (goInt (Nat.min sLen dLen)) w' ∧ Hid (w'.heap[g]? = some (.cells (splice cur off cs).toArray t (0, 0))) ∧ Below B w0 w' ∧ Hid (∀ k, k ≠ g → w'.heap[k]? = w.heap[k]?) :=
  ⟨_, run_copy_row_wide P w dT sT ty elem size g off dLen dCap ad sLen sCap cur.toArray t cs hu hsz hg hn hsrc (by simpa using hfit) h1, Lib.hid (by simpa [splice] using setRow_heap w g _ _ t _ hg), below_setRow hb hBg _, Lib.hid fun k hk => setRow_other w g k _ hk⟩

/-- the cells of values, one behind the other -/
def cellsL (l : List Val) : List Value := l.flatMap Val.cells
set_option maxRecDepth 100000 in
theorem length_cellsL (l : List Val) : (cellsL l).length = l.length * 4 := by
  induction l with
  | nil => rfl
  | cons x l ih => simp only [cellsL, List.flatMap_cons, List.length_append, List.length_cons] at ih ⊢; rw [ih, show x.cells.length = 4 from rfl]; omega
set_option maxRecDepth 100000 in
theorem cellsL_append (l m : List Val) : cellsL (l ++ m) = cellsL l ++ cellsL m := by simp [cellsL]
set_option maxRecDepth 100000 in
theorem take_cellsL (l : List Val) (i : Nat) (h : i ≤ l.length) : (cellsL l).take (i * 4) = cellsL (l.take i) := by
  have e : cellsL l = cellsL (l.take i) ++ cellsL (l.drop i) := by rw [← cellsL_append, List.take_append_drop]
  rw [e, List.take_left' (by rw [length_cellsL, List.length_take, Nat.min_eq_left h])]
set_option maxRecDepth 100000 in
theorem drop_cellsL (l : List Val) (i : Nat) (h : i ≤ l.length) : (cellsL l).drop (i * 4) = cellsL (l.drop i) := by
  have e : cellsL l = cellsL (l.take i) ++ cellsL (l.drop i) := by rw [← cellsL_append, List.take_append_drop]
  rw [e, List.drop_left' (by rw [length_cellsL, List.length_take, Nat.min_eq_left h])]
set_option maxRecDepth 100000 in
theorem one_cellsL (l : List Val) : ∀ v ∈ cellsL l, v.oneCell' = true := by
  intro v hv
  obtain ⟨x, _, hx⟩ := List.mem_flatMap.1 hv
  exact one_cells x v hx
end Go.Proofs.YtllgodaphoncnaaGreatDoor
namespace Go.Proofs.YtllgodaphoncnaaGreatDoor
open Go.RowKit

set_option maxRecDepth 100000 in
set_option maxHeartbeats 1000000 in
theorem insert_end (w : World) (base : Nat) (v : Value) (l : List Val) (hl : l.length ≤ 1000) (hown : w.ownsRow base 24 4 v l.length (cellsL l)) (G : Nat) (x : Val) (hG : w.heap[G]? = some (.cells x.cells.toArray 24 (0, 0))) (hbase : base ≤ w.heap.size) :
    Calls Tryz.prog 169 #[v, .int .i64 l.length, .slice (some ⟨G, 0, none⟩) 1 1] w fun e w' => ∃ v', e = .returned v' ∧ w'.ownsRow base 24 4 v' (l.length + 1) (cellsL (l ++ [x])) ∧ Below base w w' := by
  obtain ⟨i, hi, hz, hsz, hby⟩ := info_parts (show (Tryz.prog.info? 24).map (fun i => (i.zero, i.size, i.bytes)) = some (some (.agg zeroCells.toArray), 4, 56) by kernel_rfl)
  have hc4 : x.cells.length = 4 := rfl
  have hsrc : Hid (∀ W : World, W.heap[G]? = some (.cells x.cells.toArray 24 (0, 0)) → ∀ j u, x.cells[j]? = some u → W.cell? ((⟨G, 0, none⟩ : Addr).add j) = some u) := Lib.hid (by
    intro W hW j u hu
    rw [Addr.add_mid, Nat.zero_add, cell_block hW j]; simpa using hu)
  have H1 := Lib.hid (one_cells x)
  have HO := Lib.hid hown
  have HG := Lib.hid hG
  have HGl := Lib.hid (Below.refl base w)
  rcases hown.2 with ⟨rfl, hn⟩ | ⟨g, cap, cur, rfl, hb, hg, hc, hm, hcs, ht⟩
  · rw [hn] at HO ⊢
    clear hown hG
    go_enter Tryz.func169, Tryz.ntmps169
    go_wp2_with (at_builtin; refine wpList_append_own_wide _ rfl (.tmp 23) (.tmp 24) 22 rfl base 24 i _ 4 56 Tryz.underlying22 hi hz hsz hby rfl (by omega) _ 0 (cellsL l) rfl HO.out ⟨G, 0, none⟩ 1 1 x.cells rfl hc4 (hsrc.out _ HG.out) H1.out (by unfold maxLen; omega) (by omega) hbase ?_)
    intro v' w' hown' hgr _
    have HO' := Lib.hid hown'
    have HB' := Lib.hid ((Below.refl base w).grown hgr hbase (fun b hb => (HO.out.lt b hb).1))
    clear hown' hgr
    go_wp2_with fail
    go_ret
    exact ⟨v', rfl, by rw [cellsL_append, show cellsL [x] = x.cells by simp [cellsL]]; exact HO'.out, HB'.out⟩
  · clear hown hG
    unfold maxLen at hm
    go_enter Tryz.func169, Tryz.ntmps169
    go_wp2_with (at_builtin; refine wpList_append_own_wide _ rfl (.tmp 23) (.tmp 24) 22 rfl base 24 i _ 4 56 Tryz.underlying22 hi hz hsz hby rfl (by omega) _ l.length (cellsL l) rfl HO.out ⟨G, 0, none⟩ 1 1 x.cells rfl hc4 (hsrc.out _ HG.out) H1.out (by unfold maxLen; omega) (by omega) hbase ?_)
    all_goals
      intro v' w' hown' hgr _
      have HO' := Lib.hid hown'
      have HB' := Lib.hid ((Below.refl base w).grown hgr hbase (fun b hb => (HO.out.lt b hb).1))
      clear hown' hgr
      go_wp2_with fail
      go_ret
      exact ⟨v', rfl, by rw [cellsL_append, show cellsL [x] = x.cells by simp [cellsL]]; exact HO'.out, HB'.out⟩
end Go.Proofs.YtllgodaphoncnaaGreatDoor
