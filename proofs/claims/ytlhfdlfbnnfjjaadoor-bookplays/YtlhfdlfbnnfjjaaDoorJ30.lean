/- A record is cut; The law's sectors; What Write is made of: a struct that is built, one more in the row of those that wait. -/
import Derived.Test.YtlhfdlfbnnfjjaaDoorJ29
import Derived.Test.YtlhfdlfbnnfjjaaDoorJ25
import Derived.Test.YtlhfdlfbnnfjjaaDoorJ27
import Derived.Test.YtlhfdlfbnnfjjaaDoorJ01
import Derived.Deep.DeepCutAuto
import Derived.Deep.DeepAppendWide
import Derived.RangeFuncBox
namespace Go.Proofs.YtlhfdlfbnnfjjaaDoor
open Go.RowKit

/-- a record's part of that place -/
def cutB (l : List UInt8) (k : Nat) : List UInt8 := (l.drop (k * 52)).take 52
set_option maxRecDepth 100000 in
theorem cut_slices (p : Part) (k : Nat) (hk : k * 52 ≤ p.l.length) (hc : p.l.length ≤ p.cap) (hat : p.l ≠ [] → p.ad = some ⟨p.g, p.o, none⟩) : ∃ q1 q : Part, q.l = cutB p.l k ∧ q.g = p.g ∧ (∀ w, p.In w → q.In w) ∧ ((p.ad = none → p.cap = 0) → q.ad = none → q.cap = 0) ∧ q1.l = p.l.drop (k * 52) ∧
    (∀ w, (Instr.sliceAt 32 (.slice p.ad p.l.length p.cap) (some (.int .i64 ((k * 52 : Nat) : Int))) none none).run Tryd.prog w = .ok (.slice q1.ad q1.l.length q1.cap) w) ∧
    ∀ w, (Instr.sliceAt 32 (.slice q1.ad q1.l.length q1.cap) none (some (.int .i64 ((min q1.l.length 52 : Nat) : Int))) none).run Tryd.prog w = .ok (.slice q.ad q.l.length q.cap) w := by
  obtain ⟨q1, h1l, h1g, h1i, h1n, h1c, h1s⟩ := slice_loP p (k * 52) hk hc hat
  have hc1 : q1.l.length ≤ q1.cap := by rw [h1l, h1c, List.length_drop]; omega
  obtain ⟨q, hl, hg, ho, hi, hn, hcq, hs⟩ := slice_hiP q1 (min q1.l.length 52) (Nat.min_le_left _ _) hc1
  refine ⟨q1, q, ?_, hg.trans h1g, fun w h => hi w (h1i w h), fun h => hn (h1n h), h1l, h1s, hs⟩
  rw [hl, h1l, cutB, List.take_eq_take_iff]
  omega
set_option maxRecDepth 100000 in
theorem structSec : ∃ fields, Tryd.prog.underlying 74 = some (.struct fields) ∧ fields.toList.mapM (fun f => (Tryd.prog.info? f.type).map fun i => (f.offset, i.size)) = some [(0, 5), (5, 1)] := ⟨_, Tryd.underlying74, by kernel_rfl⟩
set_option maxRecDepth 100000 in
theorem builtHd (a b c d e : Int) : Tryd.prog.built 72 [(0, .int .i64 a), (1, .int .i64 b), (2, .int .i64 c), (3, .int .i64 d), (4, .int .i64 e)] = some [.int .i64 a, .int .i64 b, .int .i64 c, .int .i64 d, .int .i64 e].toArray := by kernel_rfl
set_option maxRecDepth 100000 in
theorem builtSec (a b c d e : Int) (ad : Option Addr) (n cap : Nat) : Tryd.prog.built 74 [(0, .agg #[.int .i64 a, .int .i64 b, .int .i64 c, .int .i64 d, .int .i64 e]), (1, .slice ad n cap)] = some [.int .i64 a, .int .i64 b, .int .i64 c, .int .i64 d, .int .i64 e, .slice ad n cap].toArray := by kernel_rfl
/-- the head of a record's part -/
def cutH (n g k : Nat) (l : List UInt8) : Hd := ⟨n + 1, g, k, nParts l.length, (cutB l k).length⟩
set_option maxRecDepth 100000 in
set_option maxHeartbeats 2000000 in
theorem cut_any {N d gs : Nat} {v : Value} {s : DSt} {b : Nat} {ra : Value} {ps : List Part} {room gen : Nat} {o : Bool} (p : Part) (hpl : p.l.length ≤ 4096) (k : Nat) (hk : k * 52 ≤ p.l.length) (hc : p.l.length ≤ p.cap) (hat : p.l ≠ [] → p.ad = some ⟨p.g, p.o, none⟩) :
    ∃ q : Part, q.l = cutB p.l k ∧ q.g = p.g ∧ (∀ w, p.In w → q.In w) ∧ ((p.ad = none → p.cap = 0) → q.ad = none → q.cap = 0) ∧ ∀ w : World, Both w N d gs v s b ra ps room gen o →
    Calls Tryd.prog 34 #[.pointer (some ⟨b, 0, none⟩), p.val, .int .i64 (k : Int)] w fun e w' => e = .returned (.agg (secC (cutH ps.length gen k p.l) q).toArray) ∧ Below w.heap.size w w' := by
  obtain ⟨q1, q, hql, hqg, hqi, hqn, hq1, hs1, hs2⟩ := cut_slices p k hk hc hat
  refine ⟨q, hql, hqg, hqi, hqn, fun w h => ?_⟩
  have hfew := h.few
  have H := Lib.hid h
  have HQL := Lib.hid hql
  have hblt := lt_block h.blk
  have hk79 : k ≤ 79 := by omega
  unfold cutH secC Hd.cells Part.val
  simp only [List.cons_append, List.nil_append]
  rw [← hql]
  have hqlen : q.l.length = min q1.l.length 52 := by rw [hql, hq1, cutB, List.length_take]; omega
  rw [← hqlen] at hs2
  have HP : Hid (∀ W, Calls Tryd.prog 23 #[.int .i64 (p.l.length : Int)] W fun e w' => e = .returned (.int .i64 ((nParts p.l.length : Nat) : Int)) ∧ W = w') := Lib.hid fun W => by
    have := parts_any W (p.l.length : Int) (by omega)
    rwa [partsI_nat] at this
  obtain ⟨n, hn⟩ : ∃ n, p.l.length = n := ⟨_, rfl⟩
  obtain ⟨n1, hn1⟩ : ∃ n, q1.l.length = n := ⟨_, rfl⟩
  obtain ⟨n2, hn2⟩ : ∃ n, q.l.length = n := ⟨_, rfl⟩
  rw [hn] at hs1 HP hk hpl ⊢
  rw [hn1] at hs1 hs2
  rw [hn2] at hs2 ⊢
  rw [hn1, hn2] at hqlen
  rw [show ((k * 52 : Nat) : Int) = (k : Int) * 52 by omega] at hs1
  have hn1le : n1 ≤ 4096 := by rw [← hn1, hq1, List.length_drop]; omega
  have hz := zero_secB
  obtain ⟨M, hM⟩ : ∃ M, nParts n = M := ⟨_, rfl⟩
  rw [hM] at HP ⊢
  obtain ⟨D, hD⟩ : ∃ D : List Value, [.int .i64 (((ps.length + 1 : Nat) : Nat) : Int), .int .i64 (gen : Int), .int .i64 (k : Int), .int .i64 (M : Int), .int .i64 (n2 : Int), .slice q.ad n2 q.cap] = D := ⟨_, rfl⟩
  have hD6 : D.length = 6 := by rw [← hD]; rfl
  have hDone : ∀ x ∈ D, x.oneCell' = true := by
    rw [← hD]
    intro x hx
    simp only [List.mem_cons, List.not_mem_nil, or_false] at hx
    rcases hx with rfl | rfl | rfl | rfl | rfl | rfl <;> rfl
  rw [hD]
  rw [Int.natCast_add, Int.natCast_one] at hD
  have HDe := Lib.hid hD
  clear hn hn1 hn2 hM hD h hqi hqn hql hq1 hat hc
  go_enter Tryd.func34, Tryd.ntmps34
  have hmin : n2 = 52 ∧ 52 < n1 ∨ n2 = n1 ∧ n1 ≤ 52 := by omega
  clear hqlen
  rcases hmin with ⟨rfl, hlt⟩ | ⟨rfl, hlt⟩
  · have dm : decide ((52 : Int) < (n1 : Int)) = true := by simp; omega
    have hs3 : ∀ w, (Instr.sliceAt 32 (.slice q1.ad n1 q1.cap) none (some (.int .i64 52)) none).run Tryd.prog w = .ok (.slice q.ad 52 q.cap) w := hs2
    clear hs2
    go_wp2_with fail
    generalize hW : World.alloc _ _ = W0 at *
    have hb0 : Below w.heap.size w W0 := by rw [← hW]; exact (Below.refl _ _).alloc (Nat.le_refl _) _
    have g0 : W0.heap[w.heap.size]? = some (.cells zsec.toArray 74 (0, 0)) := by rw [← hW]; exact heap_alloc_new _ _
    have c34 : ∀ m : Bl W0, m.wr.cell? ⟨b, 34, none⟩ = some (.int .i64 (ps.length : Int)) := fun m => ((H.out.below hb0).below m.below).cells.2.2.1
    have c36 : ∀ m : Bl W0, m.wr.cell? ⟨b, 36, none⟩ = some (.int .i64 (gen : Int)) := fun m => ((H.out.below hb0).below m.below).cells.2.2.2.2.1
    have G0 := Lib.hid g0
    have HB0 := Lib.hid hb0
    clear hW g0 hb0
    refine wp_region_quiet_tailB 19 (by kernel_rfl) (by kernel_rfl) ?_
    simp only [List.take_succ_cons, List.take_zero, List.drop_succ_cons, List.drop_zero]
    iterate 16 (go_big_quiet_step ((go_at_call 23; with_reducible exact Calls.quiet_b (.mono (HP.out _) fun _ _ ⟨he, hw⟩ => ⟨he, hw ▸ Below.refl _ _⟩))))
    refine wpQuiet_of_op rfl (.agg #[.int .i64 ((ps.length : Int) + 1), .int .i64 (gen : Int), .int .i64 (k : Int), .int .i64 (M : Int), .int .i64 52]) (fun w' _ => run_buildd_op 72 _ (by rfl) [(0, .int .i64 ((ps.length : Int) + 1)), (1, .int .i64 (gen : Int)), (2, .int .i64 (k : Int)), (3, .int .i64 (M : Int)), (4, .int .i64 52)] (by kernel_rfl) _ (builtHd _ _ _ _ _)) ?_
    simp only [Act.put, List.setIfInBounds_toArray, List.set_cons_succ, List.set_cons_zero]
    go_big_quiet_step (fail)
    refine wpQuiet_of_op rfl (.agg D.toArray) (fun w' _ => run_buildd_op 74 _ (by rfl) [(0, .agg #[.int .i64 ((ps.length : Int) + 1), .int .i64 (gen : Int), .int .i64 (k : Int), .int .i64 (M : Int), .int .i64 52]), (1, .slice q.ad 52 q.cap)] (by kernel_rfl) _ (by rw [← HDe.out]; exact builtSec _ _ _ _ _ _ _ _)) ?_
    simp only [Act.put, List.setIfInBounds_toArray, List.set_cons_succ, List.set_cons_zero]
    refine wpQuiet_nil ?_
    intro m
    have HBM := Lib.hid (HB0.out.trans (m.below.mono HB0.out.size))
    have GM := Lib.hid ((m.below.block _ (lt_block G0.out)).trans G0.out)
    generalize m.wr = W1 at *
    clear m HB0 G0 c34 c36
    have hthere := there_block GM.out 0 6 (by simp [zsec])
    have hend := heap_setCells _ _ D 0 _ _ GM.out (by rw [hD6]; simp [zsec])
    rw [over_all _ _ (by rw [hD6]; rfl)] at hend
    have hkl := Kept1.mono HBM.out ((Kept1.refl w.heap.size _).setCells w.heap.size (Or.inl rfl) D 0) (Nat.le_refl _)
    have Hend := Lib.hid hend
    have Hkl := Lib.hid hkl
    have HTh := Lib.hid hthere
    clear hend hkl hthere GM HBM
    go_wp2_with (refine wpList_store_mid rfl 74 (.tmp 6) (.tmp 35) rfl w.heap.size 0 D.toArray rfl rfl (by simpa [hD6] using HTh.out) (info_secB _ (by simpa using hD6)) (all_oneCell_toArray hDone) ?_)
    exact bodyPost_ret (v := .agg D.toArray) (results_cell_row Tryd.results34 _ _ w.heap.size 74 D.toArray (0, 0) _ rfl Hend.out Tryd.underlying74 rfl (info_secB _ (by simpa using hD6))) rfl ⟨rfl, Hkl.out⟩
  · have dm : decide ((52 : Int) < (n2 : Int)) = false := by simp; omega
    go_wp2_with fail
    generalize hW : World.alloc _ _ = W0 at *
    have hb0 : Below w.heap.size w W0 := by rw [← hW]; exact (Below.refl _ _).alloc (Nat.le_refl _) _
    have g0 : W0.heap[w.heap.size]? = some (.cells zsec.toArray 74 (0, 0)) := by rw [← hW]; exact heap_alloc_new _ _
    have c34 : ∀ m : Bl W0, m.wr.cell? ⟨b, 34, none⟩ = some (.int .i64 (ps.length : Int)) := fun m => ((H.out.below hb0).below m.below).cells.2.2.1
    have c36 : ∀ m : Bl W0, m.wr.cell? ⟨b, 36, none⟩ = some (.int .i64 (gen : Int)) := fun m => ((H.out.below hb0).below m.below).cells.2.2.2.2.1
    have G0 := Lib.hid g0
    have HB0 := Lib.hid hb0
    clear hW g0 hb0
    refine wp_region_quiet_tailB 19 (by kernel_rfl) (by kernel_rfl) ?_
    simp only [List.take_succ_cons, List.take_zero, List.drop_succ_cons, List.drop_zero]
    iterate 16 (go_big_quiet_step ((go_at_call 23; with_reducible exact Calls.quiet_b (.mono (HP.out _) fun _ _ ⟨he, hw⟩ => ⟨he, hw ▸ Below.refl _ _⟩))))
    refine wpQuiet_of_op rfl (.agg #[.int .i64 ((ps.length : Int) + 1), .int .i64 (gen : Int), .int .i64 (k : Int), .int .i64 (M : Int), .int .i64 (n2 : Int)]) (fun w' _ => run_buildd_op 72 _ (by rfl) [(0, .int .i64 ((ps.length : Int) + 1)), (1, .int .i64 (gen : Int)), (2, .int .i64 (k : Int)), (3, .int .i64 (M : Int)), (4, .int .i64 (n2 : Int))] (by kernel_rfl) _ (builtHd _ _ _ _ _)) ?_
    simp only [Act.put, List.setIfInBounds_toArray, List.set_cons_succ, List.set_cons_zero]
    go_big_quiet_step (fail)
    refine wpQuiet_of_op rfl (.agg D.toArray) (fun w' _ => run_buildd_op 74 _ (by rfl) [(0, .agg #[.int .i64 ((ps.length : Int) + 1), .int .i64 (gen : Int), .int .i64 (k : Int), .int .i64 (M : Int), .int .i64 (n2 : Int)]), (1, .slice q.ad n2 q.cap)] (by kernel_rfl) _ (by rw [← HDe.out]; exact builtSec _ _ _ _ _ _ _ _)) ?_
    simp only [Act.put, List.setIfInBounds_toArray, List.set_cons_succ, List.set_cons_zero]
    refine wpQuiet_nil ?_
    intro m
    have HBM := Lib.hid (HB0.out.trans (m.below.mono HB0.out.size))
    have GM := Lib.hid ((m.below.block _ (lt_block G0.out)).trans G0.out)
    generalize m.wr = W1 at *
    clear m HB0 G0 c34 c36
    have hthere := there_block GM.out 0 6 (by simp [zsec])
    have hend := heap_setCells _ _ D 0 _ _ GM.out (by rw [hD6]; simp [zsec])
    rw [over_all _ _ (by rw [hD6]; rfl)] at hend
    have hkl := Kept1.mono HBM.out ((Kept1.refl w.heap.size _).setCells w.heap.size (Or.inl rfl) D 0) (Nat.le_refl _)
    have Hend := Lib.hid hend
    have Hkl := Lib.hid hkl
    have HTh := Lib.hid hthere
    clear hend hkl hthere GM HBM
    go_wp2_with (refine wpList_store_mid rfl 74 (.tmp 6) (.tmp 35) rfl w.heap.size 0 D.toArray rfl rfl (by simpa [hD6] using HTh.out) (info_secB _ (by simpa using hD6)) (all_oneCell_toArray hDone) ?_)
    exact bodyPost_ret (v := .agg D.toArray) (results_cell_row Tryd.results34 _ _ w.heap.size 74 D.toArray (0, 0) _ rfl Hend.out Tryd.underlying74 rfl (info_secB _ (by simpa using hD6))) rfl ⟨rfl, Hkl.out⟩
end Go.Proofs.YtlhfdlfbnnfjjaaDoor
namespace Go.Proofs.YtlhfdlfbnnfjjaaDoor
open Go.RowKit

set_option maxRecDepth 100000 in
theorem run_make64 (w : World) : (Instr.makeSlice 32 (.int .i64 64) (.int .i64 64)).run Tryd.prog w = .ok (.slice (some ⟨w.heap.size, 0, none⟩) 64 64) (w.alloc (.cells (z64.map B).toArray 5)) := by
  have := run_make_row' (P := Tryd.prog) 32 5 (.int .u8 0) 1 Tryd.underlying32 (by kernel_rfl) rfl .i64 .i64 64 (by omega) (by omega) w
  have e : madeCells #[.int .u8 0] 64 = (z64.map B).toArray := by
    have := toList_madeCells_one (.int .u8 0) 64
    rw [show z64.map B = List.replicate 64 (.int .u8 0) from rfl, ← this]
  rw [e] at this
  exact this
set_option maxRecDepth 100000 in
theorem wpList_make64 {ops : Array Oper} {rest : List Oper} {o : Oper} {a : Act} {w : World} {Q : Exit → Act → World → Prop} (hgd : o.guard = none) (ho : o.op = .makeSlice 32 (.const (.int .i64 64)) (.const (.int .i64 64)))
    (h : wpList Tryd.prog ops Q rest (a.put o.dst (.slice (some ⟨w.heap.size, 0, none⟩) 64 64)) (w.alloc (.cells (z64.map B).toArray 5))) : wpList Tryd.prog ops Q (o :: rest) a w := by
  refine wpList_plain hgd fun K hK => ?_
  have hrun := run_make64 w
  unfold Oper.wp
  simp [execOp, ho, Act.eval, hrun, Result.andThen]
  exact hK _ _ h
/-- k bytes c, then noughts -/
def partB (c : UInt8) (k : Nat) : List UInt8 := List.replicate k c ++ List.replicate (64 - k) 0
set_option maxRecDepth 100000 in
theorem partB_set (c : UInt8) (k : Nat) (hk : k < 64) : ((partB c k).map B).set k (B c) = (partB c (k + 1)).map B := by
  rw [← List.map_set]
  congr 1
  apply List.ext_getElem?
  intro i
  simp only [partB, List.getElem?_set, List.getElem?_append, List.getElem?_replicate, List.length_append, List.length_replicate]
  grind
set_option maxRecDepth 100000 in
theorem length_partB (c : UInt8) (k : Nat) (hk : k ≤ 64) : ((partB c k).map B).length = 64 := by simp [partB]; omega
/-- 64 times c -/
def sec64 (c : UInt8) : List UInt8 := List.replicate 64 c
set_option maxRecDepth 100000 in
theorem length_sec64 (c : UInt8) : (sec64 c).length = 64 := by simp [sec64]
end Go.Proofs.YtlhfdlfbnnfjjaaDoor
namespace Go.Proofs.YtlhfdlfbnnfjjaaDoor
open Go.RowKit

/-- 129 noughts -/
def z129 : List Value := .int .i64 0 :: (z64.map B ++ z64.map B)
set_option maxRecDepth 100000 in
theorem places_wr : ∃ fields, Tryd.prog.underlying 96 = some (.struct fields) ∧ fields.toList.mapM (fun f => (Tryd.prog.info? f.type).map fun i => (f.offset, i.size)) = some [(0, 1), (1, 64), (65, 64)] := ⟨_, Tryd.underlying96, by kernel_rfl⟩
set_option maxRecDepth 100000 in
theorem zero_wr : (Tryd.prog.info? 96).bind (·.zero) = some (.agg z129.toArray) := by kernel_rfl
set_option maxRecDepth 100000 in
theorem built_wr (r : WrR) (hb : r.before.length = 64) (ha : r.after.length = 64) : Tryd.prog.built 96 [(0, .int .i64 (r.place : Int)), (1, .agg (r.before.map B).toArray), (2, .agg (r.after.map B).toArray)] = some r.cells.toArray := by
  obtain ⟨fields, hu, hp⟩ := places_wr
  rw [built_struct _ _ fields _ _ hu zero_wr hp]
  have hb' : (r.before.map B).length = 64 := by simpa using hb
  have ha' : (r.after.map B).length = 64 := by simpa using ha
  have hz : z129.length = 129 := rfl
  unfold WrR.cells
  generalize r.before.map B = X at *
  generalize r.after.map B = Y at *
  generalize z129 = Z at *
  show Instr.fill _ Z.toArray _ = _
  have l1 : (over Z 0 [Value.int .i64 (r.place : Int)]).length = 129 := by rw [length_over _ _ _ (by simp [hz]), hz]
  have l2 : (over (over Z 0 [Value.int .i64 (r.place : Int)]) 1 X).length = 129 := by rw [length_over _ _ _ (by rw [l1, hb']; omega), l1]
  rw [fill_cons _ Z 0 _ [.int .i64 (r.place : Int)] rfl 0 rfl (by simp [hz]), fill_cons _ _ 1 _ X rfl 1 (by simp [hb']) (by rw [l1, hb']; omega), fill_cons _ _ 2 _ Y rfl 65 (by simp [ha']) (by rw [l2, ha']; omega)]
  simp only [Instr.fill]
  congr 2
  apply List.ext_getElem?
  intro i
  simp only [over, List.getElem?_append, List.length_take, List.getElem?_take, List.getElem?_drop, List.length_cons, List.length_nil, List.length_append, List.length_drop, List.cons_append, List.nil_append, List.getElem?_cons]
  grind

set_option maxRecDepth 100000 in
theorem info_wr (n : Nat) (h : n = 129) : (Tryd.prog.info? 96).map (·.size) = some n := by subst h; kernel_rfl
set_option maxRecDepth 100000 in
theorem zero_wr' : ∀ w, (zeroValue 96).run Tryd.prog w = .ok (.agg z129.toArray) w := fun _ => by kernel_rfl
set_option maxRecDepth 100000 in
theorem size_wr (w : World) : (sizeOf 96).run Tryd.prog w = .ok 129 w := by kernel_rfl
set_option maxRecDepth 100000 in
theorem length_cells (r : WrR) (hb : r.before.length = 64) (ha : r.after.length = 64) : r.cells.length = 129 := by simp [WrR.cells]; omega
set_option maxRecDepth 100000 in
theorem cellsW_snoc (ws : List WrR) (r : WrR) : cellsW (ws ++ [r]) = cellsW ws ++ r.cells := by simp [cellsW]
set_option maxRecDepth 100000 in
theorem dfold_all (L A : List Value) (h : A.length = L.length) : List.foldl (fun (cs : Array Value) (x : Value × Nat) => cs.setIfInBounds x.snd x.fst) A.toArray L.zipIdx = L.toArray := by
  have e := fold_over 0 L 0 A (by omega)
  simp only [Nat.zero_add] at e
  rw [e]
  simp [over, List.drop_of_length_le (Nat.le_of_eq h)]
set_option maxRecDepth 100000 in
theorem run_build1d {P : Program} (w : World) (t elem : TypeId) (L Z : List Value) (hu : P.underlying t = some (.slice elem)) (hsz : ∀ w, (sizeOf elem).run P w = .ok L.length w) (hz : ∀ w, (zeroValue elem).run P w = .ok (.agg Z.toArray) w)
    (hpos : 0 < L.length) (hle : L.length ≤ 16777216) :
    (Instr.buildSlice t 1 #[(0, .agg L.toArray)]).run P w = .ok (.slice (some ⟨w.heap.size, 0, none⟩) 1 1) (w.alloc (.cells L.toArray elem)) := by
  have hf := fun (f : Nat → Value) => dfold_all L ((Array.range L.length).map f).toList (by simp)
  simp only [Array.toArray_toList] at hf
  simp [Instr.buildSlice, run_underlying hu, hsz, hz, Instr.fill, show ¬ 16777216 < L.length by omega, show ¬ L.length = 0 by omega, Value.cells, go_sem]
  rw [hf]
set_option maxRecDepth 100000 in
theorem run_build1d_op {P : Program} {o : Oper} {a : Act} (t elem : TypeId) (x : Operand) (ho : o.op = .buildSlice t 1 #[(0, x)]) (L Z : List Value) (hx : a.eval x = .agg L.toArray) (hu : P.underlying t = some (.slice elem))
    (hsz : ∀ w, (sizeOf elem).run P w = .ok L.length w) (hz : ∀ w, (zeroValue elem).run P w = .ok (.agg Z.toArray) w) (hpos : 0 < L.length) (hle : L.length ≤ 16777216) (w : World) :
    (execOp a.eval o).run P w = .ok (.value (.slice (some ⟨w.heap.size, 0, none⟩) 1 1)) (w.alloc (.cells L.toArray elem)) := by
  simp [execOp, ho, hx, run_build1d w t elem L Z hu hsz hz hpos hle, Result.andThen]

set_option maxRecDepth 100000 in
/-- one more write waits: the row lies where it lay, or in a new block -/
theorem step_append_w {ops : Array Oper} {o : Oper} {a : Act} {w : World} {K : Act → World → Prop} {Q : Exit → Act → World → Prop} {E : Prop} (hgd : o.guard = none) (s x : Operand)
    (ho : o.op = .call { callee := .builtin .append, args := #[s, x], argTypes := #[52, 52] })
    (N : Nat) (ws : List WrR) (r : WrR) (v : Value) (hs : a.eval s = v) (hown : w.ownsRow N 96 129 v ws.length (cellsW ws)) (g : Nat) (hx : a.eval x = .slice (some ⟨g, 0, none⟩) 1 1)
    (hsrc : w.heap[g]? = some (.cells r.cells.toArray 96 (0, 0))) (hl : r.cells.length = 129) (hlen : ws.length ≤ 100000) (hbase : N ≤ w.heap.size)
    (k : ∀ g' cap' w', w'.ownsRow N 96 129 (.slice (some ⟨g', 0, none⟩) (ws.length + 1) cap') (ws.length + 1) (cellsW (ws ++ [r])) → w.grownBy w' v.ownBlock → (v.ownBlock = some g' ∨ g' = w.heap.size) →
      K (a.put o.dst (.slice (some ⟨g', 0, none⟩) (ws.length + 1) cap')) w') : if Region.wanted o (yielded ops a.tmps) = true then Oper.wp Tryd.prog o a w K Q else E := by
  obtain ⟨i, hi, hz, hsz, hby⟩ := info_parts (show (Tryd.prog.info? 96).map (fun i => (i.zero, i.size, i.bytes)) = some (some (.agg z129.toArray), 129, 136) by kernel_rfl)
  have hu := Tryd.underlying52
  have hnews : ∀ j u, r.cells[j]? = some u → w.cell? ((⟨g, 0, none⟩ : Addr).add j) = some u := by
    intro j u hj
    rw [Addr.add_mid, Nat.zero_add, cell_block hsrc]
    simpa using hj
  have hl7 : r.cells.length = 1 * 129 := by omega
  obtain ⟨v', w', hr, h2, h3, _⟩ := run_append_own_wide (P := Tryd.prog) w N 52 o.type 96 i _ 129 136 hu hi hz hsz hby rfl (by omega) v ws.length (cellsW ws) hown ⟨g, 0, none⟩ 1 1 r.cells hl7 hnews (one_wr r) (by unfold maxLen; omega) (by omega) hbase
  have hblk : v'.ownBlock = v.ownBlock ∨ v'.ownBlock = some w.heap.size := by
    rcases hown.2 with ⟨rfl, hn⟩ | ⟨g', cap, cur, rfl, hbg, hg, hnc, hcm, hcs, htake⟩
    · have e := run_append_nil (P := Tryd.prog) w 52 o.type 96 i _ hu hi hz ⟨g, 0, none⟩ 1 1 r.cells (by rw [hsz, hl7]) hnews (by omega) (by omega) (by rw [hby]; omega)
      rw [hr] at e
      injection e with e1 e2
      exact .inr (by rw [e1]; rfl)
    · by_cases hroom : ws.length + 1 ≤ cap
      · have e := run_append_room (P := Tryd.prog) w 52 o.type 96 i hu hi g' ws.length cap cur hg ⟨g, 0, none⟩ 1 1 r.cells (by rw [hsz, hl7]) hnews (one_wr r) hroom (by rw [hsz, hl7, hcs]; omega)
        rw [hr] at e
        injection e with e1 e2
        exact .inl (by rw [e1]; rfl)
      · have holds : ∀ j u, (cellsW ws)[j]? = some u → w.cell? ((⟨g', 0, none⟩ : Addr).add j) = some u := hown.cells (g := g') rfl
        have e := run_append_grow (P := Tryd.prog) w 52 o.type 96 i _ hu hi hz ⟨g', 0, none⟩ ws.length cap (cellsW ws) (by rw [hsz]; exact hown.1) holds ⟨g, 0, none⟩ 1 1 r.cells (by rw [hsz, hl7]) hnews (by omega) (by omega) (growslice_fits_wide (by omega) (by rw [hby]; omega))
        rw [hr] at e
        injection e with e1 e2
        exact .inr (by rw [e1]; rfl)
  rw [← cellsW_snoc] at h2
  obtain ⟨g', cap', rfl⟩ := ownsRow_succ h2
  rw [if_pos (by simp [Region.wanted, hgd])]
  unfold Oper.wp execOp
  simp only [ho, resolve, invoke, builtin, Sem.run_bind, Sem.run_pure, Result.andThen_ok, List.map_toArray, List.map_cons, List.map_nil, hs, hx, hr]
  refine k g' cap' w' h2 h3 ?_
  rcases hblk with h | h
  · exact .inl h.symm
  · injection h with h; exact .inr h
end Go.Proofs.YtlhfdlfbnnfjjaaDoor
