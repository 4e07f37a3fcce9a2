/- What a program that does nothing doesn't answer; Guarded operations that only read; lists of a size that is looked at; Records of one's own: bytes.Clone, cloned. -/
import Derived.Test.YtlhfdlfbnnfjjaaDoorJ24
import Derived.Lib.SliceRun
namespace Go.Proofs.YtlhfdlfbnnfjjaaDoor
open Go.RowKit

set_option maxRecDepth 100000 in
theorem built32 : Tryd.prog.built 39 [] = some (z32.map B).toArray := by kernel_rfl
set_option maxRecDepth 100000 in
theorem reflink_a (W : World) (g1 : Nat) (h1 : W.heap[g1]? = some (.cells (([97] : List UInt8).map B).toArray 5 (1, 2))) (h0 : 0 < W.heap.size) :
    Calls Tryd.prog 30 #[.agg (z32.map B).toArray, .slice (some ⟨g1, 0, none⟩) 1 1] W fun e w' => e = .returned (.agg ((lnk z32 [97]).map B).toArray) ∧ Below W.heap.size W w' :=
  refLink_any W z32 rfl ⟨some ⟨g1, 0, none⟩, g1, 0, 1, [97]⟩ (partNew (l := [97]) h1) (fun h => by cases h) h0 (by simp)

end Go.Proofs.YtlhfdlfbnnfjjaaDoor
namespace Go.Proofs.YtlhfdlfbnnfjjaaDoor
open Go.RowKit

section
variable {P : Program} {ops : Array Oper} {C : World → Prop}
set_option maxRecDepth 100000 in
theorem wpQuiet_load_midG {Q : Act → Prop} {rest : List Oper} {o : Oper} {a : Act} (hw : Region.wanted o (yielded ops a.tmps) = true) (ty : TypeId) (x : Operand) (ho : o.op = .load ty x)
    (b off : Nat) (hx : a.eval x = .pointer (some ⟨b, off, none⟩)) (cs : List Value) (d : TypeDesc) (hc : ∀ w', C w' → w'.rangeAt b off cs)
    (hu : P.underlying ty = some d) (hd : d.isRow = true) (hi : (P.info? ty).map (·.size) = some cs.length)
    (h : wpQuiet P ops C Q rest (a.put o.dst (.agg cs.toArray))) : wpQuiet P ops C Q (o :: rest) a := by
  refine BigFrame.wpQuiet_want hw fun K hK => ⟨.agg cs.toArray, fun w' hw' => ?_, hK _ h⟩
  unfold Oper.quietAt execOp
  simp only [ho, hx, Instr.loadAt, Instr.sureAddr, Sem.run_bind, Sem.run_pure, Result.andThen_ok, run_loadVar_mid w' b off ty cs d (hc w' hw') hu hd hi]
  exact ⟨rfl, rfl⟩
set_option maxRecDepth 100000 in
theorem wpQuiet_of_opG {Q : Act → Prop} {rest : List Oper} {o : Oper} {a : Act} (hw : Region.wanted o (yielded ops a.tmps) = true) (v : Value) (hv : ∀ w', C w' → (execOp a.eval o).run P w' = .ok (.value v) w')
    (h : wpQuiet P ops C Q rest (a.put o.dst v)) : wpQuiet P ops C Q (o :: rest) a := by
  refine BigFrame.wpQuiet_want hw fun K hK => ⟨v, fun w' hw' => ?_, hK _ h⟩
  unfold Oper.quietAt
  rw [hv w' hw']
  exact ⟨rfl, rfl⟩
end

set_option maxRecDepth 100000 in
/-- a store, as a run -/
theorem run_store0 {P : Program} (w : World) (b : Nat) (L : List Value) (ht : w.there b 0 L.length) (h1 : ∀ v ∈ L, v.oneCell' = true) : (storeCells ⟨b, 0, none⟩ L).run P w = .ok () (w.setCells b 0 L) := by
  have := run_storeCells_cells (P := P) b 0 L 0 w (fun j hj => by simpa using (ht j hj).1) (fun j hj => by simpa using (ht j hj).2) h1
  simpa using this
set_option maxRecDepth 100000 in
theorem fewS_mem : ∀ (ps : List Part) (p : Part), p ∈ ps → min p.l.length 10000 ≤ fewS ps
  | q :: ps, p, h => by
    have e : fewS (q :: ps) = min q.l.length 10000 + fewS ps := by simp [fewS]
    rcases List.mem_cons.1 h with rfl | h
    · omega
    · have := fewS_mem ps p h; omega
set_option maxRecDepth 100000 in
theorem few_small (ps : List Part) (n : Nat) (hn : n ≤ 100) (most : Nat) (hmo : most ≤ 1000) (hf : (decide ((ps.length : Int) ≤ n) && decide ((fewS (ps.take 200) : Int) ≤ most)) = true) : ps.length ≤ n ∧ ∀ p ∈ ps, p.l.length ≤ most := by
  rw [Bool.and_eq_true] at hf
  have hl : ps.length ≤ n := by have := of_decide_eq_true hf.1; omega
  have hs : fewS ps ≤ most := by have := of_decide_eq_true hf.2; rw [List.take_of_length_le (by omega)] at this; omega
  exact ⟨hl, fun p hp => by have := fewS_mem ps p hp; omega⟩
end Go.Proofs.YtlhfdlfbnnfjjaaDoor
namespace Go.Proofs.YtlhfdlfbnnfjjaaDoor
open Go.RowKit

set_option maxRecDepth 100000 in
/-- a copy of a part lies in new memory -/
theorem clone_any (w : World) (p : Part) (hp : p.In w) (hl : p.l.length ≤ 5000) :
    Calls Tryd.prog 26 #[.slice p.ad p.l.length p.cap] w fun e w' => ∃ q : Part, e = .returned (.slice q.ad q.l.length q.cap) ∧ q.l = p.l ∧ q.In w' ∧ (q.ad = none → q.cap = 0) ∧ (q.l ≠ [] → w.heap.size ≤ q.g) ∧ Below w.heap.size w w' := by
  have q22 : ∀ (w : World) (a : Option Addr) (n c n' c' : Nat), (binOp .eql 32 (.slice a n c) (.slice none n' c')).run Tryd.prog w = .ok (.bool a.isNone) w := fun w a n c n' c' => Lib.run_eql_slice_nil w _ _ a n c n' c' Tryd.underlying32
  obtain ⟨i0, hi, hz0, hz1, hz2⟩ := info_parts (show (Tryd.prog.info? 5).map (fun i => (i.zero, i.size, i.bytes)) = some (some (.int .u8 0), 1, 1) by kernel_rfl)
  have h0 : 0 < w.heap.size := Nat.lt_of_le_of_lt (Nat.zero_le _) hp.lt
  cases had : p.ad with
  | none =>
    have hl0 : p.l = [] := by
      by_cases h : p.l = []
      · exact h
      · have := hp.bytes.at' h
        rw [had] at this; cases this
    have HL0 := Lib.hid hl0
    clear hl0 hp had
    go_enter Tryd.func26, Tryd.ntmps26
    go_wp2
    go_ret
    exact ⟨⟨none, 0, 0, 0, []⟩, rfl, HL0.out.symm, ⟨⟨fun h => absurd rfl h, fun j hj => by cases hj⟩, Nat.le_refl _, h0⟩, fun _ => rfl, fun h => absurd rfl h, Below.refl _ _⟩
  | some ad =>
    have HP := Lib.hid hp
    have HAD := Lib.hid had
    clear hp had
    have hsrc : ∀ (A : Obj) (j : Nat) (u : Value), (p.l.map B)[j]? = some u → (w.alloc A).cell? (ad.add j) = some u := by
      intro A j u hu
      obtain ⟨hj, e⟩ := List.getElem?_eq_some_iff.1 hu
      have hj' : j < p.l.length := by simpa using hj
      have hne : p.l ≠ [] := by intro e; rw [e] at hj'; cases hj'
      have h1 := HP.out.bytes.at' hne
      rw [HAD.out] at h1
      cases h1
      have hc := HP.out.bytes.cell j hj'
      refine Lib.cell?_alloc_some _ ?_
      rw [Addr.add_mid, hc, ← e]; simp
    have HS := Lib.hid hsrc
    clear hsrc
    go_enter Tryd.func26, Tryd.ntmps26
    go_wp2_with (at_builtin; refine wpList_append_own _ rfl _ _ 32 rfl w.heap.size 5 i0 (.int .u8 0) 1 1 Tryd.underlying32 hi hz0 hz1 hz2 rfl (by decide) _ _ _ rfl (World.ownsRow_made w #[] 0 (Nat.le_refl _) (Nat.zero_le _) rfl) ad p.l.length p.cap (p.l.map B) rfl ?qc1 ?qc2 ?qc3 ?qc4 ?qc5 ?qc6 ?_)
    case qc1 => simp
    case qc2 => exact HS.out _
    case qc3 => intro u hu; obtain ⟨x, _, rfl⟩ := List.mem_map.1 hu; rfl
    case qc4 => unfold maxLen; omega
    case qc5 => omega
    case qc6 => simp
    intro v' w1 hown hgrow hnil
    have hown' : w1.ownsRow w.heap.size 5 1 v' p.l.length (p.l.map B) := by simpa using hown
    have hb : Below w.heap.size w w1 := ((Below.refl _ w).alloc (Nat.le_refl _) _).grown hgrow (by simp) (by intro k hk; simp [Value.ownBlock] at hk; omega)
    obtain ⟨q, hqv, hqin, hql, hqn, _, hqg⟩ := part_of_own hown' (by have := hb.size; omega)
    have HQG : Hid (q.l ≠ [] → w.heap.size ≤ q.g) := Lib.hid fun hne => by
      have h1 := hqin.bytes.at' hne
      have h2 : v'.ownBlock = some q.g := by rw [← hqv]; unfold Part.val; rw [h1]; rfl
      exact (hown'.lt _ h2).1
    unfold Part.val at hqv
    have HB := Lib.hid hb
    have HQ := Lib.hid hqin
    have HQL := Lib.hid hql
    have HQN := Lib.hid hqn
    have HQV := Lib.hid hqv
    clear hown hown' hgrow hnil hb hqin hql hqn hqv
    go_wp2
    go_ret
    exact ⟨q, by rw [HQV.out]; rfl, HQL.out, HQ.out, HQN.out, HQG.out, HB.out⟩

set_option maxRecDepth 100000 in
theorem Part.In.kept {b : Nat} {w w' : World} {p : Part} (h : p.In w) (hk : Kept1 b w w') (hb : p.l ≠ [] → p.g ≠ b) : p.In w' := by
  refine ⟨⟨h.bytes.at', fun j hj => ?_⟩, h.cap, Nat.lt_of_lt_of_le h.lt hk.size⟩
  have hne : p.l ≠ [] := by intro e; rw [e] at hj; cases hj
  rw [hk.cell (by exact h.lt) (hb hne)]
  exact h.bytes.cell j hj
set_option maxRecDepth 100000 in
theorem PartsIn.kept {b : Nat} {w w' : World} {ap : Option Addr} {gp op : Nat} {ps : List Part} (h : PartsIn w ap gp op ps) (hk : Kept1 b w w') (hg : gp ≠ b) (hb : ∀ p ∈ ps, p.l ≠ [] → p.g ≠ b) : PartsIn w' ap gp op ps :=
  ⟨h.at', fun i hi => by rw [hk.cell (by exact h.lt) (by exact hg)]; exact h.cell i hi, Nat.lt_of_lt_of_le h.lt hk.size, fun p hp => (h.parts p hp).kept hk (hb p hp)⟩
/-- nil slices -/
def nils (n : Nat) : List Value := List.replicate n (.slice none 0 0)
set_option maxRecDepth 100000 in
theorem run_make_slices {o : Oper} {a : Act} (x : Operand) (ho : o.op = .makeSlice 31 x x) (n : Nat) (hx : a.eval x = .int .i64 (n : Int)) (hn : n ≤ 100000) (w : World) :
    (execOp a.eval o).run Tryd.prog w = .ok (.value (.slice (some ⟨w.heap.size, 0, none⟩) n n)) (w.alloc (.cells (nils n).toArray 32)) := by
  obtain ⟨i, hi, hz, hs, hb⟩ := info_parts (show (Tryd.prog.info? 32).map (fun i => (i.zero, i.size, i.bytes)) = some (some (.slice none 0 0), 1, 24) by kernel_rfl)
  have hr := run_make (P := Tryd.prog) w 31 32 i (.slice none 0 0) Tryd.underlying31 hi hz .i64 .i64 n n (by omega) (Int.le_refl _) (by rw [hb]; omega) (by omega)
  have hm : madeCells (Value.slice none 0 0).cells n = (nils n).toArray := by
    apply Array.ext
    · simp [madeCells, nils]
    · intro k h1 h2
      simp [madeCells, nils, Value.cells, Nat.mod_one]
  rw [hs, Int.toNat_natCast, Nat.mul_one, hm] at hr
  unfold execOp
  simp only [ho, hx, hr, Sem.run_bind, Result.andThen_ok]
  rfl
set_option maxRecDepth 100000 in
theorem wpList_make_slices {ops : Array Oper} {rest : List Oper} {o : Oper} {a : Act} {w : World} {Q : Exit → Act → World → Prop} (hgd : o.guard = none) (x : Operand) (ho : o.op = .makeSlice 31 x x) (n : Nat) (hx : a.eval x = .int .i64 (n : Int)) (hn : n ≤ 100000)
    (h : wpList Tryd.prog ops Q rest (a.put o.dst (.slice (some ⟨w.heap.size, 0, none⟩) n n)) (w.alloc (.cells (nils n).toArray 32))) : wpList Tryd.prog ops Q (o :: rest) a w :=
  wpList_plain hgd fun K hK => by
    unfold Oper.wp
    rw [run_make_slices x ho n hx hn w]
    exact hK _ _ h
/-- what the loop of cloned keeps -/
structure CloRel (w : World) (ps : List Part) (k : Nat) (qs : List Part) (wr : World) : Prop where
  row : wr.heap[w.heap.size]? = some (.cells (qs.map Part.val ++ nils (ps.length - k)).toArray 32 (0, 0))
  len : qs.length = k
  texts : txs qs = txs (ps.take k)
  parts : ∀ q ∈ qs, q.In wr
  nil : ∀ q ∈ qs, q.ad = none → q.cap = 0
  new : ∀ q ∈ qs, q.l ≠ [] → w.heap.size < q.g
  below : Below w.heap.size w wr
set_option maxRecDepth 100000 in
theorem CloRel.step {w wr w2 : World} {ps qs : List Part} {k : Nat} (h : CloRel w ps k qs wr) (hk : k < ps.length) (q : Part) (hq : q.l = ps[k].l) (hin : q.In w2) (hn : q.ad = none → q.cap = 0) (hg : q.l ≠ [] → wr.heap.size ≤ q.g) (hb : Below wr.heap.size wr w2) :
    CloRel w ps (k + 1) (qs ++ [q]) (w2.setCell ⟨w.heap.size, k, none⟩ (.slice q.ad q.l.length q.cap)) := by
  have hG := lt_block h.row
  have hrow := (hb.block _ hG).trans h.row
  have hk1 : Kept1 w.heap.size w2 (w2.setCell ⟨w.heap.size, k, none⟩ (.slice q.ad q.l.length q.cap)) := (Kept1.refl w.heap.size w2).setCell ⟨w.heap.size, k, none⟩ (Or.inl rfl) _
  refine ⟨?_, by simp [h.len], ?_, ?_, ?_, ?_, Kept1.mono (h.below.trans (hb.mono h.below.size)) hk1 (Nat.le_refl _)⟩
  · rw [heap_setCell_same _ _ _ _ _ _ hrow, List.setIfInBounds_toArray, List.set_append_right _ _ (by simp [h.len])]
    have e : nils (ps.length - k) = .slice none 0 0 :: nils (ps.length - (k + 1)) := by
      unfold nils
      rw [show ps.length - k = (ps.length - (k + 1)) + 1 by omega, List.replicate_succ]
    rw [List.length_map, h.len, Nat.sub_self, e, List.set_cons_zero, List.map_append, List.append_assoc]
    rfl
  · have ht := h.texts
    unfold txs at *
    rw [List.take_succ_eq_append_getElem hk, List.map_append, List.map_append, ht]
    simp [hq]
  · intro x hx
    rcases List.mem_append.1 hx with hx | hx
    · exact ((h.parts x hx).below hb).kept hk1 (fun hne => by have := h.new x hx hne; omega)
    · obtain rfl := List.mem_singleton.1 hx
      exact hin.kept hk1 (fun hne => by have := hg hne; omega)
  · intro x hx
    rcases List.mem_append.1 hx with hx | hx
    · exact h.nil x hx
    · obtain rfl := List.mem_singleton.1 hx; exact hn
  · intro x hx hne
    rcases List.mem_append.1 hx with hx | hx
    · exact h.new x hx hne
    · obtain rfl := List.mem_singleton.1 hx
      have := hg hne; omega
end Go.Proofs.YtlhfdlfbnnfjjaaDoor
