/- Small calls: bytes compared, lists of a size that is looked at, lists compared; The document's fingerprint of a list; Drawn regions in which all but one operation may be taken first: the moves. No program is named here. -/
import Derived.Test.YtlhfdlfbnnfjjaaDoorJ23
import Derived.Test.YtlhfdlfbnnfjjaaDoorJ01
import Derived.OrdersHeld
namespace Go.Proofs.YtlhfdlfbnnfjjaaDoor
open Go.RowKit

/-- bytes as a text -/
def tx (l : List UInt8) : ByteArray := ⟨l.toArray⟩
set_option maxRecDepth 100000 in
theorem toList_tx (l : List UInt8) : (tx l).toList = l := by rw [ByteArray.toList_eq]; rfl
set_option maxRecDepth 100000 in
theorem conv_part {w : World} {p : Part} (h : p.In w) : (convert 32 9 (.slice p.ad p.l.length p.cap)).run Tryd.prog w = .ok (.string (tx p.l)) w := by
  obtain ⟨ad, g, o, cap, l⟩ := p
  dsimp only
  by_cases hl : l = []
  · subst hl
    rw [show ([] : List UInt8).length = 0 from rfl, run_convert_bytes_string w 32 9 5 _ 0 cap Tryd.underlying32 Tryd.underlying5 Tryd.underlying9]
    cases ad <;> simp [Conv.bytesToString]
    all_goals rfl
  · have hb := h.bytes
    have had : ad = some ⟨g, o, none⟩ := hb.at' hl
    subst had
    exact run_convert_bytes_back (P := Tryd.prog) w 32 9 5 ⟨g, o, none⟩ cap l Tryd.underlying32 Tryd.underlying5 Tryd.underlying9 (fun j hj => by rw [Addr.add_mid]; exact hb.cell j hj)

/-- the texts of a list -/
def txs (ps : List Part) : List (List UInt8) := ps.map (·.l)
set_option maxRecDepth 100000 in
theorem txs_take_succ (ps qs : List Part) (k : Nat) (h1 : k < ps.length) (h2 : k < qs.length) (h : txs (ps.take k) = txs (qs.take k)) (he : ps[k].l = qs[k].l) : txs (ps.take (k + 1)) = txs (qs.take (k + 1)) := by
  unfold txs at *
  rw [List.take_succ_eq_append_getElem h1, List.take_succ_eq_append_getElem h2, List.map_append, List.map_append, h]
  simp [he]
set_option maxRecDepth 100000 in
theorem txs_ne (ps qs : List Part) (k : Nat) (h1 : k < ps.length) (h2 : k < qs.length) (he : ps[k].l ≠ qs[k].l) : txs ps ≠ txs qs := fun h => he (by
  have := congrArg (fun l => l[k]?) h
  simpa [txs, h1, h2] using this)
set_option maxRecDepth 100000 in
set_option maxHeartbeats 400000 in
theorem same_any (w : World) (ps qs : List Part) (ap aq : Option Addr) (gp op cp gq oq cq : Nat) (hp : PartsIn w ap gp op ps) (hq : PartsIn w aq gq oq qs) (hm : ps.length ≤ maxLen) (_ : qs.length ≤ maxLen) :
    Calls Tryd.prog 15 #[.slice ap ps.length cp, .slice aq qs.length cq] w fun e w' => e = .returned (.bool (decide (txs ps = txs qs))) ∧ Below w.heap.size w w' := by
  unfold maxLen at hm
  have HP := Lib.hid hp
  have HQ := Lib.hid hq
  clear hp hq
  by_cases hlen : ps.length = qs.length
  · go_enter Tryd.func15, Tryd.ntmps15
    rw [← hlen]
    go_wp2_with fail
    go_loopw [5] (fun i wr => ∃ k : Nat, k ≤ ps.length ∧ i = .int .i64 k ∧ txs (ps.take k) = txs (qs.take k) ∧ Below w.heap.size w wr) (fun i _ => ps.length - (intOf i).toNat)
    case atStart => exact ⟨0, by omega, rfl, rfl, Below.refl _ _⟩
    case round =>
      obtain ⟨k, hk, rfl, hs, hb⟩ := hrel
      have HS := Lib.hid hs
      clear hs
      by_cases hlt : k < ps.length
      · have hd : decide ((k : Int) < (ps.length : Int)) = true := by simp; omega
        have hlt2 : k < qs.length := by omega
        obtain rfl := HP.out.at' (by intro e; rw [e] at hlt; cases hlt)
        obtain rfl := HQ.out.at' (by intro e; rw [e] at hlt2; cases hlt2)
        have HC1 : Hid (∀ W : World, Below wr.heap.size wr W → W.cell? ⟨gp, op + k, none⟩ = some (.slice ps[k].ad ps[k].l.length ps[k].cap) ∧ (convert 32 9 (.slice ps[k].ad ps[k].l.length ps[k].cap)).run Tryd.prog W = .ok (.string (tx ps[k].l)) W) := Lib.hid fun W hW => by
          have hbW := hb.trans (hW.mono hb.size)
          exact ⟨by rw [hbW.cell (by exact HP.out.lt), HP.out.cell k hlt]; rfl, conv_part ((HP.out.parts ps[k] (List.getElem_mem hlt)).below hbW)⟩
        have HC2 : Hid (∀ W : World, Below wr.heap.size wr W → W.cell? ⟨gq, oq + k, none⟩ = some (.slice qs[k].ad qs[k].l.length qs[k].cap) ∧ (convert 32 9 (.slice qs[k].ad qs[k].l.length qs[k].cap)).run Tryd.prog W = .ok (.string (tx qs[k].l)) W) := Lib.hid fun W hW => by
          have hbW := hb.trans (hW.mono hb.size)
          exact ⟨by rw [hbW.cell (by exact HQ.out.lt), HQ.out.cell k hlt2]; rfl, conv_part ((HQ.out.parts qs[k] (List.getElem_mem hlt2)).below hbW)⟩
        have HT := Lib.hid (fun he => txs_take_succ ps qs k hlt hlt2 HS.out he)
        have HN := Lib.hid (fun he => txs_ne ps qs k hlt hlt2 he)
        have e1 := toList_tx ps[k].l
        have e2 := toList_tx qs[k].l
        generalize ps[k] = p at *
        generalize qs[k] = q at *
        obtain ⟨b, hbb⟩ : ∃ b, (p.l == q.l) = b := ⟨_, rfl⟩
        have hbe : ((tx p.l).toList == (tx q.l).toList) = b := by rw [e1, e2]; exact hbb
        have HBB := Lib.hid hbb
        generalize tx p.l = S at *
        generalize tx q.l = T at *
        have HB := Lib.hid hb
        clear e1 e2 hbb hb
        go_wp2_with fail
        refine wp_region_quietB (by kernel_rfl) (by kernel_rfl) ?_
        iterate 3 (go_big_quiet_step (fail))
        refine wpQuiet_of_op rfl (.slice p.ad p.l.length p.cap) (fun w' ⟨m, hw'⟩ => by subst hw'; have c := (HC1.out _ m.below).1; go_simp) ?_
        simp only [Act.put, List.setIfInBounds_toArray, List.set_cons_succ, List.set_cons_zero]
        refine wpQuiet_of_op rfl (.string S) (fun w' ⟨m, hw'⟩ => by subst hw'; have c := (HC1.out _ m.below).2; go_simp) ?_
        simp only [Act.put, List.setIfInBounds_toArray, List.set_cons_succ, List.set_cons_zero]
        iterate 3 (go_big_quiet_step (fail))
        refine wpQuiet_of_op rfl (.slice q.ad q.l.length q.cap) (fun w' ⟨m, hw'⟩ => by subst hw'; have c := (HC2.out _ m.below).1; go_simp) ?_
        simp only [Act.put, List.setIfInBounds_toArray, List.set_cons_succ, List.set_cons_zero]
        refine wpQuiet_of_op rfl (.string T) (fun w' ⟨m, hw'⟩ => by subst hw'; have c := (HC2.out _ m.below).2; go_simp) ?_
        simp only [Act.put, List.setIfInBounds_toArray, List.set_cons_succ, List.set_cons_zero]
        go_big_quiet_step (fail)
        refine wpQuiet_nil ?_
        intro m
        have HBM := Lib.hid (HB.out.trans (m.below.mono HB.out.size))
        generalize m.wr = W1 at *
        clear m HC1 HC2 HB
        cases b
        · go_wp2_with fail
          go_ret
          exact ⟨ret_bool' (by rw [decide_eq_false (HN.out (by simpa using HBB.out))]), HBM.out⟩
        · go_wp2_with fail
          go_roundw
          case rel => exact ⟨k + 1, by omega, by go_num, HT.out (by simpa using HBB.out), HBM.out⟩
          case measure => simp [intOf]; omega
      · have hd : decide ((k : Int) < (ps.length : Int)) = false := by simp; omega
        obtain rfl : k = ps.length := by omega
        have hsame : txs ps = txs qs := by have := HS.out; rwa [List.take_length, hlen, List.take_length] at this
        have HSM := Lib.hid hsame
        have HB := Lib.hid hb
        clear hsame hb
        go_wp2_with fail
        go_ret
        exact ⟨ret_bool' (by rw [decide_eq_true HSM.out]), HB.out⟩
  · have hne : txs ps ≠ txs qs := fun h => hlen (by have := congrArg List.length h; simpa [txs] using this)
    have HNE := Lib.hid hne
    have hd : ((ps.length : Int) != (qs.length : Int)) = true := by simp; omega
    clear hne
    go_enter Tryd.func15, Tryd.ntmps15
    go_wp2_with fail
    go_ret
    exact ⟨ret_bool' (by rw [decide_eq_false HNE.out]), Below.refl _ _⟩
end Go.Proofs.YtlhfdlfbnnfjjaaDoor
namespace Go.Proofs.YtlhfdlfbnnfjjaaDoor
open Go.RowKit

/-- what the loop over records keeps -/
structure HashRel (w : World) (ps : List Part) (k : Nat) (wr : World) : Prop where
  at' : wr.heap[w.heap.size + 1]? = some (.cells ((folded z32 (ps.take k)).map B).toArray 39 (0, 0))
  res : wr.heap[w.heap.size]? = some (.cells (z32.map B).toArray 39 (0, 0))
  below : Below w.heap.size w wr
set_option maxRecDepth 100000 in
theorem zeroHashV : ∀ w, (zeroValue 39).run Tryd.prog w = .ok (.agg (z32.map B).toArray) w := fun _ => by kernel_rfl
set_option maxRecDepth 100000 in
theorem zeroHashV' : ∀ w, (zeroValue 40).run Tryd.prog w = .ok (.agg (z32.map B).toArray) w := fun _ => by kernel_rfl
set_option maxRecDepth 100000 in
theorem one_bytes (P : List UInt8) : ∀ v ∈ P.map B, v.oneCell' = true := by intro v hv; obtain ⟨x, _, rfl⟩ := List.mem_map.1 hv; rfl
set_option maxRecDepth 100000 in
set_option maxHeartbeats 1000000 in
theorem refHash_any (w : World) (ps : List Part) (ap : Option Addr) (gp op cp : Nat) (hp : PartsIn w ap gp op ps) (hnil : ∀ p ∈ ps, p.ad = none → p.cap = 0) (ht : 0 < w.heap.size) (hl : ∀ p ∈ ps, p.l.length ≤ 5000) (hm : ps.length ≤ 1000) :
    Calls Tryd.prog 18 #[.slice ap ps.length cp] w fun e w' => e = .returned (.agg ((folded z32 ps).map B).toArray) ∧ Below w.heap.size w w' := by
  have HP := Lib.hid hp
  have HL := Lib.hid hl
  have HNI := Lib.hid hnil
  have hz := zeroHashV
  have hZ32 : (z32.map B).length = 32 := rfl
  have hst : ∀ W : World, W.heap[w.heap.size + 1]? = some (.cells (z32.map B).toArray 39 (0, 0)) → W.heap[w.heap.size]? = some (.cells (z32.map B).toArray 39 (0, 0)) → Below w.heap.size w W → HashRel w ps 0 W := fun W h1 h2 h3 => ⟨h1, h2, h3⟩
  clear hp hl hnil
  have HST := Lib.hid hst
  clear hst
  generalize hZZ : z32.map B = Z at *
  have HZZ := Lib.hid hZZ
  clear hZZ
  go_enter Tryd.func18, Tryd.ntmps18
  go_wp2_with fail
  generalize hW : World.alloc _ _ = W0 at *
  have R0 : HashRel w ps 0 W0 := by
    refine HST.out W0 ?_ ?_ ?_
    · rw [← hW]; exact heap_alloc2_new _ _ _
    · rw [← hW, Below.heap_alloc _ _ _ (by simp)]; exact heap_alloc_new _ _
    · rw [← hW]; exact ((Below.refl _ _).alloc (Nat.le_refl _) _).alloc (by simp) _
  clear hW HST
  go_loopw [4] (fun i wr => ∃ k : Nat, k ≤ ps.length ∧ i = .int .i64 k ∧ HashRel w ps k wr) (fun i _ => ps.length - (intOf i).toNat)
  case atStart => exact ⟨0, by omega, rfl, R0⟩
  case round =>
    clear R0
    obtain ⟨k, hk, rfl, hr⟩ := hrel
    have hf32 := length_folded z32 rfl (ps.take k)
    have hl32 : ((folded z32 (ps.take k)).map B).length = 32 := by simpa using hf32
    by_cases hlt : k < ps.length
    · have hd : decide ((k : Int) < (ps.length : Int)) = true := by simp; omega
      obtain rfl := HP.out.at' (by intro e; rw [e] at hlt; cases hlt)
      have HIN : Hid (∀ W : World, Below wr.heap.size wr W → W.cell? ⟨gp, op + k, none⟩ = some (.slice ps[k].ad ps[k].l.length ps[k].cap) ∧ W.rangeAt (w.heap.size + 1) 0 ((folded z32 (ps.take k)).map B) ∧
          Calls Tryd.prog 30 #[.agg ((folded z32 (ps.take k)).map B).toArray, .slice ps[k].ad ps[k].l.length ps[k].cap] W fun e w' => e = .returned (.agg ((folded z32 (ps.take (k + 1))).map B).toArray) ∧ Below W.heap.size W w') := Lib.hid fun W hW => by
        have hbW := hr.below.trans (hW.mono hr.below.size)
        refine ⟨by rw [hbW.cell (by exact HP.out.lt), HP.out.cell k hlt]; rfl, range_block ((hW.block _ (lt_block hr.at')).trans hr.at'), ?_⟩
        rw [folded_snoc z32 ps k hlt]
        exact refLink_any W _ hf32 ps[k] ((HP.out.parts ps[k] (List.getElem_mem hlt)).below hbW) (HNI.out _ (List.getElem_mem hlt)) (by have := hbW.size; omega) (HL.out _ (List.getElem_mem hlt))
      have hn32 : ((folded z32 (ps.take (k + 1))).map B).length = 32 := by simpa using length_folded z32 rfl (ps.take (k + 1))
      have hnone := one_bytes (folded z32 (ps.take (k + 1)))
      generalize ps[k] = q at *
      have HR := Lib.hid hr
      clear hr
      generalize hD : (folded z32 (ps.take (k + 1))).map B = D at *
      have HD := Lib.hid hD
      clear hD
      generalize hL1 : (folded z32 (ps.take k)).map B = L1 at *
      have HL1 := Lib.hid hL1
      clear hL1
      go_wp2_with fail
      refine wp_region_quiet_tailB 6 (by kernel_rfl) (by kernel_rfl) ?_
      simp only [List.take_succ_cons, List.take_zero, List.drop_succ_cons, List.drop_zero]
      refine wpQuiet_load_mid rfl 39 (.tmp 3) rfl (w.heap.size + 1) 0 rfl L1 _ (fun w' ⟨m, hw'⟩ => hw' ▸ (HIN.out _ m.below).2.1) Tryd.underlying39 rfl (info32 _ hl32) ?_
      simp only [Act.put, List.setIfInBounds_toArray, List.set_cons_succ, List.set_cons_zero]
      iterate 3 (go_big_quiet_step (fail))
      refine wpQuiet_of_op rfl (.slice q.ad q.l.length q.cap) (fun w' ⟨m, hw'⟩ => by subst hw'; have c := (HIN.out _ m.below).1; go_simp) ?_
      simp only [Act.put, List.setIfInBounds_toArray, List.set_cons_succ, List.set_cons_zero]
      go_big_quiet_step ((go_at_call 30; with_reducible exact Calls.quiet_b (HIN.out _ (Bl.below _)).2.2))
      refine wpQuiet_nil ?_
      intro m
      have hb2 := m.below
      generalize m.wr = w2 at *
      clear m
      have hat := (hb2.block _ (lt_block HR.out.at')).trans HR.out.at'
      rw [HL1.out] at hat
      have hres := (hb2.block _ (lt_block HR.out.res)).trans HR.out.res
      have hbel := HR.out.below.trans (hb2.mono HR.out.below.size)
      have hthere := there_block hat 0 32 (by omega)
      have hend := heap_setCells _ _ D 0 _ _ hat (by omega)
      rw [over_all _ _ (by omega)] at hend
      have hk1 : Kept1 (w.heap.size + 1) w2 (w2.setCells (w.heap.size + 1) 0 D) := Kept1.setCells _ (Or.inl rfl) _ _ (Kept1.refl _ _)
      have R2 : HashRel w ps (k + 1) (w2.setCells (w.heap.size + 1) 0 D) := ⟨by rw [HD.out]; exact hend, hk1.heap hres (by omega), Kept1.mono hbel hk1 (by omega)⟩
      have HR2 := Lib.hid R2
      clear hat hres hbel hend hk1 R2 hb2 HR HIN
      go_wp2_with (refine wpList_store_mid rfl 39 (.tmp 3) (.tmp 16) rfl (w.heap.size + 1) 0 D.toArray rfl rfl (by simpa [hn32] using hthere) (info32 _ (by simpa using hn32)) (all_oneCell_toArray hnone) ?_)
      go_roundw
      case rel => exact ⟨k + 1, by omega, by go_num, HR2.out⟩
      case measure => simp [intOf]; omega
    · have hd : decide ((k : Int) < (ps.length : Int)) = false := by simp; omega
      obtain rfl : k = ps.length := by omega
      have hnone := one_bytes (folded z32 (ps.take ps.length))
      have hrange := range_block hr.at'
      have hres := hr.res
      rw [HZZ.out] at hres
      have hthere := there_block hres 0 32 (by omega)
      have hend := heap_setCells _ _ ((folded z32 (ps.take ps.length)).map B) 0 _ _ hres (by omega)
      rw [over_all _ _ (by omega)] at hend
      have hkl := (Kept1.setCells (b := w.heap.size) w.heap.size (Or.inl rfl) ((folded z32 (ps.take ps.length)).map B) 0 (Kept1.of_below hr.below)).below (Nat.le_refl _)
      rw [List.take_length] at *
      generalize hD : (folded z32 ps).map B = D at *
      have Hend := Lib.hid hend
      have Hkl := Lib.hid hkl
      have HD := Lib.hid hD
      clear hend hkl hr hres hD
      go_wp2_with (first | (refine wpList_load_mid rfl 39 (.tmp 3) rfl (w.heap.size + 1) 0 rfl D _ hrange Tryd.underlying39 rfl (info32 _ hl32) ?_) | (refine wpList_store_mid rfl 39 (.tmp 2) (.tmp 17) rfl w.heap.size 0 D.toArray rfl rfl (by simpa [hl32] using hthere) (info32 _ (by simpa using hl32)) (all_oneCell_toArray hnone) ?_))
      exact bodyPost_ret (v := .agg D.toArray) (results_cell_row Tryd.results18 _ _ w.heap.size 39 D.toArray (0, 0) _ rfl Hend.out Tryd.underlying39 rfl (info32 _ (by simpa using hl32))) rfl ⟨by rw [HD.out], Hkl.out⟩
end Go.Proofs.YtlhfdlfbnnfjjaaDoor
namespace Go.Proofs.YtlhfdlfbnnfjjaaDoor
open Go.RowKit

section
variable {P : Program} {ops : Array Oper} {Q : Exit → Act → World → Prop} {md : Region.Mode} {S : World → Prop} {i fuel : Nat} {listed : Array Bool} {a : Act} {w : World} {o : Oper}
set_option maxRecDepth 100000 in
/-- one that may come up is taken first: it yields v in every world that meets S -/
theorem held_take (d : Option Tmp) (hi : ops[i]? = some o) (hd : o.dst = d) (hs : Region.noSelect ops = true) (hf : Region.free md ops listed i = true) (hr : (Region.ready md ops listed).contains i = true) (v : Value)
    (hQ : ∀ c a w, Q (.panic c) (a.put o.dst v) w → Q (.panic c) a w) (hw : Region.wanted o (yielded ops a.tmps) = true) (hy : ∀ w, S w → (execOp a.eval o).run P w = .ok (.value v) w) (hS : S w)
    (k : wpAnyH P md ops Q S fuel (listed.setIfInBounds i true) (a.put d v) w) : wpAnyH P md ops Q S (fuel + 1) listed a w := by
  subst hd
  exact wpAnyH_take hi hs hf hr hQ (.inl ⟨hw, hy⟩) hS k
set_option maxRecDepth 100000 in
theorem held_of (hi : ops[i]? = some o) (hr : Region.ready md ops listed = [i]) (hw : Region.wanted o (yielded ops a.tmps) = true) (h : Oper.wp P o a w (fun a' w' => S w' ∧ wpAnyH P md ops Q S fuel (listed.setIfInBounds i true) a' w') Q) :
    wpAnyH P md ops Q S (fuel + 1) listed a w := by
  refine wpAnyH_all hr (by simp) fun j hj => ?_
  obtain rfl := List.mem_singleton.1 hj
  unfold wpOp
  rw [hi]
  simp only [hw, if_true]
  exact .inl h
set_option maxRecDepth 100000 in
/-- one alone may come up: it yields a value -/
theorem held_run (d : Option Tmp) (hi : ops[i]? = some o) (hd : o.dst = d) (hr : Region.ready md ops listed = [i]) (hw : Region.wanted o (yielded ops a.tmps) = true) (v : Value) (w' : World) (hrun : (execOp a.eval o).run P w = .ok (.value v) w') (hS : S w')
    (k : wpAnyH P md ops Q S fuel (listed.setIfInBounds i true) (a.put d v) w') : wpAnyH P md ops Q S (fuel + 1) listed a w :=
  held_of hi hr hw (by subst hd; unfold Oper.wp; rw [hrun]; exact ⟨hS, k⟩)
set_option maxRecDepth 100000 in
theorem held_skip (d : Option Tmp) (hi : ops[i]? = some o) (hd : o.dst = d) (hr : Region.ready md ops listed = [i]) (hw : Region.wanted o (yielded ops a.tmps) = true) (w' : World) (hrun : (execOp a.eval o).run P w = .ok .skip w') (hS : S w')
    (k : wpAnyH P md ops Q S fuel (listed.setIfInBounds i true) (a.put d undef) w') : wpAnyH P md ops Q S (fuel + 1) listed a w :=
  held_of hi hr hw (by subst hd; unfold Oper.wp; rw [hrun]; exact ⟨hS, k⟩)
set_option maxRecDepth 100000 in
/-- one alone may come up: it is a call -/
theorem held_call (d : Option Tmp) (hi : ops[i]? = some o) (hd : o.dst = d) (hr : Region.ready md ops listed = [i]) (hw : Region.wanted o (yielded ops a.tmps) = true) (f : FuncId) (args : Array Value) (hrun : (execOp a.eval o).run P w = .ok (.enter f args) w)
    (h : Calls P f args w fun e w' => ∃ v, e = .returned v ∧ S w' ∧ wpAnyH P md ops Q S fuel (listed.setIfInBounds i true) (a.put d v) w') : wpAnyH P md ops Q S (fuel + 1) listed a w :=
  held_of hi hr hw (by
    subst hd
    unfold Oper.wp
    rw [hrun]
    exact Calls.mono h fun e w' ⟨v, he, hk⟩ => by subst he; exact hk)
end
end Go.Proofs.YtlhfdlfbnnfjjaaDoor
