/- Clash: the walk along both lists. -/
import Derived.Test.YtmegncaadglhmaaDoorKClashM
import Derived.Test.YtmegncaadglhmaaDoorKConcat
import Derived.Test.YtmegncaadglhmaaDoorKOrd
namespace Go.Proofs.YtmegncaadglhmaaDoor
open Go.RowKit

theorem run_store_op {P : Program} {o : Oper} {a : Act} {w : World} (ty : TypeId) (x y : Operand) (ho : o.op = .store ty x y) (b off : Nat) (cells : Array Value) (hx : a.eval x = .pointer (some ⟨b, off, none⟩)) (hy : a.eval y = .agg cells)
    (ht : w.there b off cells.size) (hi : (P.info? ty).map (·.size) = some cells.size) (h1 : cells.all (·.oneCell') = true) : (execOp a.eval o).run P w = .ok .skip (w.setCells b off cells.toList) := by
  unfold execOp
  simp only [ho, hx, hy, Instr.storeAt, Instr.sureAddr, Sem.run_bind, Sem.run_pure, Result.andThen_ok, run_storeVar_mid w b off ty cells ht hi h1]
theorem wpList_load_midG {P : Program} {ops : Array Oper} {rest : List Oper} {op : Oper} {a : Act} {w : World} {Q : Exit → Act → World → Prop} (hw : Region.wanted op (yielded ops a.tmps) = true) (ty : TypeId) (x : Operand) (ho : op.op = .load ty x)
    (b o : Nat) (hx : a.eval x = .pointer (some ⟨b, o, none⟩)) (cs : List Value) (d : TypeDesc) (hc : w.rangeAt b o cs) (hu : P.underlying ty = some d) (hd : d.isRow = true) (hi : (P.info? ty).map (·.size) = some cs.length)
    (h : wpList P ops Q rest (a.put op.dst (.agg cs.toArray)) w) : wpList P ops Q (op :: rest) a w :=
  BigFrame.wpList_want hw fun _ hK => wp_load_mid ty x ho b o hx cs d hc hu hd hi (hK _ _ h)
/-- what Clash tells -/
inductive ClashPost (ps qs : List Part) (e : Ending) (w' : World) : Prop
  | none (h : txs ps = txs qs ∨ ps.length ≠ qs.length ∨ folded z32 ps ≠ folded z32 qs) (he : e = .returned (.tuple #[.slice none 0 0, .slice none 0 0, .bool false]))
  | some (h : txs ps ≠ txs qs) (hl : ps.length = qs.length) (hf : folded z32 ps = folded z32 qs) (x y : Part) (he : e = .returned (.tuple #[.slice x.ad x.l.length x.cap, .slice y.ad y.l.length y.cap, .bool true])) (hx : x.In w') (hy : y.In w')
      (hne : x.l ≠ y.l) (hs : shaOf x.l = shaOf y.l) (hxl : x.l.length ≤ 2000) (hyl : y.l.length ≤ 2000)

set_option maxRecDepth 100000 in
set_option maxHeartbeats 8000000 in
theorem clash_same (w : World) (ps qs : List Part) (ap aq : Option Addr) (gp op cp gq oq cq : Nat) (hp : PartsIn w ap gp op ps) (hq : PartsIn w aq gq oq qs) (ht : Tab w) (hl : ∀ p ∈ ps, p.l.length ≤ 1000) (hl' : ∀ p ∈ qs, p.l.length ≤ 1000) (hn : ∀ p ∈ ps, p.ad = none → p.cap = 0) (hn' : ∀ p ∈ qs, p.ad = none → p.cap = 0) (hm : ps.length ≤ 100) (hlen : ps.length = qs.length) :
    Calls Tryd.prog 25 #[.slice ap ps.length cp, .slice aq ps.length cq, .func (.func 21) #[] #[]] w fun e w' => ClashPost ps qs e w' ∧ Below w.heap.size w w' := by
  have h0 := ht.size
  have HT := Lib.hid ht
  have HP := Lib.hid hp
  have HQ := Lib.hid hq
  have HLP := Lib.hid hl
  have HLQ := Lib.hid hl'
  have HLEN := Lib.hid hlen
  have HNP := Lib.hid hn
  have HNQ := Lib.hid hn'
  have hz := zeroHashV'
  have hZ32 : (z32.map B).length = 32 := rfl
  have hst : ∀ W : World, W.heap[w.heap.size]? = some (.cells (z32.map B).toArray 26 (0, 0)) → W.heap[w.heap.size + 1]? = some (.cells (z32.map B).toArray 26 (0, 0)) → W.heap[w.heap.size + 1 + 1]? = some (.cells (z32.map B).toArray 26 (0, 0)) → W.heap[w.heap.size + 1 + 1 + 1]? = some (.cells (z32.map B).toArray 26 (0, 0)) → Below w.heap.size w W → ClRel w ps qs 0 (.int .i64 (-1)) W :=
    fun W h1 h2 h3 h4 h5 => ⟨h1, h2, ⟨z32, z32, rfl, rfl, h3, h4, .inl ⟨rfl, fun j hj => absurd hj (by omega)⟩⟩, h5⟩
  have HST := Lib.hid hst
  clear hst hp hq ht hl hl' hn hn' hlen
  generalize z32.map B = Z at *
  go_enter Tryd.func25, Tryd.ntmps25
  go_wp2_with fail
  generalize hW : World.alloc _ _ = W0 at *
  have R0 : ClRel w ps qs 0 (.int .i64 (-1)) W0 := by
    have hh := heap_allocs [.cells Z.toArray 26, .cells Z.toArray 26, .cells Z.toArray 26, .cells Z.toArray 26] w
    refine HST.out W0 ?_ ?_ ?_ ?_ ?_
    · rw [← hW]; exact hh 0 (by simp)
    · rw [← hW]; exact hh 1 (by simp)
    · rw [← hW]; exact hh 2 (by simp)
    · rw [← hW]; exact hh 3 (by simp)
    · rw [← hW]; exact below_allocs [_, _, _, _] w (Below.refl _ _) (Nat.le_refl _)
  clear hW HST
  go_loopw [13, 14, 22] (fun last _ i wr => ∃ k : Nat, k ≤ ps.length ∧ i = .int .i64 k ∧ ClRel w ps qs k last wr) (fun _ _ i _ => ps.length - (intOf i).toNat)
  case atStart => exact ⟨0, by omega, rfl, R0⟩
  case round =>
    clear R0
    obtain ⟨k, hk, rfl, hr⟩ := hrel
    have HR := Lib.hid hr
    clear hr
    by_cases hlt : k < ps.length
    · have hd : decide ((k : Int) < (ps.length : Int)) = true := by simp; omega
      have hlt2 : k < qs.length := by have := HLEN.out; omega
      obtain rfl := HP.out.at' (by intro e; rw [e] at hlt; cases hlt)
      obtain rfl := HQ.out.at' (by intro e; rw [e] at hlt2; cases hlt2)
      have HSRC : Hid (∀ W : World, Below w.heap.size w W → W.cell? ⟨gp, op + k, none⟩ = some (.slice ps[k].ad ps[k].l.length ps[k].cap) ∧ W.cell? ⟨gq, oq + k, none⟩ = some (.slice qs[k].ad qs[k].l.length qs[k].cap) ∧
          (Calls Tryd.prog 21 #[.agg ((folded z32 (ps.take k)).map B).toArray, .slice ps[k].ad ps[k].l.length ps[k].cap] W fun e w' => e = .returned (.agg ((folded z32 (ps.take (k + 1))).map B).toArray) ∧ Below W.heap.size W w') ∧
          (Calls Tryd.prog 21 #[.agg ((folded z32 (qs.take k)).map B).toArray, .slice qs[k].ad qs[k].l.length qs[k].cap] W fun e w' => e = .returned (.agg ((folded z32 (qs.take (k + 1))).map B).toArray) ∧ Below W.heap.size W w')) := Lib.hid fun W hbW => by
        refine ⟨by rw [hbW.cell (by exact HP.out.lt), HP.out.cell k hlt]; rfl, by rw [hbW.cell (by exact HQ.out.lt), HQ.out.cell k hlt2]; rfl, ?_, ?_⟩
        · rw [folded_snoc z32 ps k hlt]
          exact link_any W _ (length_folded z32 rfl _) ps[k] ((HP.out.parts ps[k] (List.getElem_mem hlt)).below hbW) (HT.out.below hbW h0) (HLP.out _ (List.getElem_mem hlt))
        · rw [folded_snoc z32 qs k hlt2]
          exact link_any W _ (length_folded z32 rfl _) qs[k] ((HQ.out.parts qs[k] (List.getElem_mem hlt2)).below hbW) (HT.out.below hbW h0) (HLQ.out _ (List.getElem_mem hlt2))
      have HEQ : Hid (∀ W : World, Below w.heap.size w W → Calls Tryd.prog 23 #[.slice ps[k].ad ps[k].l.length ps[k].cap, .slice qs[k].ad qs[k].l.length qs[k].cap] W fun e w' => e = .returned (.bool (ps[k].l == qs[k].l)) ∧ Below W.heap.size W w') := Lib.hid fun W hbW =>
        (equal_any W ps[k] qs[k] ((HP.out.parts ps[k] (List.getElem_mem hlt)).below hbW) ((HQ.out.parts qs[k] (List.getElem_mem hlt2)).below hbW)).mono fun e w' ⟨he, hw⟩ => ⟨he, hw ▸ Below.refl _ _⟩
      have HSI := Lib.hid (sameAt_iff (ps := ps) (qs := qs) hlt hlt2)
      have hne := neqHash (folded z32 (ps.take k)) (folded z32 (qs.take k)) (length_folded z32 rfl _) (length_folded z32 rfl _)
      have hgn := fun x y => guardHash .neq (folded z32 (ps.take k)) (folded z32 (qs.take k)) x y
      have hA32 : ((folded z32 (ps.take k)).map B).length = 32 := by simpa using length_folded z32 rfl (ps.take k)
      have hB32 : ((folded z32 (qs.take k)).map B).length = 32 := by simpa using length_folded z32 rfl (qs.take k)
      have hAone := one_bytes (folded z32 (ps.take k))
      have hBone := one_bytes (folded z32 (qs.take k))
      have hAN32 : ((folded z32 (ps.take (k + 1))).map B).length = 32 := by simpa using length_folded z32 rfl (ps.take (k + 1))
      have hBN32 : ((folded z32 (qs.take (k + 1))).map B).length = 32 := by simpa using length_folded z32 rfl (qs.take (k + 1))
      have hANone := one_bytes (folded z32 (ps.take (k + 1)))
      have hBNone := one_bytes (folded z32 (qs.take (k + 1)))
      obtain ⟨b1, hb1⟩ : ∃ b, (folded z32 (ps.take k) == folded z32 (qs.take k)) = b := ⟨_, rfl⟩
      obtain ⟨c, hc⟩ : ∃ c, (ps[k].l == qs[k].l) = c := ⟨_, rfl⟩
      rw [hb1] at hne HSI
      rw [hc] at HEQ HSI
      have HNE := Lib.hid hne
      have HGN := Lib.hid hgn
      clear hne hgn hb1 hc
      generalize ps[k] = p at *
      generalize qs[k] = q at *
      generalize hAX : (folded z32 (ps.take k)).map B = AX at *
      generalize hBX : (folded z32 (qs.take k)).map B = BX at *
      generalize hAN : (folded z32 (ps.take (k + 1))).map B = AN at *
      generalize hBN : (folded z32 (qs.take (k + 1))).map B = BN at *
      have HAX := Lib.hid hAX
      have HBX := Lib.hid hBX
      have HAN := Lib.hid hAN
      have HBN := Lib.hid hBN
      clear hAX hBX hAN hBN
      have HIN : Hid (∀ W : World, Below wr.heap.size wr W → W.rangeAt (w.heap.size) 0 AX ∧ W.rangeAt (w.heap.size + 1) 0 BX ∧ W.cell? ⟨gp, op + k, none⟩ = some (.slice p.ad p.l.length p.cap) ∧ W.cell? ⟨gq, oq + k, none⟩ = some (.slice q.ad q.l.length q.cap) ∧ (Calls Tryd.prog 23 #[.slice p.ad p.l.length p.cap, .slice q.ad q.l.length q.cap] W fun e w' => e = .returned (.bool c) ∧ Below W.heap.size W w') ∧ True) := Lib.hid fun W hW => by
        have hbW := HR.out.below.trans (hW.mono HR.out.below.size)
        obtain ⟨c1, c2, _, _⟩ := HSRC.out W hbW
        have h9 := (hW.block _ (lt_block HR.out.a)).trans HR.out.a
        have h10 := (hW.block _ (lt_block HR.out.b)).trans HR.out.b
        rw [HAX.out] at h9
        rw [HBX.out] at h10
        exact ⟨range_block h9, range_block h10, c1, c2, HEQ.out W hbW, trivial⟩
      clear HEQ
      go_wp2_with fail
      cases b1
      · have HDIFF := Lib.hid (show ¬ SameAt ps qs k from fun h => by have := (HSI.out.1 h).1; simp at this)
        clear HSI
        refine wp_region_quietB (by kernel_rfl) (by kernel_rfl) ?_
        refine wpQuiet_load_mid rfl 26 (.tmp 9) rfl (w.heap.size) 0 rfl AX _ (fun w' ⟨m, hw'⟩ => hw' ▸ (HIN.out _ m.below).1) Tryd.underlying26 rfl (infoHash _ hA32) ?_
        simp only [Act.put, List.setIfInBounds_toArray, List.set_cons_succ, List.set_cons_zero]
        refine wpQuiet_load_mid rfl 26 (.tmp 10) rfl (w.heap.size + 1) 0 rfl BX _ (fun w' ⟨m, hw'⟩ => hw' ▸ (HIN.out _ m.below).2.1) Tryd.underlying26 rfl (infoHash _ hB32) ?_
        simp only [Act.put, List.setIfInBounds_toArray, List.set_cons_succ, List.set_cons_zero]
        refine wpQuiet_of_op rfl (.bool true) (fun w' _ => by have k := HNE.out; have l := HGN.out; go_simp) ?_
        simp only [Act.put, List.setIfInBounds_toArray, List.set_cons_succ, List.set_cons_zero]
        iterate 12 (go_big_quiet_step (fail))
        refine wpQuiet_nil ?_
        intro m0
        have hb8 := m0.below
        have HBM := Lib.hid hb8
        have h9 := (hb8.block _ (lt_block HR.out.a)).trans HR.out.a
        have h10 := (hb8.block _ (lt_block HR.out.b)).trans HR.out.b
        rw [HAX.out] at h9
        rw [HBX.out] at h10
        have H9 := Lib.hid h9
        have H10 := Lib.hid h10
        generalize m0.wr = W1 at *
        clear m0 hb8 h9 h10
        go_wp2_with fail
        obtain ⟨LA, LB, hLA, hLB, hla, hlb, _⟩ := HR.out.last
        have h11 := (HBM.out.block _ (lt_block hla)).trans hla
        have h12 := (HBM.out.block _ (lt_block hlb)).trans hlb
        have hd9 : Below W1.heap.size W1 W1.drew := (Below.refl _ _).drew
        have d9 := (hd9.block _ (lt_block H9.out)).trans H9.out
        have d10 := (hd9.block _ (lt_block H10.out)).trans H10.out
        have d11 := (hd9.block _ (lt_block h11)).trans h11
        have d12 := (hd9.block _ (lt_block h12)).trans h12
        have hLA' : (LA.map B).length = 32 := by simpa using hLA
        have hLB' : (LB.map B).length = 32 := by simpa using hLB
        have HBD := Lib.hid (HBM.out.trans (hd9.mono HBM.out.size))
        refine wp_region_held (S := fun W => W.rangeAt (w.heap.size) 0 AX ∧ W.rangeAt (w.heap.size + 1) 0 BX) (by kernel_rfl) ?_
        change wpAnyH _ _ _ _ _ _ _ _ (World.drew _)
        generalize W1.drew = W2 at *
        clear hd9 h11 h12
        have hS0 : W2.rangeAt (w.heap.size) 0 AX ∧ W2.rangeAt (w.heap.size + 1) 0 BX := ⟨range_block d9, range_block d10⟩
        have hk1 : Kept1 (w.heap.size + 1 + 1) W2 (W2.setCells (w.heap.size + 1 + 1) 0 AX) := Kept1.setCells _ (Or.inl rfl) _ _ (Kept1.refl _ _)
        have e9 := hk1.heap d9 (by omega)
        have e10 := hk1.heap d10 (by omega)
        have e12 := hk1.heap d12 (by omega)
        have t11 := there_block d11 0 32 (by omega)
        have e11 := heap_setCells _ _ AX 0 _ _ d11 (by omega)
        rw [over_all _ _ (by omega)] at e11
        have hk2 : Kept1 (w.heap.size + 1 + 1 + 1) (W2.setCells (w.heap.size + 1 + 1) 0 AX) ((W2.setCells (w.heap.size + 1 + 1) 0 AX).setCells (w.heap.size + 1 + 1 + 1) 0 BX) := Kept1.setCells _ (Or.inl rfl) _ _ (Kept1.refl _ _)
        have t12 := there_block e12 0 32 (by omega)
        have f12 := heap_setCells _ _ BX 0 _ _ e12 (by omega)
        rw [over_all _ _ (by omega)] at f12
        have f9 := hk2.heap e9 (by omega)
        have f10 := hk2.heap e10 (by omega)
        have f11 := hk2.heap e11 (by omega)
        have hS1 : (W2.setCells (w.heap.size + 1 + 1) 0 AX).rangeAt (w.heap.size) 0 AX ∧ (W2.setCells (w.heap.size + 1 + 1) 0 AX).rangeAt (w.heap.size + 1) 0 BX := ⟨range_block e9, range_block e10⟩
        have hS2 : ((W2.setCells (w.heap.size + 1 + 1) 0 AX).setCells (w.heap.size + 1 + 1 + 1) 0 BX).rangeAt (w.heap.size) 0 AX ∧ ((W2.setCells (w.heap.size + 1 + 1) 0 AX).setCells (w.heap.size + 1 + 1 + 1) 0 BX).rangeAt (w.heap.size + 1) 0 BX := ⟨range_block f9, range_block f10⟩
        have HBF := Lib.hid (Kept1.mono (Kept1.mono (HR.out.below.trans (HBD.out.mono HR.out.below.size)) hk1 (by omega)) hk2 (by omega))
        have F9 := Lib.hid f9
        have F10 := Lib.hid f10
        have F11 := Lib.hid f11
        have F12 := Lib.hid f12
        clear e9 e10 e11 e12 d9 d10 d11 d12 f9 f10 f11 f12 hk1 hk2
        refine held_take (i := 0) (some 40) rfl (by rfl) (by kernel_rfl) (by kernel_rfl) (by kernel_rfl) (.int .i64 (k : Int)) (fun _ _ _ h => h) (by rfl) (fun w0 hS => by clear hS; go_simp; try with_reducible rfl) hS0 ?_
        simp only [Act.put, List.setIfInBounds_toArray, List.set_cons_succ, List.set_cons_zero]
        refine held_take (i := 1) (some 41) rfl (by rfl) (by kernel_rfl) (by kernel_rfl) (by kernel_rfl) (.agg AX.toArray) (fun _ _ _ h => h) (by rfl) (fun w0 hS => by exact run_load_op 26 (.tmp 9) (by rfl) (w.heap.size) 0 (by rfl) AX _ hS.1 Tryd.underlying26 rfl (infoHash _ hA32)) hS0 ?_
        simp only [Act.put, List.setIfInBounds_toArray, List.set_cons_succ, List.set_cons_zero]
        refine held_take (i := 2) (some 42) rfl (by rfl) (by kernel_rfl) (by kernel_rfl) (by kernel_rfl) (.agg BX.toArray) (fun _ _ _ h => h) (by rfl) (fun w0 hS => by exact run_load_op 26 (.tmp 10) (by rfl) (w.heap.size + 1) 0 (by rfl) BX _ hS.2 Tryd.underlying26 rfl (infoHash _ hB32)) hS0 ?_
        simp only [Act.put, List.setIfInBounds_toArray, List.set_cons_succ, List.set_cons_zero]
        refine held_run (i := 3) (some 13) rfl (by rfl) (by kernel_rfl) (by rfl) (.int .i64 (k : Int)) W2 (by go_simp; try with_reducible rfl) hS0 ?_
        simp only [Act.put, List.setIfInBounds_toArray, List.set_cons_succ, List.set_cons_zero]
        refine held_skip (i := 4) none rfl (by rfl) (by kernel_rfl) (by rfl) (W2.setCells (w.heap.size + 1 + 1) 0 AX) (run_store_op 26 (.tmp 11) (.tmp 41) (by rfl) (w.heap.size + 1 + 1) 0 AX.toArray (by rfl) (by rfl) (by simpa [hA32] using t11) (infoHash _ (by simpa using hA32)) (all_oneCell_toArray hAone)) hS1 ?_
        simp only [Act.put]
        refine held_skip (i := 5) none rfl (by rfl) (by kernel_rfl) (by rfl) ((W2.setCells (w.heap.size + 1 + 1) 0 AX).setCells (w.heap.size + 1 + 1 + 1) 0 BX) (run_store_op 26 (.tmp 12) (.tmp 42) (by rfl) (w.heap.size + 1 + 1 + 1) 0 BX.toArray (by rfl) (by rfl) (by simpa [hB32] using t12) (infoHash _ (by simpa using hB32)) (all_oneCell_toArray hBone)) hS2 ?_
        simp only [Act.put]
        refine wpAnyH_done (by kernel_rfl) ?_ _
        have hlast : ∃ LA LB : List UInt8, LA.length = 32 ∧ LB.length = 32 ∧ ((W2.setCells (w.heap.size + 1 + 1) 0 AX).setCells (w.heap.size + 1 + 1 + 1) 0 BX).heap[w.heap.size + 1 + 1]? = some (.cells (LA.map B).toArray 26 (0, 0)) ∧ ((W2.setCells (w.heap.size + 1 + 1) 0 AX).setCells (w.heap.size + 1 + 1 + 1) 0 BX).heap[w.heap.size + 1 + 1 + 1]? = some (.cells (LB.map B).toArray 26 (0, 0)) ∧
            ((Value.int .i64 (k : Int) = .int .i64 (-1) ∧ NoneAt ps qs (k + 1)) ∨ ∃ i : Nat, Value.int .i64 (k : Int) = .int .i64 (i : Int) ∧ LastAt ps qs (k + 1) i ∧ LA = folded z32 (ps.take i) ∧ LB = folded z32 (qs.take i)) :=
          ⟨folded z32 (ps.take k), folded z32 (qs.take k), length_folded z32 rfl _, length_folded z32 rfl _, by rw [HAX.out]; exact F11.out, by rw [HBX.out]; exact F12.out, .inr ⟨k, rfl, LastAt.here HDIFF.out, rfl, rfl⟩⟩
        have HLAST := Lib.hid hlast
        have H9' := F9
        have H10' := F10
        have HB5 := HBF
        clear hlast hS0 hS1 hS2 t11 t12 F9 F10 F11 F12 HBF hLA hLB hLA' hLB' hla hlb H9 H10 HBM HBD HR
        generalize World.setCells _ _ _ _ = W5 at *
        go_wp2_with fail
        have HI5 : Hid (∀ W : World, Below W5.heap.size W5 W → W.rangeAt (w.heap.size) 0 AX ∧ W.rangeAt (w.heap.size + 1) 0 BX ∧ W.cell? ⟨gp, op + k, none⟩ = some (.slice p.ad p.l.length p.cap) ∧ W.cell? ⟨gq, oq + k, none⟩ = some (.slice q.ad q.l.length q.cap) ∧
            (Calls Tryd.prog 21 #[.agg AX.toArray, .slice p.ad p.l.length p.cap] W fun e w' => e = .returned (.agg AN.toArray) ∧ Below W.heap.size W w') ∧
            (Calls Tryd.prog 21 #[.agg BX.toArray, .slice q.ad q.l.length q.cap] W fun e w' => e = .returned (.agg BN.toArray) ∧ Below W.heap.size W w')) := Lib.hid fun W hW => by
          have hbW := HB5.out.trans (hW.mono HB5.out.size)
          obtain ⟨c1, c2, c3, c4⟩ := HSRC.out W hbW
          exact ⟨range_block ((hW.block _ (lt_block H9'.out)).trans H9'.out), range_block ((hW.block _ (lt_block H10'.out)).trans H10'.out), c1, c2, c3, c4⟩
        refine wp_region_quiet_tailB 14 (by kernel_rfl) (by kernel_rfl) ?_
        simp only [List.take_succ_cons, List.take_zero, List.drop_succ_cons, List.drop_zero]
        iterate 1 (go_big_quiet_step (fail))
        refine wpQuiet_load_mid rfl 26 (.tmp 9) rfl (w.heap.size) 0 rfl AX _ (fun w' ⟨m, hw'⟩ => hw' ▸ (HI5.out _ m.below).1) Tryd.underlying26 rfl (infoHash _ hA32) ?_
        simp only [Act.put, List.setIfInBounds_toArray, List.set_cons_succ, List.set_cons_zero]
        iterate 3 (go_big_quiet_step (fail))
        refine wpQuiet_of_op rfl (.slice p.ad p.l.length p.cap) (fun w' ⟨m, hw'⟩ => by subst hw'; have c := (HI5.out _ m.below).2.2.1; go_simp) ?_
        simp only [Act.put, List.setIfInBounds_toArray, List.set_cons_succ, List.set_cons_zero]
        iterate 2 (go_big_quiet_step ((first | (go_at_call 21; first | with_reducible exact Calls.quiet_b (HI5.out _ (Bl.below _)).2.2.2.2.1 | with_reducible exact Calls.quiet_b (HI5.out _ (Bl.below _)).2.2.2.2.2))))
        refine wpQuiet_load_mid rfl 26 (.tmp 10) rfl (w.heap.size + 1) 0 rfl BX _ (fun w' ⟨m, hw'⟩ => hw' ▸ (HI5.out _ m.below).2.1) Tryd.underlying26 rfl (infoHash _ hB32) ?_
        simp only [Act.put, List.setIfInBounds_toArray, List.set_cons_succ, List.set_cons_zero]
        iterate 3 (go_big_quiet_step (fail))
        refine wpQuiet_of_op rfl (.slice q.ad q.l.length q.cap) (fun w' ⟨m, hw'⟩ => by subst hw'; have c := (HI5.out _ m.below).2.2.2.1; go_simp) ?_
        simp only [Act.put, List.setIfInBounds_toArray, List.set_cons_succ, List.set_cons_zero]
        iterate 1 (go_big_quiet_step ((first | (go_at_call 21; first | with_reducible exact Calls.quiet_b (HI5.out _ (Bl.below _)).2.2.2.2.1 | with_reducible exact Calls.quiet_b (HI5.out _ (Bl.below _)).2.2.2.2.2))))
        refine wpQuiet_nil ?_
        intro m0
        have hb6 := m0.below
        generalize m0.wr = W6 at *
        clear m0
        have d9 := (hb6.block _ (lt_block H9'.out)).trans H9'.out
        have d10 := (hb6.block _ (lt_block H10'.out)).trans H10'.out
        have t9 := there_block d9 0 32 (by omega)
        have hk1 : Kept1 (w.heap.size) W6 (W6.setCells (w.heap.size) 0 AN) := Kept1.setCells _ (Or.inl rfl) _ _ (Kept1.refl _ _)
        have e9 := heap_setCells _ _ AN 0 _ _ d9 (by omega)
        rw [over_all _ _ (by omega)] at e9
        have e10 := hk1.heap d10 (by omega)
        have t10 := there_block e10 0 32 (by omega)
        have hk2 : Kept1 (w.heap.size + 1) (W6.setCells (w.heap.size) 0 AN) ((W6.setCells (w.heap.size) 0 AN).setCells (w.heap.size + 1) 0 BN) := Kept1.setCells _ (Or.inl rfl) _ _ (Kept1.refl _ _)
        have f10 := heap_setCells _ _ BN 0 _ _ e10 (by omega)
        rw [over_all _ _ (by omega)] at f10
        have f9 := hk2.heap e9 (by omega)
        have hbf := Kept1.mono (Kept1.mono (HB5.out.trans (hb6.mono HB5.out.size)) hk1 (Nat.le_refl _)) hk2 (by omega)
        have R2 : ClRel w ps qs (k + 1) (.int .i64 (k : Int)) ((W6.setCells (w.heap.size) 0 AN).setCells (w.heap.size + 1) 0 BN) := by
          obtain ⟨LA, LB, hLA, hLB, hla, hlb, h⟩ := HLAST.out
          exact ⟨by rw [HAN.out]; exact f9, by rw [HBN.out]; exact f10, ⟨LA, LB, hLA, hLB, hk2.heap (hk1.heap ((hb6.block _ (lt_block hla)).trans hla) (by omega)) (by omega), hk2.heap (hk1.heap ((hb6.block _ (lt_block hlb)).trans hlb) (by omega)) (by omega), h⟩, hbf⟩
        have HR2 := Lib.hid R2
        clear d9 d10 e9 e10 f9 f10 hk1 hk2 hbf R2 hb6 HI5 HLAST HB5 H9' H10'
        go_wp2_with (first | (refine wpList_store_mid rfl 26 (.tmp 9) (.tmp 49) rfl (w.heap.size) 0 AN.toArray rfl rfl (by simpa [hAN32] using t9) (infoHash _ (by simpa using hAN32)) (all_oneCell_toArray hANone) ?_) | (refine wpList_store_mid rfl 26 (.tmp 10) (.tmp 56) rfl (w.heap.size + 1) 0 BN.toArray rfl rfl (by simpa [hBN32] using t10) (infoHash _ (by simpa using hBN32)) (all_oneCell_toArray hBNone) ?_))
        go_roundw
        case rel => exact ⟨k + 1, by omega, by go_num, HR2.out⟩
        case measure => simp [intOf]; omega
      cases c
      · have HDIFF := Lib.hid (show ¬ SameAt ps qs k from fun h => by have := (HSI.out.1 h).2; simp at this)
        clear HSI
        refine wp_region_quietB (by kernel_rfl) (by kernel_rfl) ?_
        refine wpQuiet_load_mid rfl 26 (.tmp 9) rfl (w.heap.size) 0 rfl AX _ (fun w' ⟨m, hw'⟩ => hw' ▸ (HIN.out _ m.below).1) Tryd.underlying26 rfl (infoHash _ hA32) ?_
        simp only [Act.put, List.setIfInBounds_toArray, List.set_cons_succ, List.set_cons_zero]
        refine wpQuiet_load_mid rfl 26 (.tmp 10) rfl (w.heap.size + 1) 0 rfl BX _ (fun w' ⟨m, hw'⟩ => hw' ▸ (HIN.out _ m.below).2.1) Tryd.underlying26 rfl (infoHash _ hB32) ?_
        simp only [Act.put, List.setIfInBounds_toArray, List.set_cons_succ, List.set_cons_zero]
        refine wpQuiet_of_op rfl (.bool false) (fun w' _ => by have k := HNE.out; have l := HGN.out; go_simp) ?_
        simp only [Act.put, List.setIfInBounds_toArray, List.set_cons_succ, List.set_cons_zero]
        iterate 4 (go_big_quiet_step (fail))
        refine wpQuiet_of_opG (by rfl) (.slice p.ad p.l.length p.cap) (fun w' ⟨m, hw'⟩ => by subst hw'; have c := (HIN.out _ m.below).2.2.1; go_simp) ?_
        simp only [Act.put, List.setIfInBounds_toArray, List.set_cons_succ, List.set_cons_zero]
        iterate 3 (go_big_quiet_step (fail))
        refine wpQuiet_of_opG (by rfl) (.slice q.ad q.l.length q.cap) (fun w' ⟨m, hw'⟩ => by subst hw'; have c := (HIN.out _ m.below).2.2.2.1; go_simp) ?_
        simp only [Act.put, List.setIfInBounds_toArray, List.set_cons_succ, List.set_cons_zero]
        iterate 3 (go_big_quiet_step ((go_at_call 23; with_reducible exact Calls.quiet_b (HIN.out _ (Bl.below _)).2.2.2.2.1)))
        refine wpQuiet_nil ?_
        intro m0
        have hb8 := m0.below
        have HBM := Lib.hid hb8
        have h9 := (hb8.block _ (lt_block HR.out.a)).trans HR.out.a
        have h10 := (hb8.block _ (lt_block HR.out.b)).trans HR.out.b
        rw [HAX.out] at h9
        rw [HBX.out] at h10
        have H9 := Lib.hid h9
        have H10 := Lib.hid h10
        generalize m0.wr = W1 at *
        clear m0 hb8 h9 h10
        go_wp2_with fail
        obtain ⟨LA, LB, hLA, hLB, hla, hlb, _⟩ := HR.out.last
        have h11 := (HBM.out.block _ (lt_block hla)).trans hla
        have h12 := (HBM.out.block _ (lt_block hlb)).trans hlb
        have hd9 : Below W1.heap.size W1 W1.drew := (Below.refl _ _).drew
        have d9 := (hd9.block _ (lt_block H9.out)).trans H9.out
        have d10 := (hd9.block _ (lt_block H10.out)).trans H10.out
        have d11 := (hd9.block _ (lt_block h11)).trans h11
        have d12 := (hd9.block _ (lt_block h12)).trans h12
        have hLA' : (LA.map B).length = 32 := by simpa using hLA
        have hLB' : (LB.map B).length = 32 := by simpa using hLB
        have HBD := Lib.hid (HBM.out.trans (hd9.mono HBM.out.size))
        refine wp_region_held (S := fun W => W.rangeAt (w.heap.size) 0 AX ∧ W.rangeAt (w.heap.size + 1) 0 BX) (by kernel_rfl) ?_
        change wpAnyH _ _ _ _ _ _ _ _ (World.drew _)
        generalize W1.drew = W2 at *
        clear hd9 h11 h12
        have hS0 : W2.rangeAt (w.heap.size) 0 AX ∧ W2.rangeAt (w.heap.size + 1) 0 BX := ⟨range_block d9, range_block d10⟩
        have hk1 : Kept1 (w.heap.size + 1 + 1) W2 (W2.setCells (w.heap.size + 1 + 1) 0 AX) := Kept1.setCells _ (Or.inl rfl) _ _ (Kept1.refl _ _)
        have e9 := hk1.heap d9 (by omega)
        have e10 := hk1.heap d10 (by omega)
        have e12 := hk1.heap d12 (by omega)
        have t11 := there_block d11 0 32 (by omega)
        have e11 := heap_setCells _ _ AX 0 _ _ d11 (by omega)
        rw [over_all _ _ (by omega)] at e11
        have hk2 : Kept1 (w.heap.size + 1 + 1 + 1) (W2.setCells (w.heap.size + 1 + 1) 0 AX) ((W2.setCells (w.heap.size + 1 + 1) 0 AX).setCells (w.heap.size + 1 + 1 + 1) 0 BX) := Kept1.setCells _ (Or.inl rfl) _ _ (Kept1.refl _ _)
        have t12 := there_block e12 0 32 (by omega)
        have f12 := heap_setCells _ _ BX 0 _ _ e12 (by omega)
        rw [over_all _ _ (by omega)] at f12
        have f9 := hk2.heap e9 (by omega)
        have f10 := hk2.heap e10 (by omega)
        have f11 := hk2.heap e11 (by omega)
        have hS1 : (W2.setCells (w.heap.size + 1 + 1) 0 AX).rangeAt (w.heap.size) 0 AX ∧ (W2.setCells (w.heap.size + 1 + 1) 0 AX).rangeAt (w.heap.size + 1) 0 BX := ⟨range_block e9, range_block e10⟩
        have hS2 : ((W2.setCells (w.heap.size + 1 + 1) 0 AX).setCells (w.heap.size + 1 + 1 + 1) 0 BX).rangeAt (w.heap.size) 0 AX ∧ ((W2.setCells (w.heap.size + 1 + 1) 0 AX).setCells (w.heap.size + 1 + 1 + 1) 0 BX).rangeAt (w.heap.size + 1) 0 BX := ⟨range_block f9, range_block f10⟩
        have HBF := Lib.hid (Kept1.mono (Kept1.mono (HR.out.below.trans (HBD.out.mono HR.out.below.size)) hk1 (by omega)) hk2 (by omega))
        have F9 := Lib.hid f9
        have F10 := Lib.hid f10
        have F11 := Lib.hid f11
        have F12 := Lib.hid f12
        clear e9 e10 e11 e12 d9 d10 d11 d12 f9 f10 f11 f12 hk1 hk2
        refine held_take (i := 0) (some 40) rfl (by rfl) (by kernel_rfl) (by kernel_rfl) (by kernel_rfl) (.int .i64 (k : Int)) (fun _ _ _ h => h) (by rfl) (fun w0 hS => by clear hS; go_simp; try with_reducible rfl) hS0 ?_
        simp only [Act.put, List.setIfInBounds_toArray, List.set_cons_succ, List.set_cons_zero]
        refine held_take (i := 1) (some 41) rfl (by rfl) (by kernel_rfl) (by kernel_rfl) (by kernel_rfl) (.agg AX.toArray) (fun _ _ _ h => h) (by rfl) (fun w0 hS => by exact run_load_op 26 (.tmp 9) (by rfl) (w.heap.size) 0 (by rfl) AX _ hS.1 Tryd.underlying26 rfl (infoHash _ hA32)) hS0 ?_
        simp only [Act.put, List.setIfInBounds_toArray, List.set_cons_succ, List.set_cons_zero]
        refine held_take (i := 2) (some 42) rfl (by rfl) (by kernel_rfl) (by kernel_rfl) (by kernel_rfl) (.agg BX.toArray) (fun _ _ _ h => h) (by rfl) (fun w0 hS => by exact run_load_op 26 (.tmp 10) (by rfl) (w.heap.size + 1) 0 (by rfl) BX _ hS.2 Tryd.underlying26 rfl (infoHash _ hB32)) hS0 ?_
        simp only [Act.put, List.setIfInBounds_toArray, List.set_cons_succ, List.set_cons_zero]
        refine held_run (i := 3) (some 13) rfl (by rfl) (by kernel_rfl) (by rfl) (.int .i64 (k : Int)) W2 (by go_simp; try with_reducible rfl) hS0 ?_
        simp only [Act.put, List.setIfInBounds_toArray, List.set_cons_succ, List.set_cons_zero]
        refine held_skip (i := 4) none rfl (by rfl) (by kernel_rfl) (by rfl) (W2.setCells (w.heap.size + 1 + 1) 0 AX) (run_store_op 26 (.tmp 11) (.tmp 41) (by rfl) (w.heap.size + 1 + 1) 0 AX.toArray (by rfl) (by rfl) (by simpa [hA32] using t11) (infoHash _ (by simpa using hA32)) (all_oneCell_toArray hAone)) hS1 ?_
        simp only [Act.put]
        refine held_skip (i := 5) none rfl (by rfl) (by kernel_rfl) (by rfl) ((W2.setCells (w.heap.size + 1 + 1) 0 AX).setCells (w.heap.size + 1 + 1 + 1) 0 BX) (run_store_op 26 (.tmp 12) (.tmp 42) (by rfl) (w.heap.size + 1 + 1 + 1) 0 BX.toArray (by rfl) (by rfl) (by simpa [hB32] using t12) (infoHash _ (by simpa using hB32)) (all_oneCell_toArray hBone)) hS2 ?_
        simp only [Act.put]
        refine wpAnyH_done (by kernel_rfl) ?_ _
        have hlast : ∃ LA LB : List UInt8, LA.length = 32 ∧ LB.length = 32 ∧ ((W2.setCells (w.heap.size + 1 + 1) 0 AX).setCells (w.heap.size + 1 + 1 + 1) 0 BX).heap[w.heap.size + 1 + 1]? = some (.cells (LA.map B).toArray 26 (0, 0)) ∧ ((W2.setCells (w.heap.size + 1 + 1) 0 AX).setCells (w.heap.size + 1 + 1 + 1) 0 BX).heap[w.heap.size + 1 + 1 + 1]? = some (.cells (LB.map B).toArray 26 (0, 0)) ∧
            ((Value.int .i64 (k : Int) = .int .i64 (-1) ∧ NoneAt ps qs (k + 1)) ∨ ∃ i : Nat, Value.int .i64 (k : Int) = .int .i64 (i : Int) ∧ LastAt ps qs (k + 1) i ∧ LA = folded z32 (ps.take i) ∧ LB = folded z32 (qs.take i)) :=
          ⟨folded z32 (ps.take k), folded z32 (qs.take k), length_folded z32 rfl _, length_folded z32 rfl _, by rw [HAX.out]; exact F11.out, by rw [HBX.out]; exact F12.out, .inr ⟨k, rfl, LastAt.here HDIFF.out, rfl, rfl⟩⟩
        have HLAST := Lib.hid hlast
        have H9' := F9
        have H10' := F10
        have HB5 := HBF
        clear hlast hS0 hS1 hS2 t11 t12 F9 F10 F11 F12 HBF hLA hLB hLA' hLB' hla hlb H9 H10 HBM HBD HR
        generalize World.setCells _ _ _ _ = W5 at *
        go_wp2_with fail
        have HI5 : Hid (∀ W : World, Below W5.heap.size W5 W → W.rangeAt (w.heap.size) 0 AX ∧ W.rangeAt (w.heap.size + 1) 0 BX ∧ W.cell? ⟨gp, op + k, none⟩ = some (.slice p.ad p.l.length p.cap) ∧ W.cell? ⟨gq, oq + k, none⟩ = some (.slice q.ad q.l.length q.cap) ∧
            (Calls Tryd.prog 21 #[.agg AX.toArray, .slice p.ad p.l.length p.cap] W fun e w' => e = .returned (.agg AN.toArray) ∧ Below W.heap.size W w') ∧
            (Calls Tryd.prog 21 #[.agg BX.toArray, .slice q.ad q.l.length q.cap] W fun e w' => e = .returned (.agg BN.toArray) ∧ Below W.heap.size W w')) := Lib.hid fun W hW => by
          have hbW := HB5.out.trans (hW.mono HB5.out.size)
          obtain ⟨c1, c2, c3, c4⟩ := HSRC.out W hbW
          exact ⟨range_block ((hW.block _ (lt_block H9'.out)).trans H9'.out), range_block ((hW.block _ (lt_block H10'.out)).trans H10'.out), c1, c2, c3, c4⟩
        refine wp_region_quiet_tailB 14 (by kernel_rfl) (by kernel_rfl) ?_
        simp only [List.take_succ_cons, List.take_zero, List.drop_succ_cons, List.drop_zero]
        iterate 1 (go_big_quiet_step (fail))
        refine wpQuiet_load_mid rfl 26 (.tmp 9) rfl (w.heap.size) 0 rfl AX _ (fun w' ⟨m, hw'⟩ => hw' ▸ (HI5.out _ m.below).1) Tryd.underlying26 rfl (infoHash _ hA32) ?_
        simp only [Act.put, List.setIfInBounds_toArray, List.set_cons_succ, List.set_cons_zero]
        iterate 3 (go_big_quiet_step (fail))
        refine wpQuiet_of_op rfl (.slice p.ad p.l.length p.cap) (fun w' ⟨m, hw'⟩ => by subst hw'; have c := (HI5.out _ m.below).2.2.1; go_simp) ?_
        simp only [Act.put, List.setIfInBounds_toArray, List.set_cons_succ, List.set_cons_zero]
        iterate 2 (go_big_quiet_step ((first | (go_at_call 21; first | with_reducible exact Calls.quiet_b (HI5.out _ (Bl.below _)).2.2.2.2.1 | with_reducible exact Calls.quiet_b (HI5.out _ (Bl.below _)).2.2.2.2.2))))
        refine wpQuiet_load_mid rfl 26 (.tmp 10) rfl (w.heap.size + 1) 0 rfl BX _ (fun w' ⟨m, hw'⟩ => hw' ▸ (HI5.out _ m.below).2.1) Tryd.underlying26 rfl (infoHash _ hB32) ?_
        simp only [Act.put, List.setIfInBounds_toArray, List.set_cons_succ, List.set_cons_zero]
        iterate 3 (go_big_quiet_step (fail))
        refine wpQuiet_of_op rfl (.slice q.ad q.l.length q.cap) (fun w' ⟨m, hw'⟩ => by subst hw'; have c := (HI5.out _ m.below).2.2.2.1; go_simp) ?_
        simp only [Act.put, List.setIfInBounds_toArray, List.set_cons_succ, List.set_cons_zero]
        iterate 1 (go_big_quiet_step ((first | (go_at_call 21; first | with_reducible exact Calls.quiet_b (HI5.out _ (Bl.below _)).2.2.2.2.1 | with_reducible exact Calls.quiet_b (HI5.out _ (Bl.below _)).2.2.2.2.2))))
        refine wpQuiet_nil ?_
        intro m0
        have hb6 := m0.below
        generalize m0.wr = W6 at *
        clear m0
        have d9 := (hb6.block _ (lt_block H9'.out)).trans H9'.out
        have d10 := (hb6.block _ (lt_block H10'.out)).trans H10'.out
        have t9 := there_block d9 0 32 (by omega)
        have hk1 : Kept1 (w.heap.size) W6 (W6.setCells (w.heap.size) 0 AN) := Kept1.setCells _ (Or.inl rfl) _ _ (Kept1.refl _ _)
        have e9 := heap_setCells _ _ AN 0 _ _ d9 (by omega)
        rw [over_all _ _ (by omega)] at e9
        have e10 := hk1.heap d10 (by omega)
        have t10 := there_block e10 0 32 (by omega)
        have hk2 : Kept1 (w.heap.size + 1) (W6.setCells (w.heap.size) 0 AN) ((W6.setCells (w.heap.size) 0 AN).setCells (w.heap.size + 1) 0 BN) := Kept1.setCells _ (Or.inl rfl) _ _ (Kept1.refl _ _)
        have f10 := heap_setCells _ _ BN 0 _ _ e10 (by omega)
        rw [over_all _ _ (by omega)] at f10
        have f9 := hk2.heap e9 (by omega)
        have hbf := Kept1.mono (Kept1.mono (HB5.out.trans (hb6.mono HB5.out.size)) hk1 (Nat.le_refl _)) hk2 (by omega)
        have R2 : ClRel w ps qs (k + 1) (.int .i64 (k : Int)) ((W6.setCells (w.heap.size) 0 AN).setCells (w.heap.size + 1) 0 BN) := by
          obtain ⟨LA, LB, hLA, hLB, hla, hlb, h⟩ := HLAST.out
          exact ⟨by rw [HAN.out]; exact f9, by rw [HBN.out]; exact f10, ⟨LA, LB, hLA, hLB, hk2.heap (hk1.heap ((hb6.block _ (lt_block hla)).trans hla) (by omega)) (by omega), hk2.heap (hk1.heap ((hb6.block _ (lt_block hlb)).trans hlb) (by omega)) (by omega), h⟩, hbf⟩
        have HR2 := Lib.hid R2
        clear d9 d10 e9 e10 f9 f10 hk1 hk2 hbf R2 hb6 HI5 HLAST HB5 H9' H10'
        go_wp2_with (first | (refine wpList_store_mid rfl 26 (.tmp 9) (.tmp 49) rfl (w.heap.size) 0 AN.toArray rfl rfl (by simpa [hAN32] using t9) (infoHash _ (by simpa using hAN32)) (all_oneCell_toArray hANone) ?_) | (refine wpList_store_mid rfl 26 (.tmp 10) (.tmp 56) rfl (w.heap.size + 1) 0 BN.toArray rfl rfl (by simpa [hBN32] using t10) (infoHash _ (by simpa using hBN32)) (all_oneCell_toArray hBNone) ?_))
        go_roundw
        case rel => exact ⟨k + 1, by omega, by go_num, HR2.out⟩
        case measure => simp [intOf]; omega
      · have HSAME := Lib.hid (show SameAt ps qs k from HSI.out.2 ⟨rfl, rfl⟩)
        clear HSI
        refine wp_region_quietB (by kernel_rfl) (by kernel_rfl) ?_
        refine wpQuiet_load_mid rfl 26 (.tmp 9) rfl (w.heap.size) 0 rfl AX _ (fun w' ⟨m, hw'⟩ => hw' ▸ (HIN.out _ m.below).1) Tryd.underlying26 rfl (infoHash _ hA32) ?_
        simp only [Act.put, List.setIfInBounds_toArray, List.set_cons_succ, List.set_cons_zero]
        refine wpQuiet_load_mid rfl 26 (.tmp 10) rfl (w.heap.size + 1) 0 rfl BX _ (fun w' ⟨m, hw'⟩ => hw' ▸ (HIN.out _ m.below).2.1) Tryd.underlying26 rfl (infoHash _ hB32) ?_
        simp only [Act.put, List.setIfInBounds_toArray, List.set_cons_succ, List.set_cons_zero]
        refine wpQuiet_of_op rfl (.bool false) (fun w' _ => by have k := HNE.out; have l := HGN.out; go_simp) ?_
        simp only [Act.put, List.setIfInBounds_toArray, List.set_cons_succ, List.set_cons_zero]
        iterate 4 (go_big_quiet_step (fail))
        refine wpQuiet_of_opG (by rfl) (.slice p.ad p.l.length p.cap) (fun w' ⟨m, hw'⟩ => by subst hw'; have c := (HIN.out _ m.below).2.2.1; go_simp) ?_
        simp only [Act.put, List.setIfInBounds_toArray, List.set_cons_succ, List.set_cons_zero]
        iterate 3 (go_big_quiet_step (fail))
        refine wpQuiet_of_opG (by rfl) (.slice q.ad q.l.length q.cap) (fun w' ⟨m, hw'⟩ => by subst hw'; have c := (HIN.out _ m.below).2.2.2.1; go_simp) ?_
        simp only [Act.put, List.setIfInBounds_toArray, List.set_cons_succ, List.set_cons_zero]
        iterate 3 (go_big_quiet_step ((go_at_call 23; with_reducible exact Calls.quiet_b (HIN.out _ (Bl.below _)).2.2.2.2.1)))
        refine wpQuiet_nil ?_
        intro m0
        have hb8 := m0.below
        have HBM := Lib.hid hb8
        have h9 := (hb8.block _ (lt_block HR.out.a)).trans HR.out.a
        have h10 := (hb8.block _ (lt_block HR.out.b)).trans HR.out.b
        rw [HAX.out] at h9
        rw [HBX.out] at h10
        have H9 := Lib.hid h9
        have H10 := Lib.hid h10
        generalize m0.wr = W1 at *
        clear m0 hb8 h9 h10
        have hlast : ∃ LA LB : List UInt8, LA.length = 32 ∧ LB.length = 32 ∧ W1.heap[w.heap.size + 1 + 1]? = some (.cells (LA.map B).toArray 26 (0, 0)) ∧ W1.heap[w.heap.size + 1 + 1 + 1]? = some (.cells (LB.map B).toArray 26 (0, 0)) ∧
            ((u13 = .int .i64 (-1) ∧ NoneAt ps qs (k + 1)) ∨ ∃ i : Nat, u13 = .int .i64 (i : Int) ∧ LastAt ps qs (k + 1) i ∧ LA = folded z32 (ps.take i) ∧ LB = folded z32 (qs.take i)) := by
          obtain ⟨LA, LB, hLA, hLB, hla, hlb, h⟩ := HR.out.last
          refine ⟨LA, LB, hLA, hLB, (HBM.out.block _ (lt_block hla)).trans hla, (HBM.out.block _ (lt_block hlb)).trans hlb, ?_⟩
          rcases h with ⟨h1, h2⟩ | ⟨i, h1, h2, h3, h4⟩
          · exact .inl ⟨h1, h2.succ HSAME.out⟩
          · exact .inr ⟨i, h1, h2.succ HSAME.out, h3, h4⟩
        have HLAST := Lib.hid hlast
        have H9' := H9
        have H10' := H10
        have HB5 := Lib.hid (HR.out.below.trans (HBM.out.mono HR.out.below.size))
        clear hlast HBM HR H9 H10
        generalize W1 = W5 at *
        go_wp2_with fail
        have HI5 : Hid (∀ W : World, Below W5.heap.size W5 W → W.rangeAt (w.heap.size) 0 AX ∧ W.rangeAt (w.heap.size + 1) 0 BX ∧ W.cell? ⟨gp, op + k, none⟩ = some (.slice p.ad p.l.length p.cap) ∧ W.cell? ⟨gq, oq + k, none⟩ = some (.slice q.ad q.l.length q.cap) ∧
            (Calls Tryd.prog 21 #[.agg AX.toArray, .slice p.ad p.l.length p.cap] W fun e w' => e = .returned (.agg AN.toArray) ∧ Below W.heap.size W w') ∧
            (Calls Tryd.prog 21 #[.agg BX.toArray, .slice q.ad q.l.length q.cap] W fun e w' => e = .returned (.agg BN.toArray) ∧ Below W.heap.size W w')) := Lib.hid fun W hW => by
          have hbW := HB5.out.trans (hW.mono HB5.out.size)
          obtain ⟨c1, c2, c3, c4⟩ := HSRC.out W hbW
          exact ⟨range_block ((hW.block _ (lt_block H9'.out)).trans H9'.out), range_block ((hW.block _ (lt_block H10'.out)).trans H10'.out), c1, c2, c3, c4⟩
        refine wp_region_quiet_tailB 14 (by kernel_rfl) (by kernel_rfl) ?_
        simp only [List.take_succ_cons, List.take_zero, List.drop_succ_cons, List.drop_zero]
        iterate 1 (go_big_quiet_step (fail))
        refine wpQuiet_load_mid rfl 26 (.tmp 9) rfl (w.heap.size) 0 rfl AX _ (fun w' ⟨m, hw'⟩ => hw' ▸ (HI5.out _ m.below).1) Tryd.underlying26 rfl (infoHash _ hA32) ?_
        simp only [Act.put, List.setIfInBounds_toArray, List.set_cons_succ, List.set_cons_zero]
        iterate 3 (go_big_quiet_step (fail))
        refine wpQuiet_of_op rfl (.slice p.ad p.l.length p.cap) (fun w' ⟨m, hw'⟩ => by subst hw'; have c := (HI5.out _ m.below).2.2.1; go_simp) ?_
        simp only [Act.put, List.setIfInBounds_toArray, List.set_cons_succ, List.set_cons_zero]
        iterate 2 (go_big_quiet_step ((first | (go_at_call 21; first | with_reducible exact Calls.quiet_b (HI5.out _ (Bl.below _)).2.2.2.2.1 | with_reducible exact Calls.quiet_b (HI5.out _ (Bl.below _)).2.2.2.2.2))))
        refine wpQuiet_load_mid rfl 26 (.tmp 10) rfl (w.heap.size + 1) 0 rfl BX _ (fun w' ⟨m, hw'⟩ => hw' ▸ (HI5.out _ m.below).2.1) Tryd.underlying26 rfl (infoHash _ hB32) ?_
        simp only [Act.put, List.setIfInBounds_toArray, List.set_cons_succ, List.set_cons_zero]
        iterate 3 (go_big_quiet_step (fail))
        refine wpQuiet_of_op rfl (.slice q.ad q.l.length q.cap) (fun w' ⟨m, hw'⟩ => by subst hw'; have c := (HI5.out _ m.below).2.2.2.1; go_simp) ?_
        simp only [Act.put, List.setIfInBounds_toArray, List.set_cons_succ, List.set_cons_zero]
        iterate 1 (go_big_quiet_step ((first | (go_at_call 21; first | with_reducible exact Calls.quiet_b (HI5.out _ (Bl.below _)).2.2.2.2.1 | with_reducible exact Calls.quiet_b (HI5.out _ (Bl.below _)).2.2.2.2.2))))
        refine wpQuiet_nil ?_
        intro m0
        have hb6 := m0.below
        generalize m0.wr = W6 at *
        clear m0
        have d9 := (hb6.block _ (lt_block H9'.out)).trans H9'.out
        have d10 := (hb6.block _ (lt_block H10'.out)).trans H10'.out
        have t9 := there_block d9 0 32 (by omega)
        have hk1 : Kept1 (w.heap.size) W6 (W6.setCells (w.heap.size) 0 AN) := Kept1.setCells _ (Or.inl rfl) _ _ (Kept1.refl _ _)
        have e9 := heap_setCells _ _ AN 0 _ _ d9 (by omega)
        rw [over_all _ _ (by omega)] at e9
        have e10 := hk1.heap d10 (by omega)
        have t10 := there_block e10 0 32 (by omega)
        have hk2 : Kept1 (w.heap.size + 1) (W6.setCells (w.heap.size) 0 AN) ((W6.setCells (w.heap.size) 0 AN).setCells (w.heap.size + 1) 0 BN) := Kept1.setCells _ (Or.inl rfl) _ _ (Kept1.refl _ _)
        have f10 := heap_setCells _ _ BN 0 _ _ e10 (by omega)
        rw [over_all _ _ (by omega)] at f10
        have f9 := hk2.heap e9 (by omega)
        have hbf := Kept1.mono (Kept1.mono (HB5.out.trans (hb6.mono HB5.out.size)) hk1 (Nat.le_refl _)) hk2 (by omega)
        have R2 : ClRel w ps qs (k + 1) (u13) ((W6.setCells (w.heap.size) 0 AN).setCells (w.heap.size + 1) 0 BN) := by
          obtain ⟨LA, LB, hLA, hLB, hla, hlb, h⟩ := HLAST.out
          exact ⟨by rw [HAN.out]; exact f9, by rw [HBN.out]; exact f10, ⟨LA, LB, hLA, hLB, hk2.heap (hk1.heap ((hb6.block _ (lt_block hla)).trans hla) (by omega)) (by omega), hk2.heap (hk1.heap ((hb6.block _ (lt_block hlb)).trans hlb) (by omega)) (by omega), h⟩, hbf⟩
        have HR2 := Lib.hid R2
        clear d9 d10 e9 e10 f9 f10 hk1 hk2 hbf R2 hb6 HI5 HLAST HB5 H9' H10'
        go_wp2_with (first | (refine wpList_store_mid rfl 26 (.tmp 9) (.tmp 49) rfl (w.heap.size) 0 AN.toArray rfl rfl (by simpa [hAN32] using t9) (infoHash _ (by simpa using hAN32)) (all_oneCell_toArray hANone) ?_) | (refine wpList_store_mid rfl 26 (.tmp 10) (.tmp 56) rfl (w.heap.size + 1) 0 BN.toArray rfl rfl (by simpa [hBN32] using t10) (infoHash _ (by simpa using hBN32)) (all_oneCell_toArray hBNone) ?_))
        go_roundw
        case rel => exact ⟨k + 1, by omega, by go_num, HR2.out⟩
        case measure => simp [intOf]; omega
    · have hd : decide ((k : Int) < (ps.length : Int)) = false := by simp; omega
      obtain rfl : k = ps.length := by omega
      obtain ⟨LA, LB, hLA, hLB, hla, hlb, hlast⟩ := HR.out.last
      have h9 := HR.out.a
      have h10 := HR.out.b
      rw [List.take_length] at h9
      rw [HLEN.out, List.take_length] at h10
      rcases hlast with ⟨rfl, hnone⟩ | ⟨i, rfl, hla1, rfl, rfl⟩
      · have HN := Lib.hid (same_of_none HLEN.out hnone)
        have HB := Lib.hid HR.out.below
        clear hnone hla hlb h9 h10 hLA hLB HR
        go_wp2_with fail
        exact bodyPost_ret (v := .tuple #[.slice none 0 0, .slice none 0 0, .bool false]) (by simp [results, Tryd.results25, go_sem]) rfl ⟨.none (.inl HN.out) rfl, HB.out⟩
      · have hi := hla1.lt
        have hi2 : i < qs.length := by have := HLEN.out; omega
        have HLA := Lib.hid hla1
        have HB := Lib.hid HR.out.below
        have hne := neqHash (folded z32 ps) (folded z32 qs) (length_folded z32 rfl _) (length_folded z32 rfl _)
        have hgn := fun x y => guardHash .neq (folded z32 ps) (folded z32 qs) x y
        have hA32 : ((folded z32 ps).map B).length = 32 := by simpa using length_folded z32 rfl ps
        have hB32 : ((folded z32 qs).map B).length = 32 := by simpa using length_folded z32 rfl qs
        have hr9 := range_block h9
        have hr10 := range_block h10
        have H11 := Lib.hid hla
        have H12 := Lib.hid hlb
        have hneg : decide ((i : Int) < 0) = false := decide_eq_false (by omega)
        clear hla1 HR hla hlb h9 h10
        obtain ⟨b, hb⟩ : ∃ b, (folded z32 ps == folded z32 qs) = b := ⟨_, rfl⟩
        rw [hb] at hne
        have HBB := Lib.hid hb
        clear hb
        generalize (folded z32 ps).map B = AX at *
        generalize (folded z32 qs).map B = BX at *
        cases b
        · go_wp2_with (first | (refine wpList_load_midG (by rfl) 26 (.tmp 9) rfl w.heap.size 0 rfl AX _ hr9 Tryd.underlying26 rfl (infoHash _ hA32) ?_) | (refine wpList_load_midG (by rfl) 26 (.tmp 10) rfl (w.heap.size + 1) 0 rfl BX _ hr10 Tryd.underlying26 rfl (infoHash _ hB32) ?_))
          exact bodyPost_ret (v := .tuple #[.slice none 0 0, .slice none 0 0, .bool false]) (by simp [results, Tryd.results25, go_sem]) rfl ⟨.none (.inr (.inr (by simpa using HBB.out))) rfl, HB.out⟩
        · have HF := Lib.hid (show folded z32 ps = folded z32 qs by simpa using HBB.out)
          obtain rfl := HP.out.at' (by intro e; rw [e] at hi; cases hi)
          obtain rfl := HQ.out.at' (by intro e; rw [e] at hi2; cases hi2)
          have HTX := Lib.hid (clash_texts HLEN.out HLA.out HF.out hi hi2)
          have HNS : Hid (txs ps ≠ txs qs) := Lib.hid fun h => HLA.out.ne (none_of_same h i)
          have HW : Hid (∀ W : World, Below wr.heap.size wr W → W.rangeAt (w.heap.size + 1 + 1) 0 ((folded z32 (ps.take i)).map B) ∧ W.rangeAt (w.heap.size + 1 + 1 + 1) 0 ((folded z32 (qs.take i)).map B) ∧ W.cell? ⟨gp, op + i, none⟩ = some (.slice ps[i].ad ps[i].l.length ps[i].cap) ∧ W.cell? ⟨gq, oq + i, none⟩ = some (.slice qs[i].ad qs[i].l.length qs[i].cap)) := Lib.hid fun W hW => by
            have hbW := HB.out.trans (hW.mono HB.out.size)
            exact ⟨range_block ((hW.block _ (lt_block H11.out)).trans H11.out), range_block ((hW.block _ (lt_block H12.out)).trans H12.out), by rw [hbW.cell (by exact HP.out.lt), HP.out.cell i hi]; rfl, by rw [hbW.cell (by exact HQ.out.lt), HQ.out.cell i hi2]; rfl⟩
          have HK1 : Hid (∀ W : World, Below wr.heap.size wr W → Calls Tryd.prog 31 #[.agg ((folded z32 (ps.take i)).map B).toArray, .slice ps[i].ad ps[i].l.length ps[i].cap] W fun e w' => ∃ x : Part, e = .returned (.slice x.ad x.l.length x.cap) ∧ x.l = linkT (folded z32 (ps.take i)) ps[i].l ∧ x.In w' ∧ Below W.heap.size W w') := Lib.hid fun W hW => by
            have hbW := HB.out.trans (hW.mono HB.out.size)
            exact linked_any W _ (length_folded z32 rfl _) ps[i] ((HP.out.parts _ (List.getElem_mem hi)).below hbW) (HNP.out _ (List.getElem_mem hi)) (HLP.out _ (List.getElem_mem hi))
          have HK2 : Hid (∀ W : World, Below wr.heap.size wr W → Calls Tryd.prog 31 #[.agg ((folded z32 (qs.take i)).map B).toArray, .slice qs[i].ad qs[i].l.length qs[i].cap] W fun e w' => ∃ x : Part, e = .returned (.slice x.ad x.l.length x.cap) ∧ x.l = linkT (folded z32 (qs.take i)) qs[i].l ∧ x.In w' ∧ Below W.heap.size W w') := Lib.hid fun W hW => by
            have hbW := HB.out.trans (hW.mono HB.out.size)
            exact linked_any W _ (length_folded z32 rfl _) qs[i] ((HQ.out.parts _ (List.getElem_mem hi2)).below hbW) (HNQ.out _ (List.getElem_mem hi2)) (HLQ.out _ (List.getElem_mem hi2))
          have HX1 : Hid ((linkT (folded z32 (ps.take i)) ps[i].l).length ≤ 2000) := Lib.hid (by
            have := HLP.out _ (List.getElem_mem hi)
            have h32 := length_folded z32 rfl (ps.take i)
            unfold linkT; simp [len4, h32]; omega)
          have HX2 : Hid ((linkT (folded z32 (qs.take i)) qs[i].l).length ≤ 2000) := Lib.hid (by
            have := HLQ.out _ (List.getElem_mem hi2)
            have h32 := length_folded z32 rfl (qs.take i)
            unfold linkT; simp [len4, h32]; omega)
          have hlA : ((folded z32 (ps.take i)).map B).length = 32 := by simpa using length_folded z32 rfl (ps.take i)
          have hlB : ((folded z32 (qs.take i)).map B).length = 32 := by simpa using length_folded z32 rfl (qs.take i)
          have hpl : (i : Int) < (ps.length : Int) := by omega
          clear HBB H11 H12 HLA
          generalize ps[i] = p at *
          generalize qs[i] = q at *
          generalize linkT (folded z32 (ps.take i)) p.l = TA at *
          generalize linkT (folded z32 (qs.take i)) q.l = TB at *
          generalize (folded z32 (ps.take i)).map B = LAX at *
          generalize (folded z32 (qs.take i)).map B = LBX at *
          go_wp2_with (first | (refine wpList_load_midG (by rfl) 26 (.tmp 9) rfl w.heap.size 0 rfl AX _ hr9 Tryd.underlying26 rfl (infoHash _ hA32) ?_) | (refine wpList_load_midG (by rfl) 26 (.tmp 10) rfl (w.heap.size + 1) 0 rfl BX _ hr10 Tryd.underlying26 rfl (infoHash _ hB32) ?_))
          clear hne hgn hr9 hr10
          refine wp_region_held (S := fun W => Below wr.heap.size wr W) (by kernel_rfl) ?_
          change wpAnyH _ _ _ _ _ _ _ _ (World.drew _)
          have hS0 : Below wr.heap.size wr wr.drew := (Below.refl _ _).drew
          generalize wr.drew = W2 at *
          refine held_take (i := 0) (some 65) rfl (by rfl) (by kernel_rfl) (by kernel_rfl) (by kernel_rfl) (.agg LAX.toArray) (fun _ _ _ h => h) (by rfl) (fun w0 hS => by exact run_load_op 26 (.tmp 11) (by rfl) (w.heap.size + 1 + 1) 0 (by rfl) LAX _ (HW.out _ hS).1 Tryd.underlying26 rfl (infoHash _ hlA)) hS0 ?_
          simp only [Act.put, List.setIfInBounds_toArray, List.set_cons_succ, List.set_cons_zero]
          refine held_take (i := 1) (some 66) rfl (by rfl) (by kernel_rfl) (by kernel_rfl) (by kernel_rfl) (.slice (some ⟨gp, op, none⟩) ps.length cp) (fun _ _ _ h => h) (by rfl) (fun w0 hS => by clear hS; go_simp; try with_reducible rfl) hS0 ?_
          simp only [Act.put, List.setIfInBounds_toArray, List.set_cons_succ, List.set_cons_zero]
          refine held_take (i := 2) (some 67) rfl (by rfl) (by kernel_rfl) (by kernel_rfl) (by kernel_rfl) (.int .i64 (i : Int)) (fun _ _ _ h => h) (by rfl) (fun w0 hS => by clear hS; go_simp; try with_reducible rfl) hS0 ?_
          simp only [Act.put, List.setIfInBounds_toArray, List.set_cons_succ, List.set_cons_zero]
          refine held_take (i := 3) (some 68) rfl (by rfl) (by kernel_rfl) (by kernel_rfl) (by kernel_rfl) (.pointer (some ⟨gp, op + i, none⟩)) (fun _ _ _ h => h) (by rfl) (fun w0 hS => by clear hS; go_simp; try with_reducible rfl) hS0 ?_
          simp only [Act.put, List.setIfInBounds_toArray, List.set_cons_succ, List.set_cons_zero]
          refine held_take (i := 4) (some 69) rfl (by rfl) (by kernel_rfl) (by kernel_rfl) (by kernel_rfl) (.slice p.ad p.l.length p.cap) (fun _ _ _ h => h) (by rfl) (fun w0 hS => by have c := (HW.out _ hS).2.2.1; clear hS; go_simp; try with_reducible rfl) hS0 ?_
          simp only [Act.put, List.setIfInBounds_toArray, List.set_cons_succ, List.set_cons_zero]
          refine held_take (i := 6) (some 71) rfl (by rfl) (by kernel_rfl) (by kernel_rfl) (by kernel_rfl) (.agg LBX.toArray) (fun _ _ _ h => h) (by rfl) (fun w0 hS => by exact run_load_op 26 (.tmp 12) (by rfl) (w.heap.size + 1 + 1 + 1) 0 (by rfl) LBX _ (HW.out _ hS).2.1 Tryd.underlying26 rfl (infoHash _ hlB)) hS0 ?_
          simp only [Act.put, List.setIfInBounds_toArray, List.set_cons_succ, List.set_cons_zero]
          refine held_take (i := 7) (some 72) rfl (by rfl) (by kernel_rfl) (by kernel_rfl) (by kernel_rfl) (.slice (some ⟨gq, oq, none⟩) ps.length cq) (fun _ _ _ h => h) (by rfl) (fun w0 hS => by clear hS; go_simp; try with_reducible rfl) hS0 ?_
          simp only [Act.put, List.setIfInBounds_toArray, List.set_cons_succ, List.set_cons_zero]
          refine held_take (i := 8) (some 73) rfl (by rfl) (by kernel_rfl) (by kernel_rfl) (by kernel_rfl) (.int .i64 (i : Int)) (fun _ _ _ h => h) (by rfl) (fun w0 hS => by clear hS; go_simp; try with_reducible rfl) hS0 ?_
          simp only [Act.put, List.setIfInBounds_toArray, List.set_cons_succ, List.set_cons_zero]
          refine held_take (i := 9) (some 74) rfl (by rfl) (by kernel_rfl) (by kernel_rfl) (by kernel_rfl) (.pointer (some ⟨gq, oq + i, none⟩)) (fun _ _ _ h => h) (by rfl) (fun w0 hS => by clear hS; go_simp; try with_reducible rfl) hS0 ?_
          simp only [Act.put, List.setIfInBounds_toArray, List.set_cons_succ, List.set_cons_zero]
          refine held_take (i := 10) (some 75) rfl (by rfl) (by kernel_rfl) (by kernel_rfl) (by kernel_rfl) (.slice q.ad q.l.length q.cap) (fun _ _ _ h => h) (by rfl) (fun w0 hS => by have c := (HW.out _ hS).2.2.2; clear hS; go_simp; try with_reducible rfl) hS0 ?_
          simp only [Act.put, List.setIfInBounds_toArray, List.set_cons_succ, List.set_cons_zero]
          refine held_call (i := 5) (some 70) rfl (by rfl) (by kernel_rfl) (by rfl) 31 #[.agg LAX.toArray, .slice p.ad p.l.length p.cap] (by go_simp; try with_reducible rfl) ((HK1.out W2 hS0).mono ?_)
          rintro e w3 ⟨x, rfl, hxl, hxin, hb3⟩
          have hS3 : Below wr.heap.size wr w3 := hS0.trans (hb3.mono hS0.size)
          refine ⟨_, rfl, hS3, ?_⟩
          simp only [Act.put, List.setIfInBounds_toArray, List.set_cons_succ, List.set_cons_zero]
          refine held_call (i := 11) (some 76) rfl (by rfl) (by kernel_rfl) (by rfl) 31 #[.agg LBX.toArray, .slice q.ad q.l.length q.cap] (by go_simp; try with_reducible rfl) ((HK2.out w3 hS3).mono ?_)
          rintro e w4 ⟨y, rfl, hyl, hyin, hb4⟩
          have hS4 : Below wr.heap.size wr w4 := hS3.trans (hb4.mono hS3.size)
          refine ⟨_, rfl, hS4, ?_⟩
          simp only [Act.put, List.setIfInBounds_toArray, List.set_cons_succ, List.set_cons_zero]
          refine held_run (i := 12) (some 6) rfl (by rfl) (by kernel_rfl) (by rfl) (.slice x.ad x.l.length x.cap) w4 (by go_simp; try with_reducible rfl) hS4 ?_
          simp only [Act.put, List.setIfInBounds_toArray, List.set_cons_succ, List.set_cons_zero]
          refine held_run (i := 13) (some 7) rfl (by rfl) (by kernel_rfl) (by rfl) (.slice y.ad y.l.length y.cap) w4 (by go_simp; try with_reducible rfl) hS4 ?_
          simp only [Act.put, List.setIfInBounds_toArray, List.set_cons_succ, List.set_cons_zero]
          refine held_run (i := 14) (some 8) rfl (by rfl) (by kernel_rfl) (by rfl) (.bool true) w4 (by go_simp; try with_reducible rfl) hS4 ?_
          simp only [Act.put, List.setIfInBounds_toArray, List.set_cons_succ, List.set_cons_zero]
          refine wpAnyH_done (by kernel_rfl) ?_ _
          have HBE := Lib.hid (HB.out.trans (hS4.mono HB.out.size))
          have HXI := Lib.hid (hxin.below hb4)
          have HYI := Lib.hid hyin
          have HXL := Lib.hid hxl
          have HYL := Lib.hid hyl
          clear hS0 hS3 hS4 hb3 hb4 hxin hyin hxl hyl
          go_wp2_with fail
          exact bodyPost_ret (v := .tuple #[.slice x.ad x.l.length x.cap, .slice y.ad y.l.length y.cap, .bool true]) (by simp [results, Tryd.results25, go_sem]) rfl ⟨.some HNS.out HLEN.out HF.out x y rfl HXI.out HYI.out (by rw [HXL.out, HYL.out]; exact HTX.out.1) (by rw [HXL.out, HYL.out]; exact HTX.out.2) (by rw [HXL.out]; exact HX1.out) (by rw [HYL.out]; exact HX2.out), HBE.out⟩
end Go.Proofs.YtmegncaadglhmaaDoor
