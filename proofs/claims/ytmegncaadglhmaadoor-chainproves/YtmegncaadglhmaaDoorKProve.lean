/- The proof of a place: the call. -/
import Derived.Test.YtmegncaadglhmaaDoorKProves
import Derived.Test.YtmegncaadglhmaaDoorKClone
namespace Go.Proofs.YtmegncaadglhmaaDoor
open Go.RowKit

theorem PartsIn.take {w : World} {ap : Option Addr} {gp op : Nat} {ps : List Part} (h : PartsIn w ap gp op ps) (k : Nat) : PartsIn w ap gp op (ps.take k) :=
  ⟨fun hne => h.at' (by intro e; rw [e] at hne; simp at hne), fun i hi => by
    have hi' : i < ps.length := by simp at hi; omega
    rw [h.cell i hi']; simp, h.lt, fun p hp => h.parts p (List.mem_of_mem_take hp)⟩
theorem PartsIn.drop {w : World} {gp op : Nat} {ps : List Part} (h : PartsIn w (some ⟨gp, op, none⟩) gp op ps) (k : Nat) : PartsIn w (some ⟨gp, op + k, none⟩) gp (op + k) (ps.drop k) :=
  ⟨fun _ => rfl, fun i hi => by
    have hi' : k + i < ps.length := by simp at hi; omega
    rw [Nat.add_assoc, h.cell (k + i) hi']; simp, h.lt, fun p hp => h.parts p (List.mem_of_mem_drop hp)⟩
theorem zeroProof : (Tryd.prog.info? 38).bind (·.zero) = some (.agg (PC z32 0 (.slice none 0 0)).toArray) := by kernel_rfl
theorem zeroProofV : ∀ w, (zeroValue 38).run Tryd.prog w = .ok (.agg (PC z32 0 (.slice none 0 0)).toArray) w := fun _ => by kernel_rfl
theorem placesProof : ∃ fields, Tryd.prog.underlying 38 = some (.struct fields) ∧ fields.toList.mapM (fun f => (Tryd.prog.info? f.type).map fun i => (f.offset, i.size)) = some [(0, 33), (33, 1)] := ⟨_, Tryd.underlying38, by kernel_rfl⟩
theorem builtProof0 : Tryd.prog.built 38 [] = some (PC z32 0 (.slice none 0 0)).toArray := by kernel_rfl
theorem builtProof (P : List UInt8) (hP : P.length = 32) (n : Int) (a : Option Addr) (len cap : Nat) : Tryd.prog.built 38 [(0, .agg (HC P n).toArray), (1, .slice a len cap)] = some (PC P n (.slice a len cap)).toArray := by
  obtain ⟨fields, hu, hp⟩ := placesProof
  rw [built_struct _ _ fields _ _ hu zeroProof hp]
  have hX : (HC P n).length = 33 := length_HC P hP n
  have hz : (PC z32 0 (.slice none 0 0)).length = 34 := rfl
  show Instr.fill _ (PC z32 0 (.slice none 0 0)).toArray _ = _
  unfold PC at *
  generalize HC P n = X at *
  generalize HC z32 0 ++ [Value.slice none 0 0] = Z at *
  have l1 : (over Z 0 X).length = 34 := by rw [length_over _ _ _ (by omega), hz]
  rw [fill_cons _ Z 0 _ X rfl 0 (by simp [hX]) (by omega), fill_cons _ _ 1 _ [Value.slice a len cap] rfl 33 rfl (by rw [l1]; simp)]
  simp only [Instr.fill]
  congr 2
  apply List.ext_getElem?
  intro i
  simp only [over, List.getElem?_append, List.length_take, List.getElem?_take, List.getElem?_drop, List.length_cons, List.length_nil, List.length_append, List.length_drop]
  grind

theorem results_cell_tmp {P : Program} {fn : Func} {p q : Tmp} {ty : TypeId} (h : fn.results = #[.cell p ty, .tmp q]) (tmps : Array Value) (w : World) (g : Nat) (t : TypeId) (cs : Array Value) (fr : Nat × Nat) (d : TypeDesc)
    (hp : tmps.getD p undef = .pointer (some ⟨g, 0, none⟩)) (hg : w.heap[g]? = some (.cells cs t fr))
    (hu : P.underlying ty = some d) (hd : (match d with | .struct _ | .array _ _ => true | _ => false) = true) (hi : (P.info? ty).map (·.size) = some cs.size) (v : Value) (hv : tmps.getD q undef = v) :
    (results fn tmps).run P w = .ok (.tuple #[.agg cs, v]) w := by
  have hp' : tmps[p]?.getD undef = .pointer (some ⟨g, 0, none⟩) := by simpa using hp
  have hv' : tmps[q]?.getD undef = v := by simpa using hv
  simp [results, h, hp', hv', asAddr, run_loadVar_row w g t ty cs fr d hg hu hd hi]

set_option maxRecDepth 100000 in
set_option maxHeartbeats 1000000 in
theorem prove_none (w : World) (ap : Option Addr) (len cp : Nat) (place : Int) (hpl : place < 0 ∨ (len : Int) ≤ place) :
    Calls Tryd.prog 14 #[.slice ap len cp, .int .i64 place] w fun e w' => e = .returned (.tuple #[.agg (PC z32 0 (.slice none 0 0)).toArray, .int .i64 8]) ∧ Below w.heap.size w w' := by
  have hz := zeroProofV
  have hZ34 : (PC z32 0 (.slice none 0 0)).length = 34 := rfl
  have hZone := one_PC z32 0 (.slice none 0 0) rfl
  have HBU := Lib.hid builtProof0
  generalize PC z32 0 (.slice none 0 0) = Z at *
  have hthere := there_block (heap_alloc_new w (.cells Z.toArray 38)) 0 34 (by omega)
  have hend := heap_setCells _ _ Z 0 _ _ (heap_alloc_new w (.cells Z.toArray 38)) (by omega)
  rw [over_all _ _ (by omega)] at hend
  have hbe : Below w.heap.size w ((w.alloc (.cells Z.toArray 38)).setCells w.heap.size 0 Z) :=
    (Kept1.setCells (b := w.heap.size) w.heap.size (Or.inl rfl) Z 0 ((Kept1.refl _ _).alloc _)).below (Nat.le_refl _)
  have HE := Lib.hid hend
  have HB := Lib.hid hbe
  clear hend hbe
  obtain ⟨b1, hb1⟩ : ∃ b, decide (place < 0) = b := ⟨_, rfl⟩
  cases b1
  · have hb2 : decide ((len : Int) ≤ place) = true := by
      rcases hpl with h | h
      · rw [decide_eq_true h] at hb1; cases hb1
      · exact decide_eq_true h
    clear hpl
    go_enter Tryd.func14, Tryd.ntmps14
    go_wp2_with (first | (refine wpList_buildd rfl 38 #[] rfl [] (by kernel_rfl) Z.toArray HBU.out ?_) | (refine wpList_store_mid rfl 38 (.tmp 4) (.tmp 14) rfl w.heap.size 0 Z.toArray rfl rfl (by simpa [hZ34] using hthere) (infoProof _ (by simpa using hZ34)) (all_oneCell_toArray hZone) ?_))
    exact bodyPost_ret (results_cell_tmp Tryd.results14 _ _ w.heap.size 38 Z.toArray (0, 0) _ rfl HE.out Tryd.underlying38 rfl (infoProof _ (by simpa using hZ34)) (.int .i64 8) rfl) rfl ⟨rfl, HB.out⟩
  · clear hpl
    go_enter Tryd.func14, Tryd.ntmps14
    go_wp2_with (first | (refine wpList_buildd rfl 38 #[] rfl [] (by kernel_rfl) Z.toArray HBU.out ?_) | (refine wpList_store_mid rfl 38 (.tmp 4) (.tmp 14) rfl w.heap.size 0 Z.toArray rfl rfl (by simpa [hZ34] using hthere) (infoProof _ (by simpa using hZ34)) (all_oneCell_toArray hZone) ?_))
    exact bodyPost_ret (results_cell_tmp Tryd.results14 _ _ w.heap.size 38 Z.toArray (0, 0) _ rfl HE.out Tryd.underlying38 rfl (infoProof _ (by simpa using hZ34)) (.int .i64 8) rfl) rfl ⟨rfl, HB.out⟩

set_option maxRecDepth 100000 in
set_option maxHeartbeats 1000000 in
theorem prove_any (w : World) (ps : List Part) (gp op cp : Nat) (hcap : ps.length ≤ cp) (_ : cp ≤ maxLen) (place : Nat) (hpl : place < ps.length) (hp : PartsIn w (some ⟨gp, op, none⟩) gp op ps) (ht : Tab w) (hl : ∀ p ∈ ps, p.l.length ≤ 1000) (hm : ps.length ≤ 1000) :
    Calls Tryd.prog 14 #[.slice (some ⟨gp, op, none⟩) ps.length cp, .int .i64 (place : Int)] w fun e w' => ∃ (qs : List Part) (G : Nat), e = .returned (.tuple #[.agg (PC (folded z32 (ps.take place)) place (.slice (some ⟨G, 0, none⟩) qs.length qs.length)).toArray, .int .i64 0]) ∧
      txs qs = txs (ps.drop place) ∧ qs.length = ps.length - place ∧ PartsIn w' (some ⟨G, 0, none⟩) G 0 qs ∧ (∀ q ∈ qs, q.ad = none → q.cap = 0) ∧ Below w.heap.size w w' := by
  have h0 := ht.size
  have hz := zeroProofV
  have hZ34 : (PC z32 0 (.slice none 0 0)).length = 34 := rfl
  have HA : Hid (∀ W, Below w.heap.size w W → Calls Tryd.prog 10 #[.slice (some ⟨gp, op, none⟩) place cp] W fun e w' => e = .returned (.agg (HC (folded z32 (ps.take place)) place).toArray) ∧ Below W.heap.size W w') := Lib.hid (by
    intro W hW
    have := all_any W (ps.take place) (some ⟨gp, op, none⟩) gp op cp ((hp.below hW).take place) (ht.below hW h0) (fun p hp => hl p (List.mem_of_mem_take hp)) (by simp; omega)
    rw [show (ps.take place).length = place by simp; omega] at this
    exact this)
  have HCl : Hid (∀ W, Below w.heap.size w W → Calls Tryd.prog 22 #[.slice (some ⟨gp, op + place, none⟩) (ps.length - place) (cp - place)] W fun e w' => ∃ (qs : List Part) (G : Nat), e = .returned (.slice (some ⟨G, 0, none⟩) qs.length qs.length) ∧ txs qs = txs (ps.drop place) ∧ qs.length = ps.length - place ∧ PartsIn w' (some ⟨G, 0, none⟩) G 0 qs ∧ (∀ q ∈ qs, q.ad = none → q.cap = 0) ∧ (W.heap.size ≤ G ∧ ∀ q ∈ qs, q.l ≠ [] → W.heap.size < q.g) ∧ Below W.heap.size W w') := Lib.hid (by
    intro W hW
    have := cloned_any W (ps.drop place) (some ⟨gp, op + place, none⟩) gp (op + place) (cp - place) ((hp.below hW).drop place) (fun p hp => hl p (List.mem_of_mem_drop hp)) (by simp; omega)
    have hdl : (ps.drop place).length = ps.length - place := List.length_drop
    rw [hdl] at this
    refine this.mono ?_
    rintro e w' ⟨qs, rfl, h1, h2, h3, h4, h6, h5⟩
    exact ⟨qs, W.heap.size, by rw [h2], h1, h2, h3, h4, ⟨Nat.le_refl _, h6⟩, h5⟩)
  have HBU := Lib.hid (fun (a : Option Addr) (len cap : Nat) => builtProof (folded z32 (ps.take place)) (length_folded z32 rfl _) place a len cap)
  have HPL := Lib.hid (fun S => length_PC (folded z32 (ps.take place)) (length_folded z32 rfl _) place S)
  have HPO := Lib.hid (fun S hS => one_PC (folded z32 (ps.take place)) place S hS)
  clear hp ht hl
  generalize PC z32 0 (.slice none 0 0) = Z at *
  generalize HC (folded z32 (ps.take place)) place = D at *
  have hd1 : decide ((place : Int) < 0) = false := decide_eq_false (by omega)
  have hd2 : decide ((ps.length : Int) ≤ (place : Int)) = false := decide_eq_false (by omega)
  go_enter Tryd.func14, Tryd.ntmps14
  go_wp2_with fail
  generalize hW : World.alloc _ _ = W0 at *
  have gR : W0.heap[w.heap.size]? = some (.cells Z.toArray 38 (0, 0)) := by rw [← hW]; exact heap_alloc_new _ _
  have hb0 : Below w.heap.size w W0 := by rw [← hW]; exact (Below.refl _ _).alloc (Nat.le_refl _) _
  have GR := Lib.hid gR
  have HB0 := Lib.hid hb0
  clear hW gR hb0
  refine wp_region_quiet_tailB 7 (by kernel_rfl) (by kernel_rfl) ?_
  simp only [List.take_succ_cons, List.take_zero, List.drop_succ_cons, List.drop_zero]
  iterate 7 (go_big_quiet_step ((go_at_call 10; with_reducible exact Calls.quiet_b (HA.out _ (HB0.out.trans ((Bl.below _).mono HB0.out.size))))))
  refine wpQuiet_nil ?_
  intro m
  have HBM := Lib.hid (HB0.out.trans (m.below.mono HB0.out.size))
  have GM := Lib.hid ((m.below.block _ (lt_block GR.out)).trans GR.out)
  generalize m.wr = W1 at *
  clear m HB0 GR HA
  go_wp2_with fail
  refine (HCl.out W1 HBM.out).mono ?_
  rintro e w2 ⟨qs, G, rfl, h1, h2, h3, h4, h6, h5⟩
  have hlt1 : w.heap.size < W1.heap.size := lt_block GM.out
  have hat := (h5.block _ (lt_block GM.out)).trans GM.out
  have hbel := HBM.out.trans (h5.mono HBM.out.size)
  have hbu := HBU.out (some ⟨G, 0, none⟩) qs.length qs.length
  have hK34 := HPL.out (.slice (some ⟨G, 0, none⟩) qs.length qs.length)
  have hKone := HPO.out (.slice (some ⟨G, 0, none⟩) qs.length qs.length) rfl
  have HQS := Lib.hid h1
  have HQL := Lib.hid h2
  have HQN := Lib.hid h4
  generalize hK : PC (folded z32 (ps.take place)) place (.slice (some ⟨G, 0, none⟩) qs.length qs.length) = K at *
  have HK := Lib.hid hK
  have hthere := there_block hat 0 34 (by omega)
  have hend := heap_setCells _ _ K 0 _ _ hat (by omega)
  rw [over_all _ _ (by omega)] at hend
  have hk1 : Kept1 w.heap.size w2 (w2.setCells w.heap.size 0 K) := Kept1.setCells _ (Or.inl rfl) _ _ (Kept1.refl _ _)
  have hbe := Kept1.mono hbel hk1 (Nat.le_refl _)
  have HE := Lib.hid hend
  have HB := Lib.hid hbe
  have HBU2 := Lib.hid hbu
  have H3 := Lib.hid (h3.kept hk1 (by have := h6.1; omega) (fun q hq hne => by have := h6.2 q hq hne; omega))
  clear hat hbel hbu h1 h2 h3 h4 h5 h6 hend hbe hk1 hK HCl HBM GM
  go_wp2_with (first | (refine wpList_buildd rfl 38 #[(0, .tmp 18), (1, .tmp 22)] rfl [(0, .agg D.toArray), (1, .slice (some ⟨G, 0, none⟩) qs.length qs.length)] (by kernel_rfl) K.toArray HBU2.out ?_) | (refine wpList_store_mid rfl 38 (.tmp 4) (.tmp 23) rfl w.heap.size 0 K.toArray rfl rfl (by simpa [hK34] using hthere) (infoProof _ (by simpa using hK34)) (all_oneCell_toArray hKone) ?_))
  exact bodyPost_ret (results_cell_tmp Tryd.results14 _ _ w.heap.size 38 K.toArray (0, 0) _ rfl HE.out Tryd.underlying38 rfl (infoProof _ (by simpa using hK34)) (.int .i64 0) rfl) rfl ⟨qs, G, by rw [HK.out], HQS.out, HQL.out, H3.out, HQN.out, HB.out⟩
end Go.Proofs.YtmegncaadglhmaaDoor
