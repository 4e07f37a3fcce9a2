/- Whether a proof proves: the call. -/
import Derived.Test.YtmegncaadglhmaaDoorKQuiet
namespace Go.Proofs.YtmegncaadglhmaaDoor
open Go.RowKit

/-- a proof's cells -/
def PC (Q : List UInt8) (m : Int) (S : Value) : List Value := HC Q m ++ [S]
theorem length_PC (Q : List UInt8) (hQ : Q.length = 32) (m : Int) (S : Value) : (PC Q m S).length = 34 := by simp [PC, HC, hQ]
theorem one_PC (Q : List UInt8) (m : Int) (S : Value) (hS : S.oneCell' = true) : ∀ v ∈ PC Q m S, v.oneCell' = true := by
  intro v hv
  rcases List.mem_append.1 hv with h | h
  · exact one_HC Q m v h
  · obtain rfl := List.mem_singleton.1 h; exact hS
/-- a proof that lies in memory -/
structure ProofAt (W : World) (g : Nat) (Q : List UInt8) (m : Int) (S : Value) : Prop where
  hash : W.rangeAt g 0 (Q.map B)
  head : W.rangeAt g 0 (HC Q m)
  all : W.rangeAt g 0 (PC Q m S)
  count : W.cell? ⟨g, 32, none⟩ = some (.int .i64 m)
  recs : W.cell? ⟨g, 33, none⟩ = some S
theorem proof_at {W : World} {g : Nat} {Q : List UInt8} {m : Int} {S : Value} {t : TypeId} {fr : Nat × Nat} (hQ : Q.length = 32) (h : W.heap[g]? = some (.cells (PC Q m S).toArray t fr)) : ProofAt W g Q m S := by
  refine ⟨fun j v hv => ?_, fun j v hv => ?_, range_block h, ?_, ?_⟩
  · have hj := (List.getElem?_eq_some_iff.1 hv).1
    rw [Nat.zero_add, cell_block h, List.getElem?_toArray, PC, HC, List.getElem?_append_left (by simp at hj ⊢; omega), List.getElem?_append_left hj]
    exact hv
  · have hj := (List.getElem?_eq_some_iff.1 hv).1
    rw [Nat.zero_add, cell_block h, List.getElem?_toArray, PC, List.getElem?_append_left hj]
    exact hv
  · rw [cell_block h, List.getElem?_toArray, PC, HC, List.append_assoc, List.getElem?_append_right (by simp [hQ])]
    simp [hQ]
  · rw [cell_block h, List.getElem?_toArray, PC, List.getElem?_append_right (by simp [HC, hQ])]
    simp [HC, hQ]
theorem infoProof (n : Nat) (h : n = 34) : (Tryd.prog.info? 38).map (·.size) = some n := by subst h; kernel_rfl
/-- what Proves tells -/
def provesB (P : List UInt8) (n place : Int) (l : List UInt8) (Q : List UInt8) (m : Int) (ps : List Part) : Bool :=
  m == place && (match ps with | [] => false | p :: _ => p.l == l) && (folded Q ps == P && m + (ps.length : Int) == n)

set_option maxRecDepth 100000 in
set_option maxHeartbeats 2000000 in
theorem proves_any (w : World) (P : List UInt8) (hP : P.length = 32) (n place : Int) (r : Part) (hr : r.In w) (Q : List UInt8) (hQ : Q.length = 32) (m : Int) (hm : -9223372036854775808 ≤ m ∧ m ≤ 4611686018427380000)
    (ps : List Part) (ap : Option Addr) (gp op cp : Nat) (hp : PartsIn w ap gp op ps) (ht : Tab w) (hl : ∀ p ∈ ps, p.l.length ≤ 1000) (hlen : ps.length ≤ 1000) :
    Calls Tryd.prog 16 #[HV P n, .int .i64 place, .slice r.ad r.l.length r.cap, .agg (PC Q m (.slice ap ps.length cp)).toArray] w fun e w' => e = .returned (.bool (provesB P n place r.l Q m ps)) ∧ Below w.heap.size w w' := by
  have h0 := ht.size
  have hL33 := length_HC P hP n
  have hone := one_HC P n
  have hK34 := length_PC Q hQ m (.slice ap ps.length cp)
  have hKone := one_PC Q m (.slice ap ps.length cp) rfl
  unfold HV
  by_cases hpl : m = place
  case neg =>
    have hd : (m != place) = true := by simpa using hpl
    have hB : provesB P n place r.l Q m ps = false := by simp [provesB, hpl]
    rw [hB]
    have HPA : Hid (∀ W : World, W.heap[w.heap.size + 1]? = some (.cells (PC Q m (.slice ap ps.length cp)).toArray 38 (0, 0)) → ProofAt W (w.heap.size + 1) Q m (.slice ap ps.length cp)) := Lib.hid fun W h => proof_at hQ h
    generalize HC P n = L at *
    generalize PC Q m (.slice ap ps.length cp) = K at *
    clear hp hr ht hl hB
    go_enter Tryd.func16, Tryd.ntmps16
    have g7 : ((w.alloc (.cells L.toArray 28)).alloc (.cells K.toArray 38)).heap[w.heap.size + 1]? = some (.cells K.toArray 38 (0, 0)) := heap_alloc2_new _ _ _
    have hb0 : Below w.heap.size w ((w.alloc (.cells L.toArray 28)).alloc (.cells K.toArray 38)) := ((Below.refl _ _).alloc (Nat.le_refl _) _).alloc (by simp) _
    have HB0 := Lib.hid hb0
    have c32 := (HPA.out _ g7).count
    clear g7 hb0 HPA
    go_wp2_with fail
    go_ret
    exact ⟨rfl, HB0.out⟩
  subst hpl
  have hd : (m != m) = false := by simp
  cases ps with
  | nil =>
    have hB : provesB P n m r.l Q m [] = false := by simp [provesB]
    rw [hB]
    have HPA : Hid (∀ W : World, W.heap[w.heap.size + 1]? = some (.cells (PC Q m (.slice ap ([] : List Part).length cp)).toArray 38 (0, 0)) → ProofAt W (w.heap.size + 1) Q m (.slice ap ([] : List Part).length cp)) := Lib.hid fun W h => proof_at hQ h
    rw [List.length_nil] at *
    generalize HC P n = L at *
    generalize PC Q m (.slice ap 0 cp) = K at *
    clear hp hr ht hl hB
    go_enter Tryd.func16, Tryd.ntmps16
    have g7 : ((w.alloc (.cells L.toArray 28)).alloc (.cells K.toArray 38)).heap[w.heap.size + 1]? = some (.cells K.toArray 38 (0, 0)) := heap_alloc2_new _ _ _
    have hb0 : Below w.heap.size w ((w.alloc (.cells L.toArray 28)).alloc (.cells K.toArray 38)) := ((Below.refl _ _).alloc (Nat.le_refl _) _).alloc (by simp) _
    have HB0 := Lib.hid hb0
    have c32 := (HPA.out _ g7).count
    have c33 := (HPA.out _ g7).recs
    clear g7 hb0 HPA
    go_wp2_with fail
    go_ret
    exact ⟨rfl, HB0.out⟩
  | cons p qs =>
    obtain ⟨c, hc⟩ : ∃ c, (p.l == r.l) = c := ⟨_, rfl⟩
    obtain ⟨d, hdd⟩ : ∃ d, (folded Q (p :: qs) == P && m + ((p :: qs).length : Int) == n) = d := ⟨_, rfl⟩
    have hB : provesB P n m r.l Q m (p :: qs) = (c && d) := by simp only [provesB, hc, hdd]; simp
    rw [hB]
    have HPA : Hid (∀ W : World, W.heap[w.heap.size + 1]? = some (.cells (PC Q m (.slice ap (p :: qs).length cp)).toArray 38 (0, 0)) → ProofAt W (w.heap.size + 1) Q m (.slice ap (p :: qs).length cp)) := Lib.hid fun W h => proof_at hQ h
    obtain rfl := hp.at' (by simp)
    have HIN : Hid (∀ W : World, Below w.heap.size w W → W.cell? ⟨gp, op, none⟩ = some (.slice p.ad p.l.length p.cap) ∧
        (Calls Tryd.prog 23 #[.slice p.ad p.l.length p.cap, .slice r.ad r.l.length r.cap] W fun e w' => e = .returned (.bool c) ∧ Below W.heap.size W w') ∧
        Calls Tryd.prog 20 #[.agg (HC Q m).toArray, .slice (some ⟨gp, op, none⟩) (p :: qs).length cp] W fun e w' => e = .returned (.agg (HC (folded Q (p :: qs)) (m + ((p :: qs).length : Int))).toArray) ∧ Below W.heap.size W w') := Lib.hid fun W hW => by
      refine ⟨?_, ?_, ?_⟩
      · have := hp.cell 0 (by simp)
        rw [Nat.add_zero] at this
        rw [hW.cell (by exact hp.lt), this]; rfl
      · rw [← hc]
        exact (equal_any W p r ((hp.parts p (by simp)).below hW) (hr.below hW)).mono fun e w' ⟨he, hw⟩ => ⟨he, hw ▸ Below.refl _ _⟩
      · exact behind_any W Q hQ m hm (p :: qs) _ gp op cp (hp.below hW) (ht.below hW h0) hl hlen
    have heq := eqlHead (folded Q (p :: qs)) P (length_folded Q hQ _) hP (m + ((p :: qs).length : Int)) n
    rw [hdd] at heq
    have hgu := fun x y => guardHead (folded Q (p :: qs)) P (m + ((p :: qs).length : Int)) n x y
    unfold HV at heq hgu
    have HEQ := Lib.hid heq
    have HGU := Lib.hid hgu
    have hq33 := length_HC Q hQ m
    have hpos : 0 < (p :: qs).length := by simp
    clear hp hr ht hl hB heq hgu hdd hc
    generalize (p :: qs).length = len at *
    generalize hQL : HC Q m = QL at *
    generalize HC P n = L at *
    generalize HC (folded Q (p :: qs)) (m + (len : Int)) = D at *
    have HPB : Hid (∀ W : World, W.heap[w.heap.size + 1]? = some (.cells (PC Q m (.slice (some ⟨gp, op, none⟩) len cp)).toArray 38 (0, 0)) → W.rangeAt (w.heap.size + 1) 0 QL ∧ W.cell? ⟨w.heap.size + 1, 32, none⟩ = some (.int .i64 m) ∧ W.cell? ⟨w.heap.size + 1, 33, none⟩ = some (.slice (some ⟨gp, op, none⟩) len cp)) :=
      Lib.hid fun W h => by have k := HPA.out W h; exact ⟨hQL ▸ k.head, k.count, k.recs⟩
    clear HPA hQL
    generalize PC Q m (.slice (some ⟨gp, op, none⟩) len cp) = K at *
    have hlne : ((len : Int) == 0) = false := by simp; omega
    go_enter Tryd.func16, Tryd.ntmps16
    have g7 : ((w.alloc (.cells L.toArray 28)).alloc (.cells K.toArray 38)).heap[w.heap.size + 1]? = some (.cells K.toArray 38 (0, 0)) := heap_alloc2_new _ _ _
    have g4 : ((w.alloc (.cells L.toArray 28)).alloc (.cells K.toArray 38)).heap[w.heap.size]? = some (.cells L.toArray 28 (0, 0)) := by rw [Below.heap_alloc _ _ _ (by simp)]; exact heap_alloc_new _ _
    have hb0 : Below w.heap.size w ((w.alloc (.cells L.toArray 28)).alloc (.cells K.toArray 38)) := ((Below.refl _ _).alloc (Nat.le_refl _) _).alloc (by simp) _
    have HB0 := Lib.hid hb0
    have c32 := (HPB.out _ g7).2.1
    have c33 := (HPB.out _ g7).2.2
    have G7 := Lib.hid g7
    have G4 := Lib.hid g4
    clear g7 g4 hb0
    go_wp2_with fail
    generalize World.alloc _ _ = W0 at *
    clear c32 c33
    have H7 : Hid (∀ W : World, Below W0.heap.size W0 W → W.rangeAt (w.heap.size + 1) 0 QL ∧ W.cell? ⟨w.heap.size + 1, 32, none⟩ = some (.int .i64 m) ∧ W.cell? ⟨w.heap.size + 1, 33, none⟩ = some (.slice (some ⟨gp, op, none⟩) len cp)) :=
      Lib.hid fun W hW => HPB.out W ((hW.block _ (lt_block G7.out)).trans G7.out)
    have H4 : Hid (∀ W : World, Below W0.heap.size W0 W → W.rangeAt w.heap.size 0 L) := Lib.hid fun W hW => range_block ((hW.block _ (lt_block G4.out)).trans G4.out)
    have HI : Hid (∀ W : World, Below W0.heap.size W0 W → W.cell? ⟨gp, op, none⟩ = some (.slice p.ad p.l.length p.cap)) := Lib.hid fun W hW => (HIN.out W (HB0.out.trans (hW.mono HB0.out.size))).1
    clear HPB G7 G4
    cases c
    · refine wp_region_quietB (by kernel_rfl) (by kernel_rfl) ?_
      go_big_quiet_step (fail)
      refine wpQuiet_of_op rfl (.slice (some ⟨gp, op, none⟩) len cp) (fun w' ⟨m, hw'⟩ => by subst hw'; have c := (H7.out _ m.below).2.2; go_simp) ?_
      simp only [Act.put, List.setIfInBounds_toArray, List.set_cons_succ, List.set_cons_zero]
      go_big_quiet_step (fail)
      refine wpQuiet_of_op rfl (.slice p.ad p.l.length p.cap) (fun w' ⟨m, hw'⟩ => by subst hw'; have c := HI.out _ m.below; go_simp) ?_
      simp only [Act.put, List.setIfInBounds_toArray, List.set_cons_succ, List.set_cons_zero]
      iterate 12 (go_big_quiet_step ((go_at_call 23; with_reducible exact Calls.quiet_b (HIN.out _ (HB0.out.trans ((Bl.below _).mono HB0.out.size))).2.1)))
      refine wpQuiet_nil ?_
      intro m
      have HBM := Lib.hid (HB0.out.trans (m.below.mono HB0.out.size))
      go_wp2_with fail
      go_ret
      exact ⟨by simp, HBM.out⟩
    · refine wp_region_quietB (by kernel_rfl) (by kernel_rfl) ?_
      go_big_quiet_step (fail)
      refine wpQuiet_of_op rfl (.slice (some ⟨gp, op, none⟩) len cp) (fun w' ⟨m, hw'⟩ => by subst hw'; have c := (H7.out _ m.below).2.2; go_simp) ?_
      simp only [Act.put, List.setIfInBounds_toArray, List.set_cons_succ, List.set_cons_zero]
      go_big_quiet_step (fail)
      refine wpQuiet_of_op rfl (.slice p.ad p.l.length p.cap) (fun w' ⟨m, hw'⟩ => by subst hw'; have c := HI.out _ m.below; go_simp) ?_
      simp only [Act.put, List.setIfInBounds_toArray, List.set_cons_succ, List.set_cons_zero]
      iterate 4 (go_big_quiet_step ((go_at_call 23; with_reducible exact Calls.quiet_b (HIN.out _ (HB0.out.trans ((Bl.below _).mono HB0.out.size))).2.1)))
      refine wpQuiet_load_midG (by rfl) 28 (.tmp 27) rfl (w.heap.size + 1) 0 rfl QL _ (fun w' ⟨m, hw'⟩ => hw' ▸ (H7.out _ m.below).1) Tryd.underlying28 rfl (infoHead _ hq33) ?_
      simp only [Act.put, List.setIfInBounds_toArray, List.set_cons_succ, List.set_cons_zero]
      go_big_quiet_step (fail)
      refine wpQuiet_of_opG (by rfl) (.slice (some ⟨gp, op, none⟩) len cp) (fun w' ⟨m, hw'⟩ => by subst hw'; have c := (H7.out _ m.below).2.2; go_simp) ?_
      simp only [Act.put, List.setIfInBounds_toArray, List.set_cons_succ, List.set_cons_zero]
      go_big_quiet_step ((go_at_call 20; with_reducible exact Calls.quiet_b (HIN.out _ (HB0.out.trans ((Bl.below _).mono HB0.out.size))).2.2))
      refine wpQuiet_load_midG (by rfl) 28 (.tmp 4) rfl w.heap.size 0 rfl L _ (fun w' ⟨m, hw'⟩ => hw' ▸ H4.out _ m.below) Tryd.underlying28 rfl (infoHead _ hL33) ?_
      simp only [Act.put, List.setIfInBounds_toArray, List.set_cons_succ, List.set_cons_zero]
      refine wpQuiet_of_opG (by rfl) (.bool d) (fun w' _ => by have k := HEQ.out; have l := HGU.out; go_simp) ?_
      simp only [Act.put, List.setIfInBounds_toArray, List.set_cons_succ, List.set_cons_zero]
      iterate 2 (go_big_quiet_step (fail))
      refine wpQuiet_nil ?_
      intro m
      have HBM := Lib.hid (HB0.out.trans (m.below.mono HB0.out.size))
      go_wp2_with fail
      go_ret
      exact ⟨by simp, HBM.out⟩
end Go.Proofs.YtmegncaadglhmaaDoor
