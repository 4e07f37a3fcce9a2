/- P5.1: of each place there is a proof: the walk of the law. -/
import Derived.Test.YtmegncaadglhmaaDoorKProve
namespace Go.Proofs.YtmegncaadglhmaaDoor
open Go.RowKit

theorem folded_txs (P : List UInt8) : ∀ (ps qs : List Part), txs ps = txs qs → folded P ps = folded P qs := by
  intro ps qs h
  have e : ∀ l : List Part, folded P l = (txs l).foldl lnk P := fun l => by unfold folded txs; rw [List.foldl_map]
  rw [e, e, h]
theorem folded_append (P : List UInt8) (ps qs : List Part) : folded P (ps ++ qs) = folded (folded P ps) qs := by unfold folded; rw [List.foldl_append]
theorem proves_own (ps qs : List Part) (place : Nat) (hpl : place < ps.length) (hq : txs qs = txs (ps.drop place)) : provesB (folded z32 ps) ps.length place ps[place].l (folded z32 (ps.take place)) place qs = true := by
  have hf : folded (folded z32 (ps.take place)) qs = folded z32 ps := by
    rw [folded_txs _ _ _ hq, ← folded_append, List.take_append_drop]
  have hlen : qs.length = ps.length - place := by
    have := congrArg List.length hq
    simpa [txs] using this
  have hd : ps.drop place = ps[place] :: ps.drop (place + 1) := List.drop_eq_getElem_cons hpl
  cases qs with
  | nil => simp at hlen; omega
  | cons p qs =>
    have hp : p.l = ps[place].l := by
      rw [hd] at hq
      simp only [txs, List.map_cons, List.cons.injEq] at hq
      exact hq.1
    have hn : (place : Int) + ((p :: qs).length : Int) = ps.length := by rw [hlen]; omega
    unfold provesB
    simp only [hf, hn, hp, beq_self_eq_true, Bool.and_self]
theorem proves_other (P : List UInt8) (n : Int) (l Q : List UInt8) (m : Int) (ps : List Part) : provesB P n (m + 1) l Q m ps = false := by
  have : (m == m + 1) = false := by simp; omega
  simp [provesB, this]
theorem txs_mem {ps qs : List Part} (h : txs qs = txs ps) {k : Nat} (hl : ∀ p ∈ ps, p.l.length ≤ k) : ∀ q ∈ qs, q.l.length ≤ k := by
  intro q hq
  have : q.l ∈ txs ps := by rw [← h]; exact List.mem_map.2 ⟨q, hq, rfl⟩
  obtain ⟨p, hp, e⟩ := List.mem_map.1 this
  rw [← e]; exact hl p hp

set_option maxRecDepth 100000 in
set_option maxHeartbeats 1000000 in
theorem chproves_long (w : World) (ht : Tab w) (place : Int) (ps : List Part) (ap : Option Addr) (gp op cp : Nat) (hc : Came w ap gp op ps) (hf : (decide ((ps.length : Int) ≤ (12 : Nat)) && decide ((fewS (ps.take 200) : Int) ≤ 400)) = false) :
    Calls Tryd.prog 5 #[.slice ap ps.length cp, .int .i64 place] w fun e w' => e = .returned (.bool true) ∧ Below w.heap.size w w' := by
  have h0 := ht.size
  have HT := Lib.hid ht
  have F : Hid (∀ W, Below w.heap.size w W → Calls Tryd.prog 9 #[.slice ap ps.length cp, .int .i64 12, .int .i64 400] W fun e w' => e = .returned (.bool false) ∧ W = w') := Lib.hid (by
    intro W hW; rw [← hf]; exact few_any W ps ap gp op cp 12 (by omega) 400 (hc.parts.below hW) hc.most hc.each)
  clear hc ht hf
  go_enter Tryd.func5, Tryd.ntmps5
  go_wp2_with fail
  refine (awake_any w HT.out).mono ?_
  rintro e w1 ⟨rfl, hb1⟩
  have HB1 := Lib.hid hb1
  clear hb1
  go_wp2_with fail
  refine (F.out _ HB1.out).mono ?_
  rintro e w' ⟨rfl, rfl⟩
  go_wp2_with fail
  refine (awake_any w1 (HT.out.below HB1.out h0)).mono ?_
  rintro e w2 ⟨rfl, hb2⟩
  have HB2 := Lib.hid (HB1.out.trans (hb2.mono HB1.out.size))
  clear hb2
  go_wp2_with fail
  go_ret
  exact ⟨rfl, HB2.out⟩

set_option maxRecDepth 100000 in
set_option maxHeartbeats 2000000 in
theorem chproves_none (w : World) (ht : Tab w) (place : Int) (ps : List Part) (ap : Option Addr) (gp op cp : Nat) (hc : Came w ap gp op ps) (hpl : place < 0 ∨ (ps.length : Int) ≤ place) (hf : (decide ((ps.length : Int) ≤ (12 : Nat)) && decide ((fewS (ps.take 200) : Int) ≤ (400 : Nat))) = true) :
    Calls Tryd.prog 5 #[.slice ap ps.length cp, .int .i64 place] w fun e w' => e = .returned (.bool true) ∧ Below w.heap.size w w' := by
  have h0 := ht.size
  have HT := Lib.hid ht
  have F : Hid (∀ W, Below w.heap.size w W → Calls Tryd.prog 9 #[.slice ap ps.length cp, .int .i64 12, .int .i64 400] W fun e w' => e = .returned (.bool true) ∧ W = w') := Lib.hid (by
    intro W hW; rw [← hf]; exact few_any W ps ap gp op cp 12 (by omega) 400 (hc.parts.below hW) hc.most hc.each)
  have HN := Lib.hid (fun W => prove_none W ap ps.length cp place hpl)
  obtain ⟨hl, _⟩ := few_small ps 12 (by omega) 400 (by omega) hf
  clear hc ht hf
  have hz := zeroProofV
  have hZ34 : (PC z32 0 (.slice none 0 0)).length = 34 := rfl
  have hZone := one_PC z32 0 (.slice none 0 0) rfl
  have HRE : Hid (∀ (W : World) (g : Nat), W.heap[g]? = some (.cells (PC z32 0 (.slice none 0 0)).toArray 38 (0, 0)) → W.cell? ⟨g, 33, none⟩ = some (.slice none 0 0)) := Lib.hid fun W g h => (proof_at rfl h).recs
  generalize PC z32 0 (.slice none 0 0) = Z at *
  obtain ⟨b1, hb1⟩ : ∃ b, decide (place < 0) = b := ⟨_, rfl⟩
  have hb2 : b1 = false → decide ((ps.length : Int) ≤ place) = true := by
    intro e
    rw [e] at hb1
    rcases hpl with h | h
    · rw [decide_eq_true h] at hb1; cases hb1
    · exact decide_eq_true h
  have HB12 := Lib.hid hb2
  clear hpl hb2
  go_enter Tryd.func5, Tryd.ntmps5
  go_wp2_with fail
  refine (awake_any w HT.out).mono ?_
  rintro e w1 ⟨rfl, hb1'⟩
  have HB1 := Lib.hid hb1'
  clear hb1'
  go_wp2_with fail
  refine (F.out _ HB1.out).mono ?_
  rintro e w' ⟨rfl, rfl⟩
  go_wp2_with fail
  refine (HN.out w1).mono ?_
  rintro e w2 ⟨rfl, hb2'⟩
  have HB2 := Lib.hid (HB1.out.trans (hb2'.mono HB1.out.size))
  clear hb2' F HN
  have hthere := there_block (heap_alloc_new w2 (.cells Z.toArray 38)) 0 34 (by omega)
  have hend := heap_setCells _ _ Z 0 _ _ (heap_alloc_new w2 (.cells Z.toArray 38)) (by omega)
  rw [over_all _ _ (by omega)] at hend
  have hk5 : Kept1 w2.heap.size w2 ((w2.alloc (.cells Z.toArray 38)).setCells w2.heap.size 0 Z) := Kept1.setCells (b := w2.heap.size) w2.heap.size (Or.inl rfl) Z 0 ((Kept1.refl _ _).alloc _)
  have hbe := Kept1.mono HB2.out hk5 HB2.out.size
  have HE := Lib.hid hend
  have HBE := Lib.hid hbe
  have c33 := HRE.out _ _ hend
  clear hend hbe hk5 HRE
  cases b1
  · have hb2 := HB12.out rfl
    go_wp2_with (refine wpList_store_mid rfl 38 (.tmp 5) (.tmp 20) rfl w2.heap.size 0 Z.toArray rfl rfl (by simpa [hZ34] using hthere) (infoProof _ (by simpa using hZ34)) (all_oneCell_toArray hZone) ?_)
    go_ret
    exact ⟨rfl, HBE.out⟩
  · go_wp2_with (refine wpList_store_mid rfl 38 (.tmp 5) (.tmp 20) rfl w2.heap.size 0 Z.toArray rfl rfl (by simpa [hZ34] using hthere) (infoProof _ (by simpa using hZ34)) (all_oneCell_toArray hZone) ?_)
    go_ret
    exact ⟨rfl, HBE.out⟩

set_option maxRecDepth 100000 in
set_option maxHeartbeats 8000000 in
theorem chproves_some (w : World) (ht : Tab w) (place : Nat) (ps : List Part) (gp op cp : Nat) (hcap : ps.length ≤ cp) (hcm : cp ≤ maxLen) (hc : Came w (some ⟨gp, op, none⟩) gp op ps) (hpl : place < ps.length) (hf : (decide ((ps.length : Int) ≤ (12 : Nat)) && decide ((fewS (ps.take 200) : Int) ≤ (400 : Nat))) = true) :
    Calls Tryd.prog 5 #[.slice (some ⟨gp, op, none⟩) ps.length cp, .int .i64 (place : Int)] w fun e w' => e = .returned (.bool true) ∧ Below w.heap.size w w' := by
  have h0 := ht.size
  have HT := Lib.hid ht
  have F : Hid (∀ W, Below w.heap.size w W → Calls Tryd.prog 9 #[.slice (some ⟨gp, op, none⟩) ps.length cp, .int .i64 12, .int .i64 400] W fun e w' => e = .returned (.bool true) ∧ W = w') := Lib.hid (by
    intro W hW; rw [← hf]; exact few_any W ps (some ⟨gp, op, none⟩) gp op cp 12 (by omega) 400 (hc.parts.below hW) hc.most hc.each)
  obtain ⟨hl, hle0⟩ := few_small ps 12 (by omega) 400 (by omega) hf
  have hle : ∀ p ∈ ps, p.l.length ≤ 1000 := fun p hp => Nat.le_trans (hle0 p hp) (by omega)
  have HPv : Hid (∀ W, Below w.heap.size w W → Calls Tryd.prog 14 #[.slice (some ⟨gp, op, none⟩) ps.length cp, .int .i64 (place : Int)] W fun e w' => ∃ (qs : List Part) (G : Nat), e = .returned (.tuple #[.agg (PC (folded z32 (ps.take place)) place (.slice (some ⟨G, 0, none⟩) qs.length qs.length)).toArray, .int .i64 0]) ∧
      txs qs = txs (ps.drop place) ∧ qs.length = ps.length - place ∧ PartsIn w' (some ⟨G, 0, none⟩) G 0 qs ∧ (∀ q ∈ qs, q.ad = none → q.cap = 0) ∧ Below W.heap.size W w') := Lib.hid (by
    intro W hW; exact prove_any W ps gp op cp hcap hcm place hpl (hc.parts.below hW) (HT.out.below hW h0) hle (by omega))
  have HA : Hid (∀ W, Below w.heap.size w W → Calls Tryd.prog 10 #[.slice (some ⟨gp, op, none⟩) ps.length cp] W fun e w' => e = .returned (.agg (HC (folded z32 ps) ps.length).toArray) ∧ Below W.heap.size W w') := Lib.hid (by
    intro W hW; exact all_any W ps (some ⟨gp, op, none⟩) gp op cp (hc.parts.below hW) (HT.out.below hW h0) hle (by omega))
  have HH0 : Hid (∀ W, Below w.heap.size w W → Calls Tryd.prog 12 #[.slice (some ⟨gp, op, none⟩) place cp] W fun e w' => e = .returned (.agg ((folded z32 (ps.take place)).map B).toArray) ∧ Below W.heap.size W w') := Lib.hid (by
    intro W hW
    have := refHash_any W (ps.take place) (some ⟨gp, op, none⟩) gp op cp ((hc.parts.below hW).take place) (fun p hp => hc.nil p (List.mem_of_mem_take hp)) (by have := hW.size; omega) (fun p hp => hle p (List.mem_of_mem_take hp)) (by simp; omega)
    rwa [show (ps.take place).length = place by simp; omega] at this)
  have HS0 : Hid (∀ (qs : List Part) (G : Nat) (W0 : World), txs qs = txs (ps.drop place) → qs.length = ps.length - place → PartsIn W0 (some ⟨G, 0, none⟩) G 0 qs → Below w.heap.size w W0 → ∀ W, Below W0.heap.size W0 W →
      (Calls Tryd.prog 15 #[.slice (some ⟨G, 0, none⟩) qs.length qs.length, .slice (some ⟨gp, op + place, none⟩) (ps.length - place) (cp - place)] W fun e w' => e = .returned (.bool true) ∧ Below W.heap.size W w') ∧
      (Calls Tryd.prog 16 #[.agg (HC (folded z32 ps) ps.length).toArray, .int .i64 (place : Int), .slice ps[place].ad ps[place].l.length ps[place].cap, .agg (PC (folded z32 (ps.take place)) place (.slice (some ⟨G, 0, none⟩) qs.length qs.length)).toArray] W fun e w' => e = .returned (.bool true) ∧ Below W.heap.size W w') ∧
      (Calls Tryd.prog 16 #[.agg (HC (folded z32 ps) ps.length).toArray, .int .i64 ((place : Int) + 1), .slice ps[place].ad ps[place].l.length ps[place].cap, .agg (PC (folded z32 (ps.take place)) place (.slice (some ⟨G, 0, none⟩) qs.length qs.length)).toArray] W fun e w' => e = .returned (.bool false) ∧ Below W.heap.size W w')) := Lib.hid (by
    intro qs G W0 hq hql hqp hb0 W hW
    have hbW := hb0.trans (hW.mono hb0.size)
    have hdl : (ps.drop place).length = ps.length - place := List.length_drop
    have hqle := txs_mem hq (fun p hp => hle p (List.mem_of_mem_drop hp))
    refine ⟨?_, ?_, ?_⟩
    · have := same_any W qs (ps.drop place) (some ⟨G, 0, none⟩) (some ⟨gp, op + place, none⟩) G 0 qs.length gp (op + place) (cp - place) (hqp.below hW) ((hc.parts.below hbW).drop place) (by unfold maxLen; omega) (by rw [hdl]; unfold maxLen; omega)
      rw [decide_eq_true hq, hdl] at this
      exact this
    · have := proves_any W (folded z32 ps) (length_folded z32 rfl _) ps.length place ps[place] ((hc.parts.parts _ (List.getElem_mem hpl)).below hbW) (folded z32 (ps.take place)) (length_folded z32 rfl _) place (by omega) qs (some ⟨G, 0, none⟩) G 0 qs.length (hqp.below hW) (HT.out.below hbW h0) hqle (by omega)
      rw [proves_own ps qs place hpl hq] at this
      exact this
    · have := proves_any W (folded z32 ps) (length_folded z32 rfl _) ps.length ((place : Int) + 1) ps[place] ((hc.parts.parts _ (List.getElem_mem hpl)).below hbW) (folded z32 (ps.take place)) (length_folded z32 rfl _) place (by omega) qs (some ⟨G, 0, none⟩) G 0 qs.length (hqp.below hW) (HT.out.below hbW h0) hqle (by omega)
      rw [proves_other] at this
      exact this)
  have HCE : Hid (∀ W, Below w.heap.size w W → W.cell? ⟨gp, op + place, none⟩ = some (.slice ps[place].ad ps[place].l.length ps[place].cap)) := Lib.hid (by
    intro W hW
    rw [hW.cell (by exact hc.parts.lt), hc.parts.cell place hpl]; rfl)
  have hz := zeroProofV
  have hZ34 : (PC z32 0 (.slice none 0 0)).length = 34 := rfl
  have hzh := zeroHeadV
  have hZ33 : (HC z32 0).length = 33 := rfl
  have HQ := Lib.hid (length_folded z32 rfl (ps.take place))
  have heq := eqlHash 26 (Or.inl rfl) (folded z32 (ps.take place)) (folded z32 (ps.take place)) (length_folded z32 rfl _) (length_folded z32 rfl _)
  rw [show (folded z32 (ps.take place) == folded z32 (ps.take place)) = true from beq_self_eq_true _] at heq
  have hgu := fun x y => guardHash .eql (folded z32 (ps.take place)) (folded z32 (ps.take place)) x y
  have HEQ := Lib.hid heq
  have HGU := Lib.hid hgu
  have hX32 : ((folded z32 (ps.take place)).map B).length = 32 := by simpa using length_folded z32 rfl (ps.take place)
  have hD33 := length_HC (folded z32 ps) (length_folded z32 rfl _) ps.length
  have hDone := one_HC (folded z32 ps) ps.length
  have HPL := Lib.hid (fun S => length_PC (folded z32 (ps.take place)) (length_folded z32 rfl _) place S)
  have HPO := Lib.hid (fun S hS => one_PC (folded z32 (ps.take place)) place S hS)
  clear heq hgu hc ht hf hle hle0
  unfold maxLen at hcm
  generalize PC z32 0 (.slice none 0 0) = Z at *
  generalize HC z32 0 = ZH at *
  generalize HC (folded z32 ps) ps.length = D at *
  generalize hX : (folded z32 (ps.take place)).map B = X at *
  have HX := Lib.hid hX
  clear hX
  generalize ps[place] = r at *
  have hd1 : decide ((place : Int) < 0) = false := decide_eq_false (by omega)
  have hd2 : decide ((ps.length : Int) ≤ (place : Int)) = false := decide_eq_false (by omega)
  go_enter Tryd.func5, Tryd.ntmps5
  go_wp2_with fail
  refine (awake_any w HT.out).mono ?_
  rintro e w1 ⟨rfl, hb1'⟩
  have HB1 := Lib.hid hb1'
  clear hb1'
  go_wp2_with fail
  refine (F.out _ HB1.out).mono ?_
  rintro e w' ⟨rfl, rfl⟩
  go_wp2_with fail
  refine (HPv.out w1 HB1.out).mono ?_
  rintro e w2 ⟨qs, G, rfl, hq1, hq2, hq3, hq4, hb2'⟩
  have HB2 := Lib.hid (HB1.out.trans (hb2'.mono HB1.out.size))
  have hK34 := HPL.out (.slice (some ⟨G, 0, none⟩) qs.length qs.length)
  have hKone := HPO.out (.slice (some ⟨G, 0, none⟩) qs.length qs.length) rfl
  have HS := Lib.hid (HS0.out qs G w2 hq1 hq2 hq3 HB2.out)
  have hql : qs.length ≤ 12 := by omega
  have HPA : Hid (∀ (W : World) (g : Nat), W.heap[g]? = some (.cells (PC (folded z32 (ps.take place)) place (.slice (some ⟨G, 0, none⟩) qs.length qs.length)).toArray 38 (0, 0)) → W.rangeAt g 0 X ∧ W.cell? ⟨g, 32, none⟩ = some (.int .i64 (place : Int)) ∧ W.cell? ⟨g, 33, none⟩ = some (.slice (some ⟨G, 0, none⟩) qs.length qs.length) ∧ W.rangeAt g 0 (PC (folded z32 (ps.take place)) place (.slice (some ⟨G, 0, none⟩) qs.length qs.length))) := Lib.hid fun W g h => by
    have k := proof_at HQ.out h
    exact ⟨HX.out ▸ k.hash, k.count, k.recs, k.all⟩
  clear hb2' F HPv HPL HPO HS0 hq1 hq2 hq3 hq4 HQ
  generalize PC (folded z32 (ps.take place)) place (.slice (some ⟨G, 0, none⟩) qs.length qs.length) = K at *
  have hthere := there_block (heap_alloc_new w2 (.cells Z.toArray 38)) 0 34 (by omega)
  have hend := heap_setCells _ _ K 0 _ _ (heap_alloc_new w2 (.cells Z.toArray 38)) (by omega)
  rw [over_all _ _ (by omega)] at hend
  have hk5 : Kept1 w2.heap.size w2 ((w2.alloc (.cells Z.toArray 38)).setCells w2.heap.size 0 K) := Kept1.setCells (b := w2.heap.size) w2.heap.size (Or.inl rfl) K 0 ((Kept1.refl _ _).alloc _)
  have hbe := Kept1.mono HB2.out hk5 HB2.out.size
  have HE := Lib.hid hend
  have HBE := Lib.hid hbe
  have hb25 := Kept1.below hk5 (Nat.le_refl _)
  have HB25 := Lib.hid hb25
  clear hend hbe hk5 hb25
  go_wp2_with (refine wpList_store_mid rfl 38 (.tmp 5) (.tmp 20) rfl w2.heap.size 0 K.toArray rfl rfl (by simpa [hK34] using hthere) (infoProof _ (by simpa using hK34)) (all_oneCell_toArray hKone) ?_)
  generalize World.setCells _ _ _ _ = W3 at *
  clear hthere
  obtain ⟨G5, hG5⟩ : ∃ G5, G5 = w2.heap.size := ⟨_, rfl⟩
  rw [← hG5] at HE ⊢
  clear hG5
  refine (HA.out W3 HBE.out).mono ?_
  rintro e w4 ⟨rfl, hb4⟩
  have HE4 := Lib.hid ((hb4.block _ (lt_block HE.out)).trans HE.out)
  have HB4 := Lib.hid (HBE.out.trans (hb4.mono HBE.out.size))
  have HB24 := Lib.hid (HB25.out.trans (hb4.mono HB25.out.size))
  clear hb4 HE HBE HB25 HA
  have hthere := there_block (heap_alloc_new w4 (.cells ZH.toArray 28)) 0 33 (by omega)
  have hend := heap_setCells _ _ D 0 _ _ (heap_alloc_new w4 (.cells ZH.toArray 28)) (by omega)
  rw [over_all _ _ (by omega)] at hend
  have hk7 : Kept1 w4.heap.size w4 ((w4.alloc (.cells ZH.toArray 28)).setCells w4.heap.size 0 D) := Kept1.setCells (b := w4.heap.size) w4.heap.size (Or.inl rfl) D 0 ((Kept1.refl _ _).alloc _)
  have HE7 := Lib.hid hend
  have HE5 := Lib.hid (hk7.heap HE4.out (by have := lt_block HE4.out; omega))
  have HBR := Lib.hid (Kept1.mono HB24.out hk7 HB24.out.size)
  have HBW := Lib.hid (Kept1.mono HB4.out hk7 HB4.out.size)
  clear hend hk7 HE4 HB4 HB24
  go_wp2_with (refine wpList_store_mid rfl 28 (.tmp 7) (.tmp 39) rfl w4.heap.size 0 D.toArray rfl rfl (by simpa [hD33] using hthere) (infoHead _ (by simpa using hD33)) (all_oneCell_toArray hDone) ?_)
  generalize World.setCells _ _ _ _ = W8 at *
  clear hthere
  generalize w4.heap.size = G7 at *
  have H5 : Hid (∀ W : World, Below W8.heap.size W8 W → W.rangeAt G5 0 X ∧ W.cell? ⟨G5, 32, none⟩ = some (.int .i64 (place : Int)) ∧ W.cell? ⟨G5, 33, none⟩ = some (.slice (some ⟨G, 0, none⟩) qs.length qs.length) ∧ W.rangeAt G5 0 K) := Lib.hid fun W hW => HPA.out W G5 ((hW.block _ (lt_block HE5.out)).trans HE5.out)
  have H7 : Hid (∀ W : World, Below W8.heap.size W8 W → W.rangeAt G7 0 D) := Lib.hid fun W hW => range_block ((hW.block _ (lt_block HE7.out)).trans HE7.out)
  have HC8 : Hid (∀ W : World, Below W8.heap.size W8 W → W.cell? ⟨gp, op + place, none⟩ = some (.slice r.ad r.l.length r.cap)) := Lib.hid fun W hW => HCE.out W (HBW.out.trans (hW.mono HBW.out.size))
  have HH : Hid (∀ W : World, Below w2.heap.size w2 W → Calls Tryd.prog 12 #[.slice (some ⟨gp, op, none⟩) place cp] W fun e w' => e = .returned (.agg X.toArray) ∧ Below W.heap.size W w') := Lib.hid fun W hW => HH0.out W (HB2.out.trans (hW.mono HB2.out.size))
  clear HPA HE5 HE7 HCE HH0 hd1 hd2
  refine wp_region_quietB (by kernel_rfl) (by kernel_rfl) ?_
  simp only [Act.put]
  iterate 5 (go_big_quiet_step (fail))
  refine wpQuiet_load_midG (by rfl) 26 (.tmp 44) rfl (G5) 0 rfl X _ (fun w' ⟨m, hw'⟩ => hw' ▸ (H5.out _ m.below).1) Tryd.underlying26 rfl (infoHash _ hX32) ?_
  simp only [Act.put, List.setIfInBounds_toArray, List.set_cons_succ, List.set_cons_zero]
  iterate 4 (go_big_quiet_step ((go_at_call 12; with_reducible exact Calls.quiet_b (HH.out _ (HBR.out.trans ((Bl.below _).mono HBR.out.size))))))
  refine wpQuiet_of_opG (by rfl) (.bool true) (fun w' _ => by have k := HEQ.out; have l := HGU.out; go_simp) ?_
  simp only [Act.put, List.setIfInBounds_toArray, List.set_cons_succ, List.set_cons_zero]
  iterate 4 (go_big_quiet_step (fail))
  refine wpQuiet_of_opG (by rfl) (.int .i64 (place : Int)) (fun w' ⟨m, hw'⟩ => by subst hw'; have c := (H5.out _ m.below).2.1; go_simp) ?_
  simp only [Act.put, List.setIfInBounds_toArray, List.set_cons_succ, List.set_cons_zero]
  iterate 5 (go_big_quiet_step (fail))
  refine wpQuiet_of_opG (by rfl) (.slice (some ⟨G, 0, none⟩) qs.length qs.length) (fun w' ⟨m, hw'⟩ => by subst hw'; have c := (H5.out _ m.below).2.2.1; go_simp) ?_
  simp only [Act.put, List.setIfInBounds_toArray, List.set_cons_succ, List.set_cons_zero]
  iterate 6 (go_big_quiet_step ((go_at_call 15; with_reducible exact Calls.quiet_b (HS.out _ (HBR.out.trans ((Bl.below _).mono HBR.out.size))).1)))
  refine wpQuiet_load_midG (by rfl) 28 (.tmp 7) rfl (G7) 0 rfl D _ (fun w' ⟨m, hw'⟩ => hw' ▸ H7.out _ m.below) Tryd.underlying28 rfl (infoHead _ hD33) ?_
  simp only [Act.put, List.setIfInBounds_toArray, List.set_cons_succ, List.set_cons_zero]
  iterate 4 (go_big_quiet_step (fail))
  refine wpQuiet_of_opG (by rfl) (.slice r.ad r.l.length r.cap) (fun w' ⟨m, hw'⟩ => by subst hw'; have c := HC8.out _ m.below; go_simp) ?_
  simp only [Act.put, List.setIfInBounds_toArray, List.set_cons_succ, List.set_cons_zero]
  refine wpQuiet_load_midG (by rfl) 38 (.tmp 5) rfl (G5) 0 rfl K _ (fun w' ⟨m, hw'⟩ => hw' ▸ (H5.out _ m.below).2.2.2) Tryd.underlying38 rfl (infoProof _ hK34) ?_
  simp only [Act.put, List.setIfInBounds_toArray, List.set_cons_succ, List.set_cons_zero]
  iterate 3 (go_big_quiet_step ((go_at_call 16; with_reducible exact Calls.quiet_b (HS.out _ (HBR.out.trans ((Bl.below _).mono HBR.out.size))).2.1)))
  refine wpQuiet_load_midG (by rfl) 28 (.tmp 7) rfl (G7) 0 rfl D _ (fun w' ⟨m, hw'⟩ => hw' ▸ H7.out _ m.below) Tryd.underlying28 rfl (infoHead _ hD33) ?_
  simp only [Act.put, List.setIfInBounds_toArray, List.set_cons_succ, List.set_cons_zero]
  iterate 5 (go_big_quiet_step (fail))
  refine wpQuiet_of_opG (by rfl) (.slice r.ad r.l.length r.cap) (fun w' ⟨m, hw'⟩ => by subst hw'; have c := HC8.out _ m.below; go_simp) ?_
  simp only [Act.put, List.setIfInBounds_toArray, List.set_cons_succ, List.set_cons_zero]
  refine wpQuiet_load_midG (by rfl) 38 (.tmp 5) rfl (G5) 0 rfl K _ (fun w' ⟨m, hw'⟩ => hw' ▸ (H5.out _ m.below).2.2.2) Tryd.underlying38 rfl (infoProof _ hK34) ?_
  simp only [Act.put, List.setIfInBounds_toArray, List.set_cons_succ, List.set_cons_zero]
  iterate 4 (go_big_quiet_step ((go_at_call 16; with_reducible exact Calls.quiet_b (HS.out _ (HBR.out.trans ((Bl.below _).mono HBR.out.size))).2.2)))
  refine wpQuiet_nil ?_
  intro m
  have HBM := Lib.hid (HBW.out.trans (m.below.mono HBW.out.size))
  go_wp2_with fail
  go_ret
  exact ⟨rfl, HBM.out⟩

theorem chainProves_walk (w : World) (ht : Tab w) (a : Option Addr) (cap : Nat) (ps : List Part) (g o : Nat) (hc : Came w a g o ps) (hcap : ps.length ≤ cap ∧ cap ≤ maxLen) (place : Int) (_ : (Lit.int .i64 place).wf = true) :
    Calls Tryd.prog 5 #[.slice a ps.length cap, .int .i64 place] w fun e w' => e = .returned (.bool true) ∧ Below w.heap.size w w' := by
  by_cases h : (decide ((ps.length : Int) ≤ (12 : Nat)) && decide ((fewS (ps.take 200) : Int) ≤ (400 : Nat))) = true
  · by_cases hpl : place < 0 ∨ (ps.length : Int) ≤ place
    · exact chproves_none w ht place ps a g o cap hc hpl h
    · obtain ⟨k, rfl⟩ : ∃ k : Nat, place = (k : Int) := ⟨place.toNat, by omega⟩
      have hk : k < ps.length := by omega
      have ha := hc.parts.at' (by intro e; rw [e] at hk; cases hk)
      subst ha
      exact chproves_some w ht k ps g o cap hcap.1 hcap.2 hc hk h
  · exact chproves_long w ht place ps a g o cap hc (by simpa using h)
end Go.Proofs.YtmegncaadglhmaaDoor
namespace Go.Proofs.YtmegncaadglhmaaDoor
open Go.ChangeShapes Go.WideShapes Go.ChangeAt Go.RowKit Go.Deep
/-- what a slice that came in has room for -/
theorem cap_of_trod {H : Type} {enc : TypeId × Value → H} {w : World} {base : Nat} {held : Bool} {fuel : Nat} {ad : Option Addr} {len cap : Nat} {d : DataW H × List MemPlace} (h : DataW.trod enc Tryd.prog w base (fun _ => true) held fuel 22 [.slice ad len cap] = some d) :
    len ≤ cap ∧ cap ≤ maxLen := by
  rcases open_slice1 Tryd.underlying22 (by kernel_rfl) h with ⟨e, _⟩ | ⟨a, len', cap', m, n, V, D, Pl, e, hb, hl, hm, _⟩
  · simp only [List.cons.injEq, and_true, Value.slice.injEq] at e
    obtain ⟨rfl, rfl, rfl⟩ := e
    exact ⟨Nat.le_refl _, Nat.zero_le _⟩
  · simp only [List.cons.injEq, and_true, Value.slice.injEq] at e
    obtain ⟨rfl, rfl, rfl⟩ := e
    exact ⟨by omega, by omega⟩
end Go.Proofs.YtmegncaadglhmaaDoor
