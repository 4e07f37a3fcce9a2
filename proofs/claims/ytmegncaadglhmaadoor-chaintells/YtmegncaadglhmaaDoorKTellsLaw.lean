/- P5.1: of whatever proof it is told whether it is one: the walk of the law. -/
import Derived.Test.YtmegncaadglhmaaDoorKProves
namespace Go.Proofs.YtmegncaadglhmaaDoor
open Go.RowKit

/-- what the loop of the law keeps -/
structure TellsRel (W : World) (G8 : Nat) (Q : List UInt8) (ps : List Part) (k : Nat) (wr : World) : Prop where
  g : wr.heap[G8]? = some (.cells ((folded Q (ps.take k)).map B).toArray 26 (0, 0))
  below : Below W.heap.size W wr
  b8 : W.heap.size ≤ G8

set_option maxRecDepth 100000 in
set_option maxHeartbeats 8000000 in
theorem tells_a (w : World) (ht : Tab w) (P : List UInt8) (hP : P.length = 32) (n : Int) (place : Int) (Q : List UInt8) (hQ : Q.length = 32) (m : Int) (hm : -9223372036854775808 ≤ m ∧ m ≤ 9223372036854775807)
    (ps : List Part) (ap : Option Addr) (gp op cp : Nat) (hc : Came w ap gp op ps) (hps : ps = []) :
    Calls Tryd.prog 6 #[HV P n, .int .i64 place, .agg (PC Q m (.slice ap ps.length cp)).toArray] w fun e w' => e = .returned (.bool true) ∧ Below w.heap.size w w' := by
  have h0 := ht.size
  have HT := Lib.hid ht
  have HCA := Lib.hid hc
  have hL33 := length_HC P hP n
  have hone := one_HC P n
  have hK34 := length_PC Q hQ m (.slice ap ps.length cp)
  have hKone := one_PC Q m (.slice ap ps.length cp) rfl
  have HP := Lib.hid hP
  have HQ := Lib.hid hQ
  have HPA : Hid (∀ (W : World) (g : Nat), W.heap[g]? = some (.cells (PC Q m (.slice ap ps.length cp)).toArray 38 (0, 0)) → ProofAt W g Q m (.slice ap ps.length cp)) := Lib.hid fun W g h => proof_at hQ h
  have HHA : Hid (∀ (W : World) (g : Nat), W.heap[g]? = some (.cells (HC P n).toArray 28 (0, 0)) → W.rangeAt g 0 (P.map B) ∧ W.cell? ⟨g, 32, none⟩ = some (.int .i64 n) ∧ W.rangeAt g 0 (HC P n)) := Lib.hid fun W g h => ⟨range_hash h, cell_count hP h, range_block h⟩
  have HF : Hid (∀ W, Below w.heap.size w W → Calls Tryd.prog 9 #[.slice ap ps.length cp, .int .i64 12, .int .i64 400] W fun e w' => e = .returned (.bool (decide ((ps.length : Int) ≤ (12 : Nat)) && decide ((fewS (ps.take 200) : Int) ≤ (400 : Nat)))) ∧ W = w') := Lib.hid (by
    intro W hW; exact few_any W ps ap gp op cp 12 (by omega) 400 (hc.parts.below hW) hc.most hc.each)
  have hsm := few_small ps 12 (by omega) 400 (by omega)
  have HSM := Lib.hid hsm
  clear hsm
  have HPR0 : Hid ((m ≤ 1099511627776) → (decide ((ps.length : Int) ≤ (12 : Nat)) && decide ((fewS (ps.take 200) : Int) ≤ (400 : Nat))) = true → ∀ (W1 : World) (r : Part), r.In W1 → Below w.heap.size w W1 → ∀ W, Below W1.heap.size W1 W → Calls Tryd.prog 16 #[.agg (HC P n).toArray, .int .i64 place, .slice r.ad r.l.length r.cap, .agg (PC Q m (.slice ap ps.length cp)).toArray] W fun e w' => e = .returned (.bool (provesB P n place r.l Q m ps)) ∧ Below W.heap.size W w') := Lib.hid (by
    intro hm1 hf W1 r hr hb1 W hW
    obtain ⟨hl, hle⟩ := HSM.out hf
    have hbW := hb1.trans (hW.mono hb1.size)
    exact proves_any W P hP n place r (hr.below hW) Q hQ m (by omega) ps ap gp op cp (hc.parts.below hbW) (ht.below hbW h0) (fun p hp => Nat.le_trans (hle p hp) (by omega)) (by omega))
  have heq0 := fun (R : List UInt8) (hR : R.length = 32) => eqlHash 26 (Or.inl rfl) P R hP hR
  have hgu0 := fun (R : List UInt8) x y => guardHash .eql P R x y
  have HEQ0 := Lib.hid heq0
  have HGU0 := Lib.hid hgu0
  have hP32 : (P.map B).length = 32 := by simpa using hP
  have hQ32 : (Q.map B).length = 32 := by simpa using hQ
  have hQone := one_bytes Q
  clear heq0 hgu0 hc ht hP hQ
  obtain ⟨few, hfew⟩ : ∃ few, (decide ((ps.length : Int) ≤ (12 : Nat)) && decide ((fewS (ps.take 200) : Int) ≤ (400 : Nat))) = few := ⟨_, rfl⟩
  rw [hfew] at HF HPR0 HSM
  clear hfew
  have hlm := HCA.out.most
  unfold maxLen at hlm
  have hlen : decide ((0 : Int) < (ps.length : Int)) = false := by rw [hps]; simp
  have hlenN : decide (0 < ps.length) = false := by rw [hps]; simp
  have kc := fun (w : World) (C : Array Value) (n c : Nat) => Lib.run_convert_bytes_const (P := Tryd.prog) w 31 5 C n c Tryd.underlying31 Tryd.underlying5
  have kc2 := fun (A A2 : Obj) (C : Array Value) (n c : Nat) => kc ((w.alloc A).alloc A2) C n c
  have hsz : ∀ A A2 : Obj, ((w.alloc A).alloc A2).heap.size = w.heap.size + 1 + 1 := fun A A2 => by simp
  simp only [hsz] at kc2
  clear kc hsz
  unfold HV
  generalize hLL : HC P n = L at *
  generalize hKK : PC Q m (.slice ap ps.length cp) = K at *
  clear hLL hKK
  generalize hPX : P.map B = PX at *
  have HPX := Lib.hid hPX
  clear hPX
  go_enter Tryd.func6, Tryd.ntmps6
  have A3 : ∀ fr : Nat × Nat, (((w.alloc (.cells L.toArray 28)).alloc (.cells K.toArray 38)).alloc (.cells #[.int .u8 120] 5 fr)).heap[w.heap.size]? = some (.cells L.toArray 28 (0, 0)) := fun fr => by
    rw [Below.heap_alloc _ _ _ (by simp; omega), Below.heap_alloc _ _ _ (by simp)]; exact heap_alloc_new _ _
  have A5 : ∀ fr : Nat × Nat, (((w.alloc (.cells L.toArray 28)).alloc (.cells K.toArray 38)).alloc (.cells #[.int .u8 120] 5 fr)).heap[w.heap.size + 1]? = some (.cells K.toArray 38 (0, 0)) := fun fr => by
    rw [Below.heap_alloc _ _ _ (by simp)]; exact heap_alloc2_new _ _ _
  have A7 : (((w.alloc (.cells L.toArray 28)).alloc (.cells K.toArray 38)).alloc (.cells #[.int .u8 120] 5 (1, 2))).heap[w.heap.size + 1 + 1]? = some (.cells (([120] : List UInt8).map B).toArray 5 (1, 2)) := heap_alloc3_new _ _ _ _
  have hb1 : Below w.heap.size w (((w.alloc (.cells L.toArray 28)).alloc (.cells K.toArray 38)).alloc (.cells #[.int .u8 120] 5 (1, 2))) := (((Below.refl _ _).alloc (Nat.le_refl _) _).alloc (by simp) _).alloc (by simp; omega) _
  have e5 := HPA.out _ _ (A5 (1, 2))
  have e3 := HHA.out _ _ (A3 (1, 2))
  have c33 := e5.recs
  have c32 := e3.2.1
  have HB1 := Lib.hid hb1
  have G3 := Lib.hid (A3 (1, 2))
  have G5 := Lib.hid (A5 (1, 2))
  have G7 := Lib.hid A7
  clear A3 A5 A7 hb1 e5 e3
  have HPS := Lib.hid hps
  clear hps
  go_wp2_with fail
  generalize World.alloc _ _ = W1 at *
  clear c33 c32 kc2
  obtain ⟨r, hri, hrv⟩ : ∃ r : Part, r.In W1 ∧ Value.slice (some ⟨w.heap.size + 1 + 1, 0, none⟩) 1 1 = .slice r.ad r.l.length r.cap := ⟨⟨some ⟨w.heap.size + 1 + 1, 0, none⟩, w.heap.size + 1 + 1, 0, 1, [120]⟩, partNew (l := [120]) G7.out, rfl⟩
  rw [hrv]
  have HRI := Lib.hid hri
  clear hri hrv
  clear G7
  refine (awake_any W1 (HT.out.below HB1.out h0)).mono ?_
  rintro e w1 ⟨rfl, hb2⟩
  have HBX := Lib.hid hb2
  have HB2 := Lib.hid (HB1.out.trans (hb2.mono HB1.out.size))
  have G3' := Lib.hid ((hb2.block _ (lt_block G3.out)).trans G3.out)
  have G5' := Lib.hid ((hb2.block _ (lt_block G5.out)).trans G5.out)
  clear hb2 G3 G5
  have e5 := HPA.out _ _ G5'.out
  have c33 := e5.recs
  have c32 := e5.count
  have hrq := e5.hash
  clear e5
  go_wp2_with fail
  refine (HF.out _ HB2.out).mono ?_
  rintro e w' ⟨rfl, rfl⟩
  cases few
  · clear hrq
    go_wp2_with fail
    refine (awake_any w1 (HT.out.below HB2.out h0)).mono ?_
    rintro e w2 ⟨rfl, hb2⟩
    have HBE := Lib.hid (HB2.out.trans (hb2.mono HB2.out.size))
    clear hb2
    go_wp2_with fail
    go_ret
    exact ⟨rfl, HBE.out⟩
  by_cases hm1 : m ≤ 1099511627776
  case neg =>
    have hd : decide (1099511627776 < m) = true := by simpa using hm1
    clear hrq
    go_wp2_with fail
    refine (awake_any w1 (HT.out.below HB2.out h0)).mono ?_
    rintro e w2 ⟨rfl, hb2⟩
    have HBE := Lib.hid (HB2.out.trans (hb2.mono HB2.out.size))
    clear hb2
    go_wp2_with fail
    go_ret
    exact ⟨rfl, HBE.out⟩
  have hd : decide (1099511627776 < m) = false := by simpa using hm1
  have hl12 := (HSM.out rfl).1
  have HLE := Lib.hid (HSM.out rfl).2
  have HPR := Lib.hid (HPR0.out hm1 rfl W1 r HRI.out HB1.out)
  clear HPR0 HSM HF
  have hz := zeroHashV'
  have hZ32 : (z32.map B).length = 32 := rfl
  have hst0 : ∀ (W : World) (G8 : Nat), W.heap[G8]? = some (.cells (Q.map B).toArray 26 (0, 0)) → Below w1.heap.size w1 W → w1.heap.size ≤ G8 → TellsRel w1 G8 Q ps 0 W := fun W G8 h1 h2 h3 => ⟨h1, h2, h3⟩
  have HST := Lib.hid hst0
  clear hst0
  generalize z32.map B = Z at *
  generalize hQX : Q.map B = QX at *
  have HQX := Lib.hid hQX
  clear hQX
  have hthere := there_block (heap_alloc_new w1 (.cells Z.toArray 26)) 0 32 (by omega)
  have hend := heap_setCells _ _ QX 0 _ _ (heap_alloc_new w1 (.cells Z.toArray 26)) (by omega)
  rw [over_all _ _ (by omega)] at hend
  have hbe : Below w1.heap.size w1 ((w1.alloc (.cells Z.toArray 26)).setCells w1.heap.size 0 QX) :=
    (Kept1.setCells (b := w1.heap.size) w1.heap.size (Or.inl rfl) QX 0 ((Kept1.refl _ _).alloc _)).below (Nat.le_refl _)
  have HR0 := Lib.hid (HST.out _ _ hend hbe (Nat.le_refl _))
  clear hend hbe HST
  go_wp2_with (first | (refine wpList_load_mid rfl 26 (.tmp 43) rfl (w.heap.size + 1) 0 rfl QX _ hrq Tryd.underlying26 rfl (infoHash _ hQ32) ?_) | (refine wpList_store_mid rfl 26 (.tmp 8) (.tmp 44) rfl w1.heap.size 0 QX.toArray rfl rfl (by simpa [hQ32] using hthere) (infoHash _ (by simpa using hQ32)) (all_oneCell_toArray hQone) ?_))
  have R0 := HR0.out
  generalize World.setCells _ _ _ _ = W4 at *
  clear hthere HR0 c32 c33 hrq hd
  obtain ⟨G8, hG8⟩ : ∃ G8, G8 = w1.heap.size := ⟨_, rfl⟩
  rw [← hG8] at R0 ⊢
  clear hG8
  go_loopw [9] (fun i wr => ∃ k : Nat, k ≤ ps.length ∧ i = .int .i64 k ∧ TellsRel w1 G8 Q ps k wr) (fun i _ => ps.length - (intOf i).toNat)
  case atStart => exact ⟨0, by omega, rfl, R0⟩
  case round =>
    clear R0
    obtain ⟨k, hk, rfl, hr⟩ := hrel
    have c33 := (HPA.out _ _ ((hr.below.block _ (lt_block G5'.out)).trans G5'.out)).recs
    by_cases hlt : k < ps.length
    · exact absurd hlt (by rw [HPS.out]; simp)
    · have hd : decide ((k : Int) < (ps.length : Int)) = false := by simp; omega
      obtain rfl : k = ps.length := by omega
      have h8 := hr.g
      rw [List.take_length] at h8
      have HBR := Lib.hid (HBX.out.trans (hr.below.mono HBX.out.size))
      have HBW := HB1
      have hf32 : ((folded Q ps).map B).length = 32 := by simpa using length_folded Q HQ.out ps
      have H8 : Hid (∀ W : World, Below wr.heap.size wr W → W.rangeAt G8 0 ((folded Q ps).map B)) := Lib.hid fun W hW => range_block ((hW.block _ (lt_block h8)).trans h8)
      have H5 : Hid (∀ W : World, Below wr.heap.size wr W → ProofAt W (w.heap.size + 1) Q m (.slice ap ps.length cp)) := Lib.hid fun W hW => HPA.out _ _ (((hr.below.trans (hW.mono hr.below.size)).block _ (lt_block G5'.out)).trans G5'.out)
      have H5K : Hid (∀ W : World, Below wr.heap.size wr W → W.rangeAt (w.heap.size + 1) 0 K) := Lib.hid fun W hW => range_block (((hr.below.trans (hW.mono hr.below.size)).block _ (lt_block G5'.out)).trans G5'.out)
      have H3 : Hid (∀ W : World, Below wr.heap.size wr W → W.rangeAt w.heap.size 0 PX ∧ W.cell? ⟨w.heap.size, 32, none⟩ = some (.int .i64 n) ∧ W.rangeAt w.heap.size 0 L) := Lib.hid fun W hW => HHA.out _ _ (((hr.below.trans (hW.mono hr.below.size)).block _ (lt_block G3'.out)).trans G3'.out)
      clear hr h8 HEQ0 HGU0 HHA
      have HI : Hid True := Lib.hid trivial
      generalize (folded Q ps).map B = FX at *
      have HFIN := Lib.hid (show provesB P n place r.l Q m ps = false by rw [HPS.out]; simp [provesB])
      generalize provesB P n place r.l Q m ps = pb at *
      have hl0 : decide ((0 : Int) < (ps.length : Int)) = false := by rw [HPS.out]; simp
      go_wp2_with fail
      clear c33
      by_cases hpl : m = place
      · have hb1 : (m == place) = true := by simpa using hpl
        clear hpl
        refine wp_region_quietB (by kernel_rfl) (by kernel_rfl) ?_
        iterate 2 (go_big_quiet_step (fail))
        refine wpQuiet_of_op rfl (.int .i64 m) (fun w' ⟨m, hw'⟩ => by subst hw'; have c := (H5.out _ m.below).count; go_simp) ?_
        simp only [Act.put, List.setIfInBounds_toArray, List.set_cons_succ, List.set_cons_zero]
        iterate 3 (go_big_quiet_step (fail))
        iterate 1 (go_big_quiet_step (fail))
        refine wpQuiet_of_opG (by rfl) (.slice ap ps.length cp) (fun w' ⟨m, hw'⟩ => by subst hw'; have c := (H5.out _ m.below).recs; go_simp) ?_
        simp only [Act.put, List.setIfInBounds_toArray, List.set_cons_succ, List.set_cons_zero]
        iterate 4 (go_big_quiet_step (fail))
        iterate 28 (go_big_quiet_step (fail))
        refine wpQuiet_nil ?_
        intro m0
        have HBM := Lib.hid (HBR.out.trans (m0.below.mono HBR.out.size))
        have HB3 := Lib.hid (H3.out _ m0.below)
        have HB5 := Lib.hid (H5K.out _ m0.below)
        generalize m0.wr = W9 at *
        clear m0 H3 H5 H5K H8 HI
        have hr3 := HB3.out.2.2
        have hr5 := HB5.out
        clear HB3 HB5
        go_wp2_with (first | (refine wpList_load_mid rfl 28 (.tmp 3) rfl w.heap.size 0 rfl L _ hr3 Tryd.underlying28 rfl (infoHead _ hL33) ?_) | (refine wpList_load_mid rfl 38 (.tmp 5) rfl (w.heap.size + 1) 0 rfl K _ hr5 Tryd.underlying38 rfl (infoProof _ hK34) ?_))
        refine (HPR.out _ HBM.out).mono ?_
        rintro e w9 ⟨rfl, hb9⟩
        have HB9 := Lib.hid (HBW.out.trans ((HBM.out.trans (hb9.mono HBM.out.size)).mono HBW.out.size))
        clear hb9 hr3 hr5
        go_wp2_with fail
        go_ret
        exact ⟨by rw [HFIN.out]; simp, HB9.out⟩
      · have hb1 : (m == place) = false := by simpa using hpl
        clear hpl
        refine wp_region_quietB (by kernel_rfl) (by kernel_rfl) ?_
        iterate 2 (go_big_quiet_step (fail))
        refine wpQuiet_of_op rfl (.int .i64 m) (fun w' ⟨m, hw'⟩ => by subst hw'; have c := (H5.out _ m.below).count; go_simp) ?_
        simp only [Act.put, List.setIfInBounds_toArray, List.set_cons_succ, List.set_cons_zero]
        iterate 3 (go_big_quiet_step (fail))
        iterate 34 (go_big_quiet_step (fail))
        refine wpQuiet_nil ?_
        intro m0
        have HBM := Lib.hid (HBR.out.trans (m0.below.mono HBR.out.size))
        have HB3 := Lib.hid (H3.out _ m0.below)
        have HB5 := Lib.hid (H5K.out _ m0.below)
        generalize m0.wr = W9 at *
        clear m0 H3 H5 H5K H8 HI
        have hr3 := HB3.out.2.2
        have hr5 := HB5.out
        clear HB3 HB5
        go_wp2_with (first | (refine wpList_load_mid rfl 28 (.tmp 3) rfl w.heap.size 0 rfl L _ hr3 Tryd.underlying28 rfl (infoHead _ hL33) ?_) | (refine wpList_load_mid rfl 38 (.tmp 5) rfl (w.heap.size + 1) 0 rfl K _ hr5 Tryd.underlying38 rfl (infoProof _ hK34) ?_))
        refine (HPR.out _ HBM.out).mono ?_
        rintro e w9 ⟨rfl, hb9⟩
        have HB9 := Lib.hid (HBW.out.trans ((HBM.out.trans (hb9.mono HBM.out.size)).mono HBW.out.size))
        clear hb9 hr3 hr5
        go_wp2_with fail
        go_ret
        exact ⟨by rw [HFIN.out]; simp, HB9.out⟩

set_option maxRecDepth 100000 in
set_option maxHeartbeats 8000000 in
theorem tells_b (w : World) (ht : Tab w) (P : List UInt8) (hP : P.length = 32) (n : Int) (place : Int) (Q : List UInt8) (hQ : Q.length = 32) (m : Int) (hm : -9223372036854775808 ≤ m ∧ m ≤ 9223372036854775807)
    (ps : List Part) (ap : Option Addr) (gp op cp : Nat) (hc : Came w ap gp op ps) (p : Part) (qs : List Part) (hps : ps = p :: qs) (hrem : (n.tmod 3 != 0) = false) :
    Calls Tryd.prog 6 #[HV P n, .int .i64 place, .agg (PC Q m (.slice ap ps.length cp)).toArray] w fun e w' => e = .returned (.bool true) ∧ Below w.heap.size w w' := by
  have h0 := ht.size
  have HT := Lib.hid ht
  have HCA := Lib.hid hc
  have hL33 := length_HC P hP n
  have hone := one_HC P n
  have hK34 := length_PC Q hQ m (.slice ap ps.length cp)
  have hKone := one_PC Q m (.slice ap ps.length cp) rfl
  have HP := Lib.hid hP
  have HQ := Lib.hid hQ
  have HPA : Hid (∀ (W : World) (g : Nat), W.heap[g]? = some (.cells (PC Q m (.slice ap ps.length cp)).toArray 38 (0, 0)) → ProofAt W g Q m (.slice ap ps.length cp)) := Lib.hid fun W g h => proof_at hQ h
  have HHA : Hid (∀ (W : World) (g : Nat), W.heap[g]? = some (.cells (HC P n).toArray 28 (0, 0)) → W.rangeAt g 0 (P.map B) ∧ W.cell? ⟨g, 32, none⟩ = some (.int .i64 n) ∧ W.rangeAt g 0 (HC P n)) := Lib.hid fun W g h => ⟨range_hash h, cell_count hP h, range_block h⟩
  have HF : Hid (∀ W, Below w.heap.size w W → Calls Tryd.prog 9 #[.slice ap ps.length cp, .int .i64 12, .int .i64 400] W fun e w' => e = .returned (.bool (decide ((ps.length : Int) ≤ (12 : Nat)) && decide ((fewS (ps.take 200) : Int) ≤ (400 : Nat)))) ∧ W = w') := Lib.hid (by
    intro W hW; exact few_any W ps ap gp op cp 12 (by omega) 400 (hc.parts.below hW) hc.most hc.each)
  have hsm := few_small ps 12 (by omega) 400 (by omega)
  have HSM := Lib.hid hsm
  clear hsm
  have HPR0 : Hid ((m ≤ 1099511627776) → (decide ((ps.length : Int) ≤ (12 : Nat)) && decide ((fewS (ps.take 200) : Int) ≤ (400 : Nat))) = true → ∀ (W1 : World) (r : Part), r.In W1 → Below w.heap.size w W1 → ∀ W, Below W1.heap.size W1 W → Calls Tryd.prog 16 #[.agg (HC P n).toArray, .int .i64 place, .slice r.ad r.l.length r.cap, .agg (PC Q m (.slice ap ps.length cp)).toArray] W fun e w' => e = .returned (.bool (provesB P n place r.l Q m ps)) ∧ Below W.heap.size W w') := Lib.hid (by
    intro hm1 hf W1 r hr hb1 W hW
    obtain ⟨hl, hle⟩ := HSM.out hf
    have hbW := hb1.trans (hW.mono hb1.size)
    exact proves_any W P hP n place r (hr.below hW) Q hQ m (by omega) ps ap gp op cp (hc.parts.below hbW) (ht.below hbW h0) (fun p hp => Nat.le_trans (hle p hp) (by omega)) (by omega))
  have heq0 := fun (R : List UInt8) (hR : R.length = 32) => eqlHash 26 (Or.inl rfl) P R hP hR
  have hgu0 := fun (R : List UInt8) x y => guardHash .eql P R x y
  have HEQ0 := Lib.hid heq0
  have HGU0 := Lib.hid hgu0
  have hP32 : (P.map B).length = 32 := by simpa using hP
  have hQ32 : (Q.map B).length = 32 := by simpa using hQ
  have hQone := one_bytes Q
  clear heq0 hgu0 hc ht hP hQ
  obtain ⟨few, hfew⟩ : ∃ few, (decide ((ps.length : Int) ≤ (12 : Nat)) && decide ((fewS (ps.take 200) : Int) ≤ (400 : Nat))) = few := ⟨_, rfl⟩
  rw [hfew] at HF HPR0 HSM
  clear hfew
  have hlm := HCA.out.most
  unfold maxLen at hlm
  have hlen : decide ((0 : Int) < (ps.length : Int)) = true := by rw [hps]; simp
  have hlenN : decide (0 < ps.length) = true := by rw [hps]; simp
  have hpos : 0 < ps.length := by rw [hps]; simp
  obtain ⟨had, hc0, hp0⟩ : ap = some ⟨gp, op, none⟩ ∧ w.cell? ⟨gp, op, none⟩ = some (.slice p.ad p.l.length p.cap) ∧ p.In w := by
    subst hps
    refine ⟨HCA.out.parts.at' (by simp), ?_, HCA.out.parts.parts p (by simp)⟩
    have := HCA.out.parts.cell 0 (by simp)
    rw [Nat.add_zero] at this
    rw [this]; rfl
  subst had
  have HC0 := Lib.hid hc0
  have HP0 := Lib.hid hp0
  clear hc0 hp0
  have kc := fun (w : World) (C : Array Value) (n c : Nat) => Lib.run_convert_bytes_const (P := Tryd.prog) w 31 5 C n c Tryd.underlying31 Tryd.underlying5
  have kc2 := fun (A A2 : Obj) (C : Array Value) (n c : Nat) => kc ((w.alloc A).alloc A2) C n c
  have hsz : ∀ A A2 : Obj, ((w.alloc A).alloc A2).heap.size = w.heap.size + 1 + 1 := fun A A2 => by simp
  simp only [hsz] at kc2
  clear kc hsz
  unfold HV
  generalize hLL : HC P n = L at *
  generalize hKK : PC Q m (.slice (some ⟨gp, op, none⟩) ps.length cp) = K at *
  clear hLL hKK
  generalize hPX : P.map B = PX at *
  have HPX := Lib.hid hPX
  clear hPX
  go_enter Tryd.func6, Tryd.ntmps6
  have A3 : ∀ fr : Nat × Nat, (((w.alloc (.cells L.toArray 28)).alloc (.cells K.toArray 38)).alloc (.cells #[.int .u8 120] 5 fr)).heap[w.heap.size]? = some (.cells L.toArray 28 (0, 0)) := fun fr => by
    rw [Below.heap_alloc _ _ _ (by simp; omega), Below.heap_alloc _ _ _ (by simp)]; exact heap_alloc_new _ _
  have A5 : ∀ fr : Nat × Nat, (((w.alloc (.cells L.toArray 28)).alloc (.cells K.toArray 38)).alloc (.cells #[.int .u8 120] 5 fr)).heap[w.heap.size + 1]? = some (.cells K.toArray 38 (0, 0)) := fun fr => by
    rw [Below.heap_alloc _ _ _ (by simp)]; exact heap_alloc2_new _ _ _
  have A7 : (((w.alloc (.cells L.toArray 28)).alloc (.cells K.toArray 38)).alloc (.cells #[.int .u8 120] 5 (1, 2))).heap[w.heap.size + 1 + 1]? = some (.cells (([120] : List UInt8).map B).toArray 5 (1, 2)) := heap_alloc3_new _ _ _ _
  have hb1 : Below w.heap.size w (((w.alloc (.cells L.toArray 28)).alloc (.cells K.toArray 38)).alloc (.cells #[.int .u8 120] 5 (1, 2))) := (((Below.refl _ _).alloc (Nat.le_refl _) _).alloc (by simp) _).alloc (by simp; omega) _
  have e5 := HPA.out _ _ (A5 (1, 2))
  have e3 := HHA.out _ _ (A3 (1, 2))
  have c33 := e5.recs
  have c32 := e3.2.1
  have HB1 := Lib.hid hb1
  have G3 := Lib.hid (A3 (1, 2))
  have G5 := Lib.hid (A5 (1, 2))
  have G7 := Lib.hid A7
  clear A3 A5 A7 hb1 e5 e3
  have hc1 := (HB1.out.cell (p := ⟨gp, op, none⟩) (by exact block_lt_of_cell HC0.out)).trans HC0.out
  clear hc1
  have HPS := Lib.hid hps
  clear hps
  go_wp2_with fail
  generalize World.alloc _ _ = W1 at *
  clear c33 c32 kc2
  obtain ⟨r, hri, hrv⟩ : ∃ r : Part, r.In W1 ∧ Value.slice (some ⟨w.heap.size + 1 + 1, 0, none⟩) 1 1 = .slice r.ad r.l.length r.cap := ⟨⟨some ⟨w.heap.size + 1 + 1, 0, none⟩, w.heap.size + 1 + 1, 0, 1, [120]⟩, partNew (l := [120]) G7.out, rfl⟩
  rw [hrv]
  have HRI := Lib.hid hri
  clear hri hrv
  clear G7
  refine (awake_any W1 (HT.out.below HB1.out h0)).mono ?_
  rintro e w1 ⟨rfl, hb2⟩
  have HBX := Lib.hid hb2
  have HB2 := Lib.hid (HB1.out.trans (hb2.mono HB1.out.size))
  have G3' := Lib.hid ((hb2.block _ (lt_block G3.out)).trans G3.out)
  have G5' := Lib.hid ((hb2.block _ (lt_block G5.out)).trans G5.out)
  clear hb2 G3 G5
  have e5 := HPA.out _ _ G5'.out
  have c33 := e5.recs
  have c32 := e5.count
  have hrq := e5.hash
  clear e5
  go_wp2_with fail
  refine (HF.out _ HB2.out).mono ?_
  rintro e w' ⟨rfl, rfl⟩
  cases few
  · clear hrq
    go_wp2_with fail
    refine (awake_any w1 (HT.out.below HB2.out h0)).mono ?_
    rintro e w2 ⟨rfl, hb2⟩
    have HBE := Lib.hid (HB2.out.trans (hb2.mono HB2.out.size))
    clear hb2
    go_wp2_with fail
    go_ret
    exact ⟨rfl, HBE.out⟩
  by_cases hm1 : m ≤ 1099511627776
  case neg =>
    have hd : decide (1099511627776 < m) = true := by simpa using hm1
    clear hrq
    go_wp2_with fail
    refine (awake_any w1 (HT.out.below HB2.out h0)).mono ?_
    rintro e w2 ⟨rfl, hb2⟩
    have HBE := Lib.hid (HB2.out.trans (hb2.mono HB2.out.size))
    clear hb2
    go_wp2_with fail
    go_ret
    exact ⟨rfl, HBE.out⟩
  have hd : decide (1099511627776 < m) = false := by simpa using hm1
  have hl12 := (HSM.out rfl).1
  have HLE := Lib.hid (HSM.out rfl).2
  have HPR := Lib.hid (HPR0.out hm1 rfl W1 r HRI.out HB1.out)
  clear HPR0 HSM HF
  have hz := zeroHashV'
  have hZ32 : (z32.map B).length = 32 := rfl
  have hst0 : ∀ (W : World) (G8 : Nat), W.heap[G8]? = some (.cells (Q.map B).toArray 26 (0, 0)) → Below w1.heap.size w1 W → w1.heap.size ≤ G8 → TellsRel w1 G8 Q ps 0 W := fun W G8 h1 h2 h3 => ⟨h1, h2, h3⟩
  have HST := Lib.hid hst0
  clear hst0
  generalize z32.map B = Z at *
  generalize hQX : Q.map B = QX at *
  have HQX := Lib.hid hQX
  clear hQX
  have hthere := there_block (heap_alloc_new w1 (.cells Z.toArray 26)) 0 32 (by omega)
  have hend := heap_setCells _ _ QX 0 _ _ (heap_alloc_new w1 (.cells Z.toArray 26)) (by omega)
  rw [over_all _ _ (by omega)] at hend
  have hbe : Below w1.heap.size w1 ((w1.alloc (.cells Z.toArray 26)).setCells w1.heap.size 0 QX) :=
    (Kept1.setCells (b := w1.heap.size) w1.heap.size (Or.inl rfl) QX 0 ((Kept1.refl _ _).alloc _)).below (Nat.le_refl _)
  have HR0 := Lib.hid (HST.out _ _ hend hbe (Nat.le_refl _))
  clear hend hbe HST
  go_wp2_with (first | (refine wpList_load_mid rfl 26 (.tmp 43) rfl (w.heap.size + 1) 0 rfl QX _ hrq Tryd.underlying26 rfl (infoHash _ hQ32) ?_) | (refine wpList_store_mid rfl 26 (.tmp 8) (.tmp 44) rfl w1.heap.size 0 QX.toArray rfl rfl (by simpa [hQ32] using hthere) (infoHash _ (by simpa using hQ32)) (all_oneCell_toArray hQone) ?_))
  have R0 := HR0.out
  generalize World.setCells _ _ _ _ = W4 at *
  clear hthere HR0 c32 c33 hrq hd
  obtain ⟨G8, hG8⟩ : ∃ G8, G8 = w1.heap.size := ⟨_, rfl⟩
  rw [← hG8] at R0 ⊢
  clear hG8
  go_loopw [9] (fun i wr => ∃ k : Nat, k ≤ ps.length ∧ i = .int .i64 k ∧ TellsRel w1 G8 Q ps k wr) (fun i _ => ps.length - (intOf i).toNat)
  case atStart => exact ⟨0, by omega, rfl, R0⟩
  case round =>
    clear R0
    obtain ⟨k, hk, rfl, hr⟩ := hrel
    have c33 := (HPA.out _ _ ((hr.below.block _ (lt_block G5'.out)).trans G5'.out)).recs
    by_cases hlt : k < ps.length
    · have hd : decide ((k : Int) < (ps.length : Int)) = true := by simp; omega
      have HIN : Hid (∀ W : World, Below wr.heap.size wr W → W.cell? ⟨gp, op + k, none⟩ = some (.slice ps[k].ad ps[k].l.length ps[k].cap) ∧ W.rangeAt G8 0 ((folded Q (ps.take k)).map B) ∧ W.cell? ⟨w.heap.size + 1, 33, none⟩ = some (.slice (some ⟨gp, op, none⟩) ps.length cp) ∧
          Calls Tryd.prog 17 #[.agg ((folded Q (ps.take k)).map B).toArray, .slice ps[k].ad ps[k].l.length ps[k].cap] W fun e w' => e = .returned (.agg ((folded Q (ps.take (k + 1))).map B).toArray) ∧ Below W.heap.size W w') := Lib.hid fun W hW => by
        have hb1W := hr.below.trans (hW.mono hr.below.size)
        have hbW := HB2.out.trans (hb1W.mono HB2.out.size)
        refine ⟨by rw [hbW.cell (by exact HCA.out.parts.lt), HCA.out.parts.cell k hlt]; rfl, range_block ((hW.block _ (lt_block hr.g)).trans hr.g), (HPA.out _ _ ((hb1W.block _ (lt_block G5'.out)).trans G5'.out)).recs, ?_⟩
        rw [folded_snoc Q ps k hlt]
        exact refLink_any W _ (length_folded Q HQ.out _) ps[k] ((HCA.out.parts.parts ps[k] (List.getElem_mem hlt)).below hbW) (HCA.out.nil _ (List.getElem_mem hlt)) (by have := hbW.size; omega) (Nat.le_trans (HLE.out _ (List.getElem_mem hlt)) (by omega))
      have hl32 : ((folded Q (ps.take k)).map B).length = 32 := by simpa using length_folded Q HQ.out (ps.take k)
      have hn32 : ((folded Q (ps.take (k + 1))).map B).length = 32 := by simpa using length_folded Q HQ.out (ps.take (k + 1))
      have hnone := one_bytes (folded Q (ps.take (k + 1)))
      have HR := Lib.hid hr
      clear hr
      generalize ps[k] = q at *
      generalize hD : (folded Q (ps.take (k + 1))).map B = D at *
      have HD := Lib.hid hD
      clear hD
      generalize hL1 : (folded Q (ps.take k)).map B = L1 at *
      have HL1 := Lib.hid hL1
      clear hL1
      go_wp2_with fail
      clear c33
      refine wp_region_quiet_tailB 7 (by kernel_rfl) (by kernel_rfl) ?_
      simp only [List.take_succ_cons, List.take_zero, List.drop_succ_cons, List.drop_zero]
      refine wpQuiet_load_mid rfl 26 (.tmp 8) rfl G8 0 rfl L1 _ (fun w' ⟨m, hw'⟩ => hw' ▸ (HIN.out _ m.below).2.1) Tryd.underlying26 rfl (infoHash _ hl32) ?_
      simp only [Act.put, List.setIfInBounds_toArray, List.set_cons_succ, List.set_cons_zero]
      go_big_quiet_step (fail)
      refine wpQuiet_of_op rfl (.slice (some ⟨gp, op, none⟩) ps.length cp) (fun w' ⟨m, hw'⟩ => by subst hw'; have c := (HIN.out _ m.below).2.2.1; go_simp) ?_
      simp only [Act.put, List.setIfInBounds_toArray, List.set_cons_succ, List.set_cons_zero]
      iterate 2 (go_big_quiet_step (fail))
      refine wpQuiet_of_op rfl (.slice q.ad q.l.length q.cap) (fun w' ⟨m, hw'⟩ => by subst hw'; have c := (HIN.out _ m.below).1; go_simp) ?_
      simp only [Act.put, List.setIfInBounds_toArray, List.set_cons_succ, List.set_cons_zero]
      go_big_quiet_step ((go_at_call 17; with_reducible exact Calls.quiet_b (HIN.out _ (Bl.below _)).2.2.2))
      refine wpQuiet_nil ?_
      intro m0
      have hb2 := m0.below
      generalize m0.wr = w5 at *
      clear m0
      have hat := (hb2.block _ (lt_block HR.out.g)).trans HR.out.g
      rw [HL1.out] at hat
      have hbel := HR.out.below.trans (hb2.mono HR.out.below.size)
      have hthere := there_block hat 0 32 (by omega)
      have hend := heap_setCells _ _ D 0 _ _ hat (by omega)
      rw [over_all _ _ (by omega)] at hend
      have hk1 : Kept1 G8 w5 (w5.setCells G8 0 D) := Kept1.setCells _ (Or.inl rfl) _ _ (Kept1.refl _ _)
      have R2 : TellsRel w1 G8 Q ps (k + 1) (w5.setCells G8 0 D) := ⟨by rw [HD.out]; exact hend, Kept1.mono hbel hk1 HR.out.b8, HR.out.b8⟩
      have HR2 := Lib.hid R2
      clear hat hbel hend hk1 R2 hb2 HR HIN
      go_wp2_with (refine wpList_store_mid rfl 26 (.tmp 8) (.tmp 58) rfl G8 0 D.toArray rfl rfl (by simpa [hn32] using hthere) (infoHash _ (by simpa using hn32)) (all_oneCell_toArray hnone) ?_)
      go_roundw
      case rel => exact ⟨k + 1, by omega, by go_num, HR2.out⟩
      case measure => simp [intOf]; omega
    · have hd : decide ((k : Int) < (ps.length : Int)) = false := by simp; omega
      obtain rfl : k = ps.length := by omega
      have h8 := hr.g
      rw [List.take_length] at h8
      have HBR := Lib.hid (HBX.out.trans (hr.below.mono HBX.out.size))
      have HBW := HB1
      have hf32 : ((folded Q ps).map B).length = 32 := by simpa using length_folded Q HQ.out ps
      have H8 : Hid (∀ W : World, Below wr.heap.size wr W → W.rangeAt G8 0 ((folded Q ps).map B)) := Lib.hid fun W hW => range_block ((hW.block _ (lt_block h8)).trans h8)
      have H5 : Hid (∀ W : World, Below wr.heap.size wr W → ProofAt W (w.heap.size + 1) Q m (.slice (some ⟨gp, op, none⟩) ps.length cp)) := Lib.hid fun W hW => HPA.out _ _ (((hr.below.trans (hW.mono hr.below.size)).block _ (lt_block G5'.out)).trans G5'.out)
      have H5K : Hid (∀ W : World, Below wr.heap.size wr W → W.rangeAt (w.heap.size + 1) 0 K) := Lib.hid fun W hW => range_block (((hr.below.trans (hW.mono hr.below.size)).block _ (lt_block G5'.out)).trans G5'.out)
      have H3 : Hid (∀ W : World, Below wr.heap.size wr W → W.rangeAt w.heap.size 0 PX ∧ W.cell? ⟨w.heap.size, 32, none⟩ = some (.int .i64 n) ∧ W.rangeAt w.heap.size 0 L) := Lib.hid fun W hW => HHA.out _ _ (((hr.below.trans (hW.mono hr.below.size)).block _ (lt_block G3'.out)).trans G3'.out)
      have HI : Hid (∀ W : World, Below wr.heap.size wr W → W.cell? ⟨gp, op, none⟩ = some (.slice p.ad p.l.length p.cap) ∧ (convert 31 9 (.slice p.ad p.l.length p.cap)).run Tryd.prog W = .ok (.string (tx p.l)) W ∧ (convert 31 9 (.slice r.ad r.l.length r.cap)).run Tryd.prog W = .ok (.string (tx r.l)) W) := Lib.hid fun W hW => by
        have hb1W := HBR.out.trans (hW.mono HBR.out.size)
        have hbW := HB1.out.trans (hb1W.mono HB1.out.size)
        exact ⟨(hbW.cell (by exact block_lt_of_cell HC0.out)).trans HC0.out, conv_part (HP0.out.below hbW), conv_part (HRI.out.below hb1W)⟩
      have HEQ := Lib.hid (HEQ0.out (folded Q ps) (length_folded Q HQ.out _))
      have HGU := Lib.hid (HGU0.out (folded Q ps))
      clear hr h8 HEQ0 HGU0 HHA
      have hl0 : decide ((0 : Int) < (ps.length : Int)) = true := by rw [HPS.out]; simp
      obtain ⟨b1, hb1⟩ : ∃ b, (m == place) = b := ⟨_, rfl⟩
      obtain ⟨b3, hb3⟩ : ∃ b, (p.l == r.l) = b := ⟨_, rfl⟩
      obtain ⟨b4, hb4⟩ : ∃ b, (P == folded Q ps) = b := ⟨_, rfl⟩
      have hpb : provesB P n place r.l Q m ps = (b1 && b3 && (b4 && n == m + (ps.length : Int))) := by
        rw [← hb4, show (P == folded Q ps) = (folded Q ps == P) by rw [Bool.eq_iff_iff, beq_iff_eq, beq_iff_eq]; exact ⟨Eq.symm, Eq.symm⟩, show (n == m + (ps.length : Int)) = (m + (ps.length : Int) == n) by rw [Bool.eq_iff_iff, beq_iff_eq, beq_iff_eq]; exact ⟨Eq.symm, Eq.symm⟩, ← hb1, ← hb3, HPS.out]
        rfl
      have HPB := Lib.hid hpb
      clear hpb
      rw [hb4] at HEQ
      have hst : ((tx p.l).toList == (tx r.l).toList) = b3 := by simp only [toList_tx]; exact hb3
      clear hb3 hb4
      generalize provesB P n place r.l Q m ps = pb at *
      generalize (folded Q ps).map B = FX at *
      generalize tx p.l = S at *
      generalize tx r.l = T at *
      go_wp2_with fail
      clear c33
      cases b1
      · have HFIN := Lib.hid (show pb = false by rw [HPB.out]; simp)
        clear HPB
        refine wp_region_quietB (by kernel_rfl) (by kernel_rfl) ?_
        iterate 2 (go_big_quiet_step (fail))
        refine wpQuiet_of_op rfl (.int .i64 m) (fun w' ⟨m, hw'⟩ => by subst hw'; have c := (H5.out _ m.below).count; go_simp) ?_
        simp only [Act.put, List.setIfInBounds_toArray, List.set_cons_succ, List.set_cons_zero]
        iterate 3 (go_big_quiet_step (fail))
        iterate 34 (go_big_quiet_step (fail))
        refine wpQuiet_nil ?_
        intro m0
        have HBM := Lib.hid (HBR.out.trans (m0.below.mono HBR.out.size))
        have HB3 := Lib.hid (H3.out _ m0.below)
        have HB5 := Lib.hid (H5K.out _ m0.below)
        generalize m0.wr = W9 at *
        clear m0 H3 H5 H5K H8 HI
        have hr3 := HB3.out.2.2
        have hr5 := HB5.out
        clear HB3 HB5
        go_wp2_with (first | (refine wpList_load_mid rfl 28 (.tmp 3) rfl w.heap.size 0 rfl L _ hr3 Tryd.underlying28 rfl (infoHead _ hL33) ?_) | (refine wpList_load_mid rfl 38 (.tmp 5) rfl (w.heap.size + 1) 0 rfl K _ hr5 Tryd.underlying38 rfl (infoProof _ hK34) ?_))
        refine (HPR.out _ HBM.out).mono ?_
        rintro e w9 ⟨rfl, hb9⟩
        have HB9 := Lib.hid (HBW.out.trans ((HBM.out.trans (hb9.mono HBM.out.size)).mono HBW.out.size))
        clear hb9 hr3 hr5
        go_wp2_with fail
        go_ret
        exact ⟨by rw [HFIN.out]; simp, HB9.out⟩
      cases b3
      · have HFIN := Lib.hid (show pb = false by rw [HPB.out]; simp)
        clear HPB
        refine wp_region_quietB (by kernel_rfl) (by kernel_rfl) ?_
        iterate 2 (go_big_quiet_step (fail))
        refine wpQuiet_of_op rfl (.int .i64 m) (fun w' ⟨m, hw'⟩ => by subst hw'; have c := (H5.out _ m.below).count; go_simp) ?_
        simp only [Act.put, List.setIfInBounds_toArray, List.set_cons_succ, List.set_cons_zero]
        iterate 3 (go_big_quiet_step (fail))
        iterate 1 (go_big_quiet_step (fail))
        refine wpQuiet_of_opG (by rfl) (.slice (some ⟨gp, op, none⟩) ps.length cp) (fun w' ⟨m, hw'⟩ => by subst hw'; have c := (H5.out _ m.below).recs; go_simp) ?_
        simp only [Act.put, List.setIfInBounds_toArray, List.set_cons_succ, List.set_cons_zero]
        iterate 4 (go_big_quiet_step (fail))
        iterate 1 (go_big_quiet_step (fail))
        refine wpQuiet_of_opG (by rfl) (.slice (some ⟨gp, op, none⟩) ps.length cp) (fun w' ⟨m, hw'⟩ => by subst hw'; have c := (H5.out _ m.below).recs; go_simp) ?_
        simp only [Act.put, List.setIfInBounds_toArray, List.set_cons_succ, List.set_cons_zero]
        iterate 1 (go_big_quiet_step (fail))
        refine wpQuiet_of_opG (by rfl) (.slice p.ad p.l.length p.cap) (fun w' ⟨m, hw'⟩ => by subst hw'; have c := (HI.out _ m.below).1; go_simp) ?_
        simp only [Act.put, List.setIfInBounds_toArray, List.set_cons_succ, List.set_cons_zero]
        refine wpQuiet_of_opG (by rfl) (.string S) (fun w' ⟨m, hw'⟩ => by subst hw'; have c := (HI.out _ m.below).2.1; go_simp) ?_
        simp only [Act.put, List.setIfInBounds_toArray, List.set_cons_succ, List.set_cons_zero]
        iterate 1 (go_big_quiet_step (fail))
        refine wpQuiet_of_opG (by rfl) (.string T) (fun w' ⟨m, hw'⟩ => by subst hw'; have c := (HI.out _ m.below).2.2; go_simp) ?_
        simp only [Act.put, List.setIfInBounds_toArray, List.set_cons_succ, List.set_cons_zero]
        refine wpQuiet_of_opG (by rfl) (.bool false) (fun w' _ => by go_simp) ?_
        simp only [Act.put, List.setIfInBounds_toArray, List.set_cons_succ, List.set_cons_zero]
        iterate 2 (go_big_quiet_step (fail))
        iterate 18 (go_big_quiet_step (fail))
        refine wpQuiet_nil ?_
        intro m0
        have HBM := Lib.hid (HBR.out.trans (m0.below.mono HBR.out.size))
        have HB3 := Lib.hid (H3.out _ m0.below)
        have HB5 := Lib.hid (H5K.out _ m0.below)
        generalize m0.wr = W9 at *
        clear m0 H3 H5 H5K H8 HI
        have hr3 := HB3.out.2.2
        have hr5 := HB5.out
        clear HB3 HB5
        go_wp2_with (first | (refine wpList_load_mid rfl 28 (.tmp 3) rfl w.heap.size 0 rfl L _ hr3 Tryd.underlying28 rfl (infoHead _ hL33) ?_) | (refine wpList_load_mid rfl 38 (.tmp 5) rfl (w.heap.size + 1) 0 rfl K _ hr5 Tryd.underlying38 rfl (infoProof _ hK34) ?_))
        refine (HPR.out _ HBM.out).mono ?_
        rintro e w9 ⟨rfl, hb9⟩
        have HB9 := Lib.hid (HBW.out.trans ((HBM.out.trans (hb9.mono HBM.out.size)).mono HBW.out.size))
        clear hb9 hr3 hr5
        go_wp2_with fail
        go_ret
        exact ⟨by rw [HFIN.out]; simp, HB9.out⟩
      cases b4
      · have HFIN := Lib.hid (show pb = false by rw [HPB.out]; simp)
        clear HPB
        refine wp_region_quietB (by kernel_rfl) (by kernel_rfl) ?_
        iterate 2 (go_big_quiet_step (fail))
        refine wpQuiet_of_op rfl (.int .i64 m) (fun w' ⟨m, hw'⟩ => by subst hw'; have c := (H5.out _ m.below).count; go_simp) ?_
        simp only [Act.put, List.setIfInBounds_toArray, List.set_cons_succ, List.set_cons_zero]
        iterate 3 (go_big_quiet_step (fail))
        iterate 1 (go_big_quiet_step (fail))
        refine wpQuiet_of_opG (by rfl) (.slice (some ⟨gp, op, none⟩) ps.length cp) (fun w' ⟨m, hw'⟩ => by subst hw'; have c := (H5.out _ m.below).recs; go_simp) ?_
        simp only [Act.put, List.setIfInBounds_toArray, List.set_cons_succ, List.set_cons_zero]
        iterate 4 (go_big_quiet_step (fail))
        iterate 1 (go_big_quiet_step (fail))
        refine wpQuiet_of_opG (by rfl) (.slice (some ⟨gp, op, none⟩) ps.length cp) (fun w' ⟨m, hw'⟩ => by subst hw'; have c := (H5.out _ m.below).recs; go_simp) ?_
        simp only [Act.put, List.setIfInBounds_toArray, List.set_cons_succ, List.set_cons_zero]
        iterate 1 (go_big_quiet_step (fail))
        refine wpQuiet_of_opG (by rfl) (.slice p.ad p.l.length p.cap) (fun w' ⟨m, hw'⟩ => by subst hw'; have c := (HI.out _ m.below).1; go_simp) ?_
        simp only [Act.put, List.setIfInBounds_toArray, List.set_cons_succ, List.set_cons_zero]
        refine wpQuiet_of_opG (by rfl) (.string S) (fun w' ⟨m, hw'⟩ => by subst hw'; have c := (HI.out _ m.below).2.1; go_simp) ?_
        simp only [Act.put, List.setIfInBounds_toArray, List.set_cons_succ, List.set_cons_zero]
        iterate 1 (go_big_quiet_step (fail))
        refine wpQuiet_of_opG (by rfl) (.string T) (fun w' ⟨m, hw'⟩ => by subst hw'; have c := (HI.out _ m.below).2.2; go_simp) ?_
        simp only [Act.put, List.setIfInBounds_toArray, List.set_cons_succ, List.set_cons_zero]
        refine wpQuiet_of_opG (by rfl) (.bool true) (fun w' _ => by go_simp) ?_
        simp only [Act.put, List.setIfInBounds_toArray, List.set_cons_succ, List.set_cons_zero]
        iterate 2 (go_big_quiet_step (fail))
        iterate 1 (go_big_quiet_step (fail))
        refine wpQuiet_load_midG (by rfl) 26 (.tmp 81) rfl (w.heap.size) 0 rfl PX _ (fun w' ⟨m, hw'⟩ => hw' ▸ (H3.out _ m.below).1) Tryd.underlying26 rfl (infoHash _ hP32) ?_
        simp only [Act.put, List.setIfInBounds_toArray, List.set_cons_succ, List.set_cons_zero]
        refine wpQuiet_load_midG (by rfl) 26 (.tmp 8) rfl (G8) 0 rfl FX _ (fun w' ⟨m, hw'⟩ => hw' ▸ H8.out _ m.below) Tryd.underlying26 rfl (infoHash _ hf32) ?_
        simp only [Act.put, List.setIfInBounds_toArray, List.set_cons_succ, List.set_cons_zero]
        refine wpQuiet_of_opG (by rfl) (.bool false) (fun w' _ => by have k := HEQ.out; have l := HGU.out; go_simp) ?_
        simp only [Act.put, List.setIfInBounds_toArray, List.set_cons_succ, List.set_cons_zero]
        iterate 2 (go_big_quiet_step (fail))
        iterate 12 (go_big_quiet_step (fail))
        refine wpQuiet_nil ?_
        intro m0
        have HBM := Lib.hid (HBR.out.trans (m0.below.mono HBR.out.size))
        have HB3 := Lib.hid (H3.out _ m0.below)
        have HB5 := Lib.hid (H5K.out _ m0.below)
        generalize m0.wr = W9 at *
        clear m0 H3 H5 H5K H8 HI
        have hr3 := HB3.out.2.2
        have hr5 := HB5.out
        clear HB3 HB5
        go_wp2_with (first | (refine wpList_load_mid rfl 28 (.tmp 3) rfl w.heap.size 0 rfl L _ hr3 Tryd.underlying28 rfl (infoHead _ hL33) ?_) | (refine wpList_load_mid rfl 38 (.tmp 5) rfl (w.heap.size + 1) 0 rfl K _ hr5 Tryd.underlying38 rfl (infoProof _ hK34) ?_))
        refine (HPR.out _ HBM.out).mono ?_
        rintro e w9 ⟨rfl, hb9⟩
        have HB9 := Lib.hid (HBW.out.trans ((HBM.out.trans (hb9.mono HBM.out.size)).mono HBW.out.size))
        clear hb9 hr3 hr5
        go_wp2_with fail
        go_ret
        exact ⟨by rw [HFIN.out]; simp, HB9.out⟩
      · have HFIN := Lib.hid (show pb = (n == m + (ps.length : Int)) by rw [HPB.out]; simp)
        clear HPB
        refine wp_region_quietB (by kernel_rfl) (by kernel_rfl) ?_
        iterate 2 (go_big_quiet_step (fail))
        refine wpQuiet_of_op rfl (.int .i64 m) (fun w' ⟨m, hw'⟩ => by subst hw'; have c := (H5.out _ m.below).count; go_simp) ?_
        simp only [Act.put, List.setIfInBounds_toArray, List.set_cons_succ, List.set_cons_zero]
        iterate 3 (go_big_quiet_step (fail))
        iterate 1 (go_big_quiet_step (fail))
        refine wpQuiet_of_opG (by rfl) (.slice (some ⟨gp, op, none⟩) ps.length cp) (fun w' ⟨m, hw'⟩ => by subst hw'; have c := (H5.out _ m.below).recs; go_simp) ?_
        simp only [Act.put, List.setIfInBounds_toArray, List.set_cons_succ, List.set_cons_zero]
        iterate 4 (go_big_quiet_step (fail))
        iterate 1 (go_big_quiet_step (fail))
        refine wpQuiet_of_opG (by rfl) (.slice (some ⟨gp, op, none⟩) ps.length cp) (fun w' ⟨m, hw'⟩ => by subst hw'; have c := (H5.out _ m.below).recs; go_simp) ?_
        simp only [Act.put, List.setIfInBounds_toArray, List.set_cons_succ, List.set_cons_zero]
        iterate 1 (go_big_quiet_step (fail))
        refine wpQuiet_of_opG (by rfl) (.slice p.ad p.l.length p.cap) (fun w' ⟨m, hw'⟩ => by subst hw'; have c := (HI.out _ m.below).1; go_simp) ?_
        simp only [Act.put, List.setIfInBounds_toArray, List.set_cons_succ, List.set_cons_zero]
        refine wpQuiet_of_opG (by rfl) (.string S) (fun w' ⟨m, hw'⟩ => by subst hw'; have c := (HI.out _ m.below).2.1; go_simp) ?_
        simp only [Act.put, List.setIfInBounds_toArray, List.set_cons_succ, List.set_cons_zero]
        iterate 1 (go_big_quiet_step (fail))
        refine wpQuiet_of_opG (by rfl) (.string T) (fun w' ⟨m, hw'⟩ => by subst hw'; have c := (HI.out _ m.below).2.2; go_simp) ?_
        simp only [Act.put, List.setIfInBounds_toArray, List.set_cons_succ, List.set_cons_zero]
        refine wpQuiet_of_opG (by rfl) (.bool true) (fun w' _ => by go_simp) ?_
        simp only [Act.put, List.setIfInBounds_toArray, List.set_cons_succ, List.set_cons_zero]
        iterate 2 (go_big_quiet_step (fail))
        iterate 1 (go_big_quiet_step (fail))
        refine wpQuiet_load_midG (by rfl) 26 (.tmp 81) rfl (w.heap.size) 0 rfl PX _ (fun w' ⟨m, hw'⟩ => hw' ▸ (H3.out _ m.below).1) Tryd.underlying26 rfl (infoHash _ hP32) ?_
        simp only [Act.put, List.setIfInBounds_toArray, List.set_cons_succ, List.set_cons_zero]
        refine wpQuiet_load_midG (by rfl) 26 (.tmp 8) rfl (G8) 0 rfl FX _ (fun w' ⟨m, hw'⟩ => hw' ▸ H8.out _ m.below) Tryd.underlying26 rfl (infoHash _ hf32) ?_
        simp only [Act.put, List.setIfInBounds_toArray, List.set_cons_succ, List.set_cons_zero]
        refine wpQuiet_of_opG (by rfl) (.bool true) (fun w' _ => by have k := HEQ.out; have l := HGU.out; go_simp) ?_
        simp only [Act.put, List.setIfInBounds_toArray, List.set_cons_succ, List.set_cons_zero]
        iterate 2 (go_big_quiet_step (fail))
        iterate 1 (go_big_quiet_step (fail))
        refine wpQuiet_of_opG (by rfl) (.int .i64 n) (fun w' ⟨m, hw'⟩ => by subst hw'; have c := (H3.out _ m.below).2.1; go_simp) ?_
        simp only [Act.put, List.setIfInBounds_toArray, List.set_cons_succ, List.set_cons_zero]
        iterate 2 (go_big_quiet_step (fail))
        refine wpQuiet_of_opG (by rfl) (.int .i64 m) (fun w' ⟨m, hw'⟩ => by subst hw'; have c := (H5.out _ m.below).count; go_simp) ?_
        simp only [Act.put, List.setIfInBounds_toArray, List.set_cons_succ, List.set_cons_zero]
        iterate 1 (go_big_quiet_step (fail))
        refine wpQuiet_of_opG (by rfl) (.slice (some ⟨gp, op, none⟩) ps.length cp) (fun w' ⟨m, hw'⟩ => by subst hw'; have c := (H5.out _ m.below).recs; go_simp) ?_
        simp only [Act.put, List.setIfInBounds_toArray, List.set_cons_succ, List.set_cons_zero]
        iterate 5 (go_big_quiet_step (fail))
        refine wpQuiet_nil ?_
        intro m0
        have HBM := Lib.hid (HBR.out.trans (m0.below.mono HBR.out.size))
        have HB3 := Lib.hid (H3.out _ m0.below)
        have HB5 := Lib.hid (H5K.out _ m0.below)
        generalize m0.wr = W9 at *
        clear m0 H3 H5 H5K H8 HI
        have hr3 := HB3.out.2.2
        have hr5 := HB5.out
        clear HB3 HB5
        go_wp2_with (first | (refine wpList_load_mid rfl 28 (.tmp 3) rfl w.heap.size 0 rfl L _ hr3 Tryd.underlying28 rfl (infoHead _ hL33) ?_) | (refine wpList_load_mid rfl 38 (.tmp 5) rfl (w.heap.size + 1) 0 rfl K _ hr5 Tryd.underlying38 rfl (infoProof _ hK34) ?_))
        refine (HPR.out _ HBM.out).mono ?_
        rintro e w9 ⟨rfl, hb9⟩
        have HB9 := Lib.hid (HBW.out.trans ((HBM.out.trans (hb9.mono HBM.out.size)).mono HBW.out.size))
        clear hb9 hr3 hr5
        go_wp2_with fail
        go_ret
        exact ⟨by rw [HFIN.out]; simp, HB9.out⟩

set_option maxRecDepth 100000 in
set_option maxHeartbeats 8000000 in
theorem tells_c (w : World) (ht : Tab w) (P : List UInt8) (hP : P.length = 32) (n : Int) (place : Int) (Q : List UInt8) (hQ : Q.length = 32) (m : Int) (hm : -9223372036854775808 ≤ m ∧ m ≤ 9223372036854775807)
    (ps : List Part) (ap : Option Addr) (gp op cp : Nat) (hc : Came w ap gp op ps) (p : Part) (qs : List Part) (hps : ps = p :: qs) (hrem : (n.tmod 3 != 0) = true) :
    Calls Tryd.prog 6 #[HV P n, .int .i64 place, .agg (PC Q m (.slice ap ps.length cp)).toArray] w fun e w' => e = .returned (.bool true) ∧ Below w.heap.size w w' := by
  have h0 := ht.size
  have HT := Lib.hid ht
  have HCA := Lib.hid hc
  have hL33 := length_HC P hP n
  have hone := one_HC P n
  have hK34 := length_PC Q hQ m (.slice ap ps.length cp)
  have hKone := one_PC Q m (.slice ap ps.length cp) rfl
  have HP := Lib.hid hP
  have HQ := Lib.hid hQ
  have HPA : Hid (∀ (W : World) (g : Nat), W.heap[g]? = some (.cells (PC Q m (.slice ap ps.length cp)).toArray 38 (0, 0)) → ProofAt W g Q m (.slice ap ps.length cp)) := Lib.hid fun W g h => proof_at hQ h
  have HHA : Hid (∀ (W : World) (g : Nat), W.heap[g]? = some (.cells (HC P n).toArray 28 (0, 0)) → W.rangeAt g 0 (P.map B) ∧ W.cell? ⟨g, 32, none⟩ = some (.int .i64 n) ∧ W.rangeAt g 0 (HC P n)) := Lib.hid fun W g h => ⟨range_hash h, cell_count hP h, range_block h⟩
  have HF : Hid (∀ W, Below w.heap.size w W → Calls Tryd.prog 9 #[.slice ap ps.length cp, .int .i64 12, .int .i64 400] W fun e w' => e = .returned (.bool (decide ((ps.length : Int) ≤ (12 : Nat)) && decide ((fewS (ps.take 200) : Int) ≤ (400 : Nat)))) ∧ W = w') := Lib.hid (by
    intro W hW; exact few_any W ps ap gp op cp 12 (by omega) 400 (hc.parts.below hW) hc.most hc.each)
  have hsm := few_small ps 12 (by omega) 400 (by omega)
  have HSM := Lib.hid hsm
  clear hsm
  have HPR0 : Hid ((m ≤ 1099511627776) → (decide ((ps.length : Int) ≤ (12 : Nat)) && decide ((fewS (ps.take 200) : Int) ≤ (400 : Nat))) = true → ∀ (W1 : World) (r : Part), r.In W1 → Below w.heap.size w W1 → ∀ W, Below W1.heap.size W1 W → Calls Tryd.prog 16 #[.agg (HC P n).toArray, .int .i64 place, .slice r.ad r.l.length r.cap, .agg (PC Q m (.slice ap ps.length cp)).toArray] W fun e w' => e = .returned (.bool (provesB P n place r.l Q m ps)) ∧ Below W.heap.size W w') := Lib.hid (by
    intro hm1 hf W1 r hr hb1 W hW
    obtain ⟨hl, hle⟩ := HSM.out hf
    have hbW := hb1.trans (hW.mono hb1.size)
    exact proves_any W P hP n place r (hr.below hW) Q hQ m (by omega) ps ap gp op cp (hc.parts.below hbW) (ht.below hbW h0) (fun p hp => Nat.le_trans (hle p hp) (by omega)) (by omega))
  have heq0 := fun (R : List UInt8) (hR : R.length = 32) => eqlHash 26 (Or.inl rfl) P R hP hR
  have hgu0 := fun (R : List UInt8) x y => guardHash .eql P R x y
  have HEQ0 := Lib.hid heq0
  have HGU0 := Lib.hid hgu0
  have hP32 : (P.map B).length = 32 := by simpa using hP
  have hQ32 : (Q.map B).length = 32 := by simpa using hQ
  have hQone := one_bytes Q
  clear heq0 hgu0 hc ht hP hQ
  obtain ⟨few, hfew⟩ : ∃ few, (decide ((ps.length : Int) ≤ (12 : Nat)) && decide ((fewS (ps.take 200) : Int) ≤ (400 : Nat))) = few := ⟨_, rfl⟩
  rw [hfew] at HF HPR0 HSM
  clear hfew
  have hlm := HCA.out.most
  unfold maxLen at hlm
  have hlen : decide ((0 : Int) < (ps.length : Int)) = true := by rw [hps]; simp
  have hlenN : decide (0 < ps.length) = true := by rw [hps]; simp
  have hpos : 0 < ps.length := by rw [hps]; simp
  obtain ⟨had, hc0, hp0⟩ : ap = some ⟨gp, op, none⟩ ∧ w.cell? ⟨gp, op, none⟩ = some (.slice p.ad p.l.length p.cap) ∧ p.In w := by
    subst hps
    refine ⟨HCA.out.parts.at' (by simp), ?_, HCA.out.parts.parts p (by simp)⟩
    have := HCA.out.parts.cell 0 (by simp)
    rw [Nat.add_zero] at this
    rw [this]; rfl
  subst had
  have HC0 := Lib.hid hc0
  have HP0 := Lib.hid hp0
  clear hc0 hp0
  have kc := fun (w : World) (C : Array Value) (n c : Nat) => Lib.run_convert_bytes_const (P := Tryd.prog) w 31 5 C n c Tryd.underlying31 Tryd.underlying5
  have kc2 := fun (A A2 : Obj) (C : Array Value) (n c : Nat) => kc ((w.alloc A).alloc A2) C n c
  have hsz : ∀ A A2 : Obj, ((w.alloc A).alloc A2).heap.size = w.heap.size + 1 + 1 := fun A A2 => by simp
  simp only [hsz] at kc2
  clear kc hsz
  unfold HV
  generalize hLL : HC P n = L at *
  generalize hKK : PC Q m (.slice (some ⟨gp, op, none⟩) ps.length cp) = K at *
  clear hLL hKK
  generalize hPX : P.map B = PX at *
  have HPX := Lib.hid hPX
  clear hPX
  go_enter Tryd.func6, Tryd.ntmps6
  have A3 : ∀ fr : Nat × Nat, (((w.alloc (.cells L.toArray 28)).alloc (.cells K.toArray 38)).alloc (.cells #[.int .u8 120] 5 fr)).heap[w.heap.size]? = some (.cells L.toArray 28 (0, 0)) := fun fr => by
    rw [Below.heap_alloc _ _ _ (by simp; omega), Below.heap_alloc _ _ _ (by simp)]; exact heap_alloc_new _ _
  have A5 : ∀ fr : Nat × Nat, (((w.alloc (.cells L.toArray 28)).alloc (.cells K.toArray 38)).alloc (.cells #[.int .u8 120] 5 fr)).heap[w.heap.size + 1]? = some (.cells K.toArray 38 (0, 0)) := fun fr => by
    rw [Below.heap_alloc _ _ _ (by simp)]; exact heap_alloc2_new _ _ _
  have A7 : (((w.alloc (.cells L.toArray 28)).alloc (.cells K.toArray 38)).alloc (.cells #[.int .u8 120] 5 (1, 2))).heap[w.heap.size + 1 + 1]? = some (.cells (([120] : List UInt8).map B).toArray 5 (1, 2)) := heap_alloc3_new _ _ _ _
  have hb1 : Below w.heap.size w (((w.alloc (.cells L.toArray 28)).alloc (.cells K.toArray 38)).alloc (.cells #[.int .u8 120] 5 (1, 2))) := (((Below.refl _ _).alloc (Nat.le_refl _) _).alloc (by simp) _).alloc (by simp; omega) _
  have e5 := HPA.out _ _ (A5 (1, 2))
  have e3 := HHA.out _ _ (A3 (1, 2))
  have c33 := e5.recs
  have c32 := e3.2.1
  have HB1 := Lib.hid hb1
  have G3 := Lib.hid (A3 (1, 2))
  have G5 := Lib.hid (A5 (1, 2))
  have G7 := Lib.hid A7
  clear A3 A5 A7 hb1 e5 e3
  have hc1 := (HB1.out.cell (p := ⟨gp, op, none⟩) (by exact block_lt_of_cell HC0.out)).trans HC0.out
  have hremP : ¬ n.tmod 3 = 0 := by simpa using hrem
  have hremB : (n.tmod 3 == 0) = false := by simpa using hrem
  have HPS := Lib.hid hps
  clear hps
  go_wp2_with fail
  generalize World.alloc _ _ = W1 at *
  clear c33 c32 kc2 hc1
  have HRI := Lib.hid (HP0.out.below HB1.out)
  clear G7
  refine (awake_any W1 (HT.out.below HB1.out h0)).mono ?_
  rintro e w1 ⟨rfl, hb2⟩
  have HBX := Lib.hid hb2
  have HB2 := Lib.hid (HB1.out.trans (hb2.mono HB1.out.size))
  have G3' := Lib.hid ((hb2.block _ (lt_block G3.out)).trans G3.out)
  have G5' := Lib.hid ((hb2.block _ (lt_block G5.out)).trans G5.out)
  clear hb2 G3 G5
  have e5 := HPA.out _ _ G5'.out
  have c33 := e5.recs
  have c32 := e5.count
  have hrq := e5.hash
  clear e5
  go_wp2_with fail
  refine (HF.out _ HB2.out).mono ?_
  rintro e w' ⟨rfl, rfl⟩
  cases few
  · clear hrq
    go_wp2_with fail
    refine (awake_any w1 (HT.out.below HB2.out h0)).mono ?_
    rintro e w2 ⟨rfl, hb2⟩
    have HBE := Lib.hid (HB2.out.trans (hb2.mono HB2.out.size))
    clear hb2
    go_wp2_with fail
    go_ret
    exact ⟨rfl, HBE.out⟩
  by_cases hm1 : m ≤ 1099511627776
  case neg =>
    have hd : decide (1099511627776 < m) = true := by simpa using hm1
    clear hrq
    go_wp2_with fail
    refine (awake_any w1 (HT.out.below HB2.out h0)).mono ?_
    rintro e w2 ⟨rfl, hb2⟩
    have HBE := Lib.hid (HB2.out.trans (hb2.mono HB2.out.size))
    clear hb2
    go_wp2_with fail
    go_ret
    exact ⟨rfl, HBE.out⟩
  have hd : decide (1099511627776 < m) = false := by simpa using hm1
  have hl12 := (HSM.out rfl).1
  have HLE := Lib.hid (HSM.out rfl).2
  have HPR := Lib.hid (HPR0.out hm1 rfl W1 p HRI.out HB1.out)
  clear HPR0 HSM HF
  have hz := zeroHashV'
  have hZ32 : (z32.map B).length = 32 := rfl
  have hst0 : ∀ (W : World) (G8 : Nat), W.heap[G8]? = some (.cells (Q.map B).toArray 26 (0, 0)) → Below w1.heap.size w1 W → w1.heap.size ≤ G8 → TellsRel w1 G8 Q ps 0 W := fun W G8 h1 h2 h3 => ⟨h1, h2, h3⟩
  have HST := Lib.hid hst0
  clear hst0
  generalize z32.map B = Z at *
  generalize hQX : Q.map B = QX at *
  have HQX := Lib.hid hQX
  clear hQX
  have hthere := there_block (heap_alloc_new w1 (.cells Z.toArray 26)) 0 32 (by omega)
  have hend := heap_setCells _ _ QX 0 _ _ (heap_alloc_new w1 (.cells Z.toArray 26)) (by omega)
  rw [over_all _ _ (by omega)] at hend
  have hbe : Below w1.heap.size w1 ((w1.alloc (.cells Z.toArray 26)).setCells w1.heap.size 0 QX) :=
    (Kept1.setCells (b := w1.heap.size) w1.heap.size (Or.inl rfl) QX 0 ((Kept1.refl _ _).alloc _)).below (Nat.le_refl _)
  have HR0 := Lib.hid (HST.out _ _ hend hbe (Nat.le_refl _))
  clear hend hbe HST
  go_wp2_with (first | (refine wpList_load_mid rfl 26 (.tmp 43) rfl (w.heap.size + 1) 0 rfl QX _ hrq Tryd.underlying26 rfl (infoHash _ hQ32) ?_) | (refine wpList_store_mid rfl 26 (.tmp 8) (.tmp 44) rfl w1.heap.size 0 QX.toArray rfl rfl (by simpa [hQ32] using hthere) (infoHash _ (by simpa using hQ32)) (all_oneCell_toArray hQone) ?_))
  have R0 := HR0.out
  generalize World.setCells _ _ _ _ = W4 at *
  clear hthere HR0 c32 c33 hrq hd
  obtain ⟨G8, hG8⟩ : ∃ G8, G8 = w1.heap.size := ⟨_, rfl⟩
  rw [← hG8] at R0 ⊢
  clear hG8
  go_loopw [9] (fun i wr => ∃ k : Nat, k ≤ ps.length ∧ i = .int .i64 k ∧ TellsRel w1 G8 Q ps k wr) (fun i _ => ps.length - (intOf i).toNat)
  case atStart => exact ⟨0, by omega, rfl, R0⟩
  case round =>
    clear R0
    obtain ⟨k, hk, rfl, hr⟩ := hrel
    have c33 := (HPA.out _ _ ((hr.below.block _ (lt_block G5'.out)).trans G5'.out)).recs
    by_cases hlt : k < ps.length
    · have hd : decide ((k : Int) < (ps.length : Int)) = true := by simp; omega
      have HIN : Hid (∀ W : World, Below wr.heap.size wr W → W.cell? ⟨gp, op + k, none⟩ = some (.slice ps[k].ad ps[k].l.length ps[k].cap) ∧ W.rangeAt G8 0 ((folded Q (ps.take k)).map B) ∧ W.cell? ⟨w.heap.size + 1, 33, none⟩ = some (.slice (some ⟨gp, op, none⟩) ps.length cp) ∧
          Calls Tryd.prog 17 #[.agg ((folded Q (ps.take k)).map B).toArray, .slice ps[k].ad ps[k].l.length ps[k].cap] W fun e w' => e = .returned (.agg ((folded Q (ps.take (k + 1))).map B).toArray) ∧ Below W.heap.size W w') := Lib.hid fun W hW => by
        have hb1W := hr.below.trans (hW.mono hr.below.size)
        have hbW := HB2.out.trans (hb1W.mono HB2.out.size)
        refine ⟨by rw [hbW.cell (by exact HCA.out.parts.lt), HCA.out.parts.cell k hlt]; rfl, range_block ((hW.block _ (lt_block hr.g)).trans hr.g), (HPA.out _ _ ((hb1W.block _ (lt_block G5'.out)).trans G5'.out)).recs, ?_⟩
        rw [folded_snoc Q ps k hlt]
        exact refLink_any W _ (length_folded Q HQ.out _) ps[k] ((HCA.out.parts.parts ps[k] (List.getElem_mem hlt)).below hbW) (HCA.out.nil _ (List.getElem_mem hlt)) (by have := hbW.size; omega) (Nat.le_trans (HLE.out _ (List.getElem_mem hlt)) (by omega))
      have hl32 : ((folded Q (ps.take k)).map B).length = 32 := by simpa using length_folded Q HQ.out (ps.take k)
      have hn32 : ((folded Q (ps.take (k + 1))).map B).length = 32 := by simpa using length_folded Q HQ.out (ps.take (k + 1))
      have hnone := one_bytes (folded Q (ps.take (k + 1)))
      have HR := Lib.hid hr
      clear hr
      generalize ps[k] = q at *
      generalize hD : (folded Q (ps.take (k + 1))).map B = D at *
      have HD := Lib.hid hD
      clear hD
      generalize hL1 : (folded Q (ps.take k)).map B = L1 at *
      have HL1 := Lib.hid hL1
      clear hL1
      go_wp2_with fail
      clear c33
      refine wp_region_quiet_tailB 7 (by kernel_rfl) (by kernel_rfl) ?_
      simp only [List.take_succ_cons, List.take_zero, List.drop_succ_cons, List.drop_zero]
      refine wpQuiet_load_mid rfl 26 (.tmp 8) rfl G8 0 rfl L1 _ (fun w' ⟨m, hw'⟩ => hw' ▸ (HIN.out _ m.below).2.1) Tryd.underlying26 rfl (infoHash _ hl32) ?_
      simp only [Act.put, List.setIfInBounds_toArray, List.set_cons_succ, List.set_cons_zero]
      go_big_quiet_step (fail)
      refine wpQuiet_of_op rfl (.slice (some ⟨gp, op, none⟩) ps.length cp) (fun w' ⟨m, hw'⟩ => by subst hw'; have c := (HIN.out _ m.below).2.2.1; go_simp) ?_
      simp only [Act.put, List.setIfInBounds_toArray, List.set_cons_succ, List.set_cons_zero]
      iterate 2 (go_big_quiet_step (fail))
      refine wpQuiet_of_op rfl (.slice q.ad q.l.length q.cap) (fun w' ⟨m, hw'⟩ => by subst hw'; have c := (HIN.out _ m.below).1; go_simp) ?_
      simp only [Act.put, List.setIfInBounds_toArray, List.set_cons_succ, List.set_cons_zero]
      go_big_quiet_step ((go_at_call 17; with_reducible exact Calls.quiet_b (HIN.out _ (Bl.below _)).2.2.2))
      refine wpQuiet_nil ?_
      intro m0
      have hb2 := m0.below
      generalize m0.wr = w5 at *
      clear m0
      have hat := (hb2.block _ (lt_block HR.out.g)).trans HR.out.g
      rw [HL1.out] at hat
      have hbel := HR.out.below.trans (hb2.mono HR.out.below.size)
      have hthere := there_block hat 0 32 (by omega)
      have hend := heap_setCells _ _ D 0 _ _ hat (by omega)
      rw [over_all _ _ (by omega)] at hend
      have hk1 : Kept1 G8 w5 (w5.setCells G8 0 D) := Kept1.setCells _ (Or.inl rfl) _ _ (Kept1.refl _ _)
      have R2 : TellsRel w1 G8 Q ps (k + 1) (w5.setCells G8 0 D) := ⟨by rw [HD.out]; exact hend, Kept1.mono hbel hk1 HR.out.b8, HR.out.b8⟩
      have HR2 := Lib.hid R2
      clear hat hbel hend hk1 R2 hb2 HR HIN
      go_wp2_with (refine wpList_store_mid rfl 26 (.tmp 8) (.tmp 58) rfl G8 0 D.toArray rfl rfl (by simpa [hn32] using hthere) (infoHash _ (by simpa using hn32)) (all_oneCell_toArray hnone) ?_)
      go_roundw
      case rel => exact ⟨k + 1, by omega, by go_num, HR2.out⟩
      case measure => simp [intOf]; omega
    · have hd : decide ((k : Int) < (ps.length : Int)) = false := by simp; omega
      obtain rfl : k = ps.length := by omega
      have h8 := hr.g
      rw [List.take_length] at h8
      have HBR := Lib.hid (HBX.out.trans (hr.below.mono HBX.out.size))
      have HBW := HB1
      have hf32 : ((folded Q ps).map B).length = 32 := by simpa using length_folded Q HQ.out ps
      have H8 : Hid (∀ W : World, Below wr.heap.size wr W → W.rangeAt G8 0 ((folded Q ps).map B)) := Lib.hid fun W hW => range_block ((hW.block _ (lt_block h8)).trans h8)
      have H5 : Hid (∀ W : World, Below wr.heap.size wr W → ProofAt W (w.heap.size + 1) Q m (.slice (some ⟨gp, op, none⟩) ps.length cp)) := Lib.hid fun W hW => HPA.out _ _ (((hr.below.trans (hW.mono hr.below.size)).block _ (lt_block G5'.out)).trans G5'.out)
      have H5K : Hid (∀ W : World, Below wr.heap.size wr W → W.rangeAt (w.heap.size + 1) 0 K) := Lib.hid fun W hW => range_block (((hr.below.trans (hW.mono hr.below.size)).block _ (lt_block G5'.out)).trans G5'.out)
      have H3 : Hid (∀ W : World, Below wr.heap.size wr W → W.rangeAt w.heap.size 0 PX ∧ W.cell? ⟨w.heap.size, 32, none⟩ = some (.int .i64 n) ∧ W.rangeAt w.heap.size 0 L) := Lib.hid fun W hW => HHA.out _ _ (((hr.below.trans (hW.mono hr.below.size)).block _ (lt_block G3'.out)).trans G3'.out)
      have HI : Hid (∀ W : World, Below wr.heap.size wr W → W.cell? ⟨gp, op, none⟩ = some (.slice p.ad p.l.length p.cap) ∧ (convert 31 9 (.slice p.ad p.l.length p.cap)).run Tryd.prog W = .ok (.string (tx p.l)) W ∧ (convert 31 9 (.slice p.ad p.l.length p.cap)).run Tryd.prog W = .ok (.string (tx p.l)) W) := Lib.hid fun W hW => by
        have hb1W := HBR.out.trans (hW.mono HBR.out.size)
        have hbW := HB1.out.trans (hb1W.mono HB1.out.size)
        exact ⟨(hbW.cell (by exact block_lt_of_cell HC0.out)).trans HC0.out, conv_part (HP0.out.below hbW), conv_part (HRI.out.below hb1W)⟩
      have HEQ := Lib.hid (HEQ0.out (folded Q ps) (length_folded Q HQ.out _))
      have HGU := Lib.hid (HGU0.out (folded Q ps))
      clear hr h8 HEQ0 HGU0 HHA
      have hl0 : decide ((0 : Int) < (ps.length : Int)) = true := by rw [HPS.out]; simp
      obtain ⟨b1, hb1⟩ : ∃ b, (m == place) = b := ⟨_, rfl⟩
      obtain ⟨b3, hb3⟩ : ∃ b, (p.l == p.l) = b := ⟨_, rfl⟩
      obtain ⟨b4, hb4⟩ : ∃ b, (P == folded Q ps) = b := ⟨_, rfl⟩
      have hpb : provesB P n place p.l Q m ps = (b1 && b3 && (b4 && n == m + (ps.length : Int))) := by
        rw [← hb4, show (P == folded Q ps) = (folded Q ps == P) by rw [Bool.eq_iff_iff, beq_iff_eq, beq_iff_eq]; exact ⟨Eq.symm, Eq.symm⟩, show (n == m + (ps.length : Int)) = (m + (ps.length : Int) == n) by rw [Bool.eq_iff_iff, beq_iff_eq, beq_iff_eq]; exact ⟨Eq.symm, Eq.symm⟩, ← hb1, ← hb3, HPS.out]
        rfl
      have HPB := Lib.hid hpb
      clear hpb
      rw [hb4] at HEQ
      have hst : ((tx p.l).toList == (tx p.l).toList) = b3 := by simp only [toList_tx]; exact hb3
      have HS3 := Lib.hid hb3
      clear hb3 hb4
      generalize provesB P n place p.l Q m ps = pb at *
      generalize (folded Q ps).map B = FX at *
      generalize tx p.l = S at *
      go_wp2_with fail
      clear c33
      cases b1
      · have HFIN := Lib.hid (show pb = false by rw [HPB.out]; simp)
        clear HPB
        refine wp_region_quietB (by kernel_rfl) (by kernel_rfl) ?_
        iterate 2 (go_big_quiet_step (fail))
        refine wpQuiet_of_op rfl (.int .i64 m) (fun w' ⟨m, hw'⟩ => by subst hw'; have c := (H5.out _ m.below).count; go_simp) ?_
        simp only [Act.put, List.setIfInBounds_toArray, List.set_cons_succ, List.set_cons_zero]
        iterate 3 (go_big_quiet_step (fail))
        iterate 34 (go_big_quiet_step (fail))
        refine wpQuiet_nil ?_
        intro m0
        have HBM := Lib.hid (HBR.out.trans (m0.below.mono HBR.out.size))
        have HB3 := Lib.hid (H3.out _ m0.below)
        have HB5 := Lib.hid (H5K.out _ m0.below)
        generalize m0.wr = W9 at *
        clear m0 H3 H5 H5K H8 HI
        have hr3 := HB3.out.2.2
        have hr5 := HB5.out
        clear HB3 HB5
        go_wp2_with (first | (refine wpList_load_mid rfl 28 (.tmp 3) rfl w.heap.size 0 rfl L _ hr3 Tryd.underlying28 rfl (infoHead _ hL33) ?_) | (refine wpList_load_mid rfl 38 (.tmp 5) rfl (w.heap.size + 1) 0 rfl K _ hr5 Tryd.underlying38 rfl (infoProof _ hK34) ?_))
        refine (HPR.out _ HBM.out).mono ?_
        rintro e w9 ⟨rfl, hb9⟩
        have HB9 := Lib.hid (HBW.out.trans ((HBM.out.trans (hb9.mono HBM.out.size)).mono HBW.out.size))
        clear hb9 hr3 hr5
        go_wp2_with fail
        go_ret
        exact ⟨by rw [HFIN.out]; simp, HB9.out⟩
      cases b3
      · exact absurd HS3.out (by simp)
      cases b4
      · have HFIN := Lib.hid (show pb = false by rw [HPB.out]; simp)
        clear HPB
        refine wp_region_quietB (by kernel_rfl) (by kernel_rfl) ?_
        iterate 2 (go_big_quiet_step (fail))
        refine wpQuiet_of_op rfl (.int .i64 m) (fun w' ⟨m, hw'⟩ => by subst hw'; have c := (H5.out _ m.below).count; go_simp) ?_
        simp only [Act.put, List.setIfInBounds_toArray, List.set_cons_succ, List.set_cons_zero]
        iterate 3 (go_big_quiet_step (fail))
        iterate 1 (go_big_quiet_step (fail))
        refine wpQuiet_of_opG (by rfl) (.slice (some ⟨gp, op, none⟩) ps.length cp) (fun w' ⟨m, hw'⟩ => by subst hw'; have c := (H5.out _ m.below).recs; go_simp) ?_
        simp only [Act.put, List.setIfInBounds_toArray, List.set_cons_succ, List.set_cons_zero]
        iterate 4 (go_big_quiet_step (fail))
        iterate 1 (go_big_quiet_step (fail))
        refine wpQuiet_of_opG (by rfl) (.slice (some ⟨gp, op, none⟩) ps.length cp) (fun w' ⟨m, hw'⟩ => by subst hw'; have c := (H5.out _ m.below).recs; go_simp) ?_
        simp only [Act.put, List.setIfInBounds_toArray, List.set_cons_succ, List.set_cons_zero]
        iterate 1 (go_big_quiet_step (fail))
        refine wpQuiet_of_opG (by rfl) (.slice p.ad p.l.length p.cap) (fun w' ⟨m, hw'⟩ => by subst hw'; have c := (HI.out _ m.below).1; go_simp) ?_
        simp only [Act.put, List.setIfInBounds_toArray, List.set_cons_succ, List.set_cons_zero]
        refine wpQuiet_of_opG (by rfl) (.string S) (fun w' ⟨m, hw'⟩ => by subst hw'; have c := (HI.out _ m.below).2.1; go_simp) ?_
        simp only [Act.put, List.setIfInBounds_toArray, List.set_cons_succ, List.set_cons_zero]
        iterate 1 (go_big_quiet_step (fail))
        refine wpQuiet_of_opG (by rfl) (.string S) (fun w' ⟨m, hw'⟩ => by subst hw'; have c := (HI.out _ m.below).2.2; go_simp) ?_
        simp only [Act.put, List.setIfInBounds_toArray, List.set_cons_succ, List.set_cons_zero]
        refine wpQuiet_of_opG (by rfl) (.bool true) (fun w' _ => by go_simp) ?_
        simp only [Act.put, List.setIfInBounds_toArray, List.set_cons_succ, List.set_cons_zero]
        iterate 2 (go_big_quiet_step (fail))
        iterate 1 (go_big_quiet_step (fail))
        refine wpQuiet_load_midG (by rfl) 26 (.tmp 81) rfl (w.heap.size) 0 rfl PX _ (fun w' ⟨m, hw'⟩ => hw' ▸ (H3.out _ m.below).1) Tryd.underlying26 rfl (infoHash _ hP32) ?_
        simp only [Act.put, List.setIfInBounds_toArray, List.set_cons_succ, List.set_cons_zero]
        refine wpQuiet_load_midG (by rfl) 26 (.tmp 8) rfl (G8) 0 rfl FX _ (fun w' ⟨m, hw'⟩ => hw' ▸ H8.out _ m.below) Tryd.underlying26 rfl (infoHash _ hf32) ?_
        simp only [Act.put, List.setIfInBounds_toArray, List.set_cons_succ, List.set_cons_zero]
        refine wpQuiet_of_opG (by rfl) (.bool false) (fun w' _ => by have k := HEQ.out; have l := HGU.out; go_simp) ?_
        simp only [Act.put, List.setIfInBounds_toArray, List.set_cons_succ, List.set_cons_zero]
        iterate 2 (go_big_quiet_step (fail))
        iterate 12 (go_big_quiet_step (fail))
        refine wpQuiet_nil ?_
        intro m0
        have HBM := Lib.hid (HBR.out.trans (m0.below.mono HBR.out.size))
        have HB3 := Lib.hid (H3.out _ m0.below)
        have HB5 := Lib.hid (H5K.out _ m0.below)
        generalize m0.wr = W9 at *
        clear m0 H3 H5 H5K H8 HI
        have hr3 := HB3.out.2.2
        have hr5 := HB5.out
        clear HB3 HB5
        go_wp2_with (first | (refine wpList_load_mid rfl 28 (.tmp 3) rfl w.heap.size 0 rfl L _ hr3 Tryd.underlying28 rfl (infoHead _ hL33) ?_) | (refine wpList_load_mid rfl 38 (.tmp 5) rfl (w.heap.size + 1) 0 rfl K _ hr5 Tryd.underlying38 rfl (infoProof _ hK34) ?_))
        refine (HPR.out _ HBM.out).mono ?_
        rintro e w9 ⟨rfl, hb9⟩
        have HB9 := Lib.hid (HBW.out.trans ((HBM.out.trans (hb9.mono HBM.out.size)).mono HBW.out.size))
        clear hb9 hr3 hr5
        go_wp2_with fail
        go_ret
        exact ⟨by rw [HFIN.out]; simp, HB9.out⟩
      · have HFIN := Lib.hid (show pb = (n == m + (ps.length : Int)) by rw [HPB.out]; simp)
        clear HPB
        refine wp_region_quietB (by kernel_rfl) (by kernel_rfl) ?_
        iterate 2 (go_big_quiet_step (fail))
        refine wpQuiet_of_op rfl (.int .i64 m) (fun w' ⟨m, hw'⟩ => by subst hw'; have c := (H5.out _ m.below).count; go_simp) ?_
        simp only [Act.put, List.setIfInBounds_toArray, List.set_cons_succ, List.set_cons_zero]
        iterate 3 (go_big_quiet_step (fail))
        iterate 1 (go_big_quiet_step (fail))
        refine wpQuiet_of_opG (by rfl) (.slice (some ⟨gp, op, none⟩) ps.length cp) (fun w' ⟨m, hw'⟩ => by subst hw'; have c := (H5.out _ m.below).recs; go_simp) ?_
        simp only [Act.put, List.setIfInBounds_toArray, List.set_cons_succ, List.set_cons_zero]
        iterate 4 (go_big_quiet_step (fail))
        iterate 1 (go_big_quiet_step (fail))
        refine wpQuiet_of_opG (by rfl) (.slice (some ⟨gp, op, none⟩) ps.length cp) (fun w' ⟨m, hw'⟩ => by subst hw'; have c := (H5.out _ m.below).recs; go_simp) ?_
        simp only [Act.put, List.setIfInBounds_toArray, List.set_cons_succ, List.set_cons_zero]
        iterate 1 (go_big_quiet_step (fail))
        refine wpQuiet_of_opG (by rfl) (.slice p.ad p.l.length p.cap) (fun w' ⟨m, hw'⟩ => by subst hw'; have c := (HI.out _ m.below).1; go_simp) ?_
        simp only [Act.put, List.setIfInBounds_toArray, List.set_cons_succ, List.set_cons_zero]
        refine wpQuiet_of_opG (by rfl) (.string S) (fun w' ⟨m, hw'⟩ => by subst hw'; have c := (HI.out _ m.below).2.1; go_simp) ?_
        simp only [Act.put, List.setIfInBounds_toArray, List.set_cons_succ, List.set_cons_zero]
        iterate 1 (go_big_quiet_step (fail))
        refine wpQuiet_of_opG (by rfl) (.string S) (fun w' ⟨m, hw'⟩ => by subst hw'; have c := (HI.out _ m.below).2.2; go_simp) ?_
        simp only [Act.put, List.setIfInBounds_toArray, List.set_cons_succ, List.set_cons_zero]
        refine wpQuiet_of_opG (by rfl) (.bool true) (fun w' _ => by go_simp) ?_
        simp only [Act.put, List.setIfInBounds_toArray, List.set_cons_succ, List.set_cons_zero]
        iterate 2 (go_big_quiet_step (fail))
        iterate 1 (go_big_quiet_step (fail))
        refine wpQuiet_load_midG (by rfl) 26 (.tmp 81) rfl (w.heap.size) 0 rfl PX _ (fun w' ⟨m, hw'⟩ => hw' ▸ (H3.out _ m.below).1) Tryd.underlying26 rfl (infoHash _ hP32) ?_
        simp only [Act.put, List.setIfInBounds_toArray, List.set_cons_succ, List.set_cons_zero]
        refine wpQuiet_load_midG (by rfl) 26 (.tmp 8) rfl (G8) 0 rfl FX _ (fun w' ⟨m, hw'⟩ => hw' ▸ H8.out _ m.below) Tryd.underlying26 rfl (infoHash _ hf32) ?_
        simp only [Act.put, List.setIfInBounds_toArray, List.set_cons_succ, List.set_cons_zero]
        refine wpQuiet_of_opG (by rfl) (.bool true) (fun w' _ => by have k := HEQ.out; have l := HGU.out; go_simp) ?_
        simp only [Act.put, List.setIfInBounds_toArray, List.set_cons_succ, List.set_cons_zero]
        iterate 2 (go_big_quiet_step (fail))
        iterate 1 (go_big_quiet_step (fail))
        refine wpQuiet_of_opG (by rfl) (.int .i64 n) (fun w' ⟨m, hw'⟩ => by subst hw'; have c := (H3.out _ m.below).2.1; go_simp) ?_
        simp only [Act.put, List.setIfInBounds_toArray, List.set_cons_succ, List.set_cons_zero]
        iterate 2 (go_big_quiet_step (fail))
        refine wpQuiet_of_opG (by rfl) (.int .i64 m) (fun w' ⟨m, hw'⟩ => by subst hw'; have c := (H5.out _ m.below).count; go_simp) ?_
        simp only [Act.put, List.setIfInBounds_toArray, List.set_cons_succ, List.set_cons_zero]
        iterate 1 (go_big_quiet_step (fail))
        refine wpQuiet_of_opG (by rfl) (.slice (some ⟨gp, op, none⟩) ps.length cp) (fun w' ⟨m, hw'⟩ => by subst hw'; have c := (H5.out _ m.below).recs; go_simp) ?_
        simp only [Act.put, List.setIfInBounds_toArray, List.set_cons_succ, List.set_cons_zero]
        iterate 5 (go_big_quiet_step (fail))
        refine wpQuiet_nil ?_
        intro m0
        have HBM := Lib.hid (HBR.out.trans (m0.below.mono HBR.out.size))
        have HB3 := Lib.hid (H3.out _ m0.below)
        have HB5 := Lib.hid (H5K.out _ m0.below)
        generalize m0.wr = W9 at *
        clear m0 H3 H5 H5K H8 HI
        have hr3 := HB3.out.2.2
        have hr5 := HB5.out
        clear HB3 HB5
        go_wp2_with (first | (refine wpList_load_mid rfl 28 (.tmp 3) rfl w.heap.size 0 rfl L _ hr3 Tryd.underlying28 rfl (infoHead _ hL33) ?_) | (refine wpList_load_mid rfl 38 (.tmp 5) rfl (w.heap.size + 1) 0 rfl K _ hr5 Tryd.underlying38 rfl (infoProof _ hK34) ?_))
        refine (HPR.out _ HBM.out).mono ?_
        rintro e w9 ⟨rfl, hb9⟩
        have HB9 := Lib.hid (HBW.out.trans ((HBM.out.trans (hb9.mono HBM.out.size)).mono HBW.out.size))
        clear hb9 hr3 hr5
        go_wp2_with fail
        go_ret
        exact ⟨by rw [HFIN.out]; simp, HB9.out⟩

theorem chainTells_walk (w : World) (ht : Tab w) (P : List UInt8) (hP : P.length = 32) (n : Int) (_ : (Lit.int .i64 n).wf = true) (place : Int) (_ : (Lit.int .i64 place).wf = true) (Q : List UInt8) (hQ : Q.length = 32) (m : Int) (hm : (Lit.int .i64 m).wf = true)
    (a : Option Addr) (cap : Nat) (ps : List Part) (g o : Nat) (hc : Came w a g o ps) :
    Calls Tryd.prog 6 #[HV P n, .int .i64 place, .agg (HC Q m ++ [Value.slice a ps.length cap]).toArray] w fun e w' => e = .returned (.bool true) ∧ Below w.heap.size w w' := by
  have bm := bounds_i64 hm
  cases hps : ps with
  | nil => exact tells_a w ht P hP n place Q hQ m bm [] a g o cap (hps ▸ hc) rfl
  | cons p qs =>
    cases hrem : (n.tmod 3 != 0) with
    | false => exact tells_b w ht P hP n place Q hQ m bm (p :: qs) a g o cap (hps ▸ hc) p qs rfl hrem
    | true => exact tells_c w ht P hP n place Q hQ m bm (p :: qs) a g o cap (hps ▸ hc) p qs rfl hrem
end Go.Proofs.YtmegncaadglhmaaDoor
