/- The head behind a list. -/
import Derived.Test.YtmegncaadglhmaaDoorKNext
namespace Go.Proofs.YtmegncaadglhmaaDoor
open Go.RowKit

/-- what the loop over records keeps -/
structure BehRel (w : World) (P : List UInt8) (n : Int) (ps : List Part) (k : Nat) (wr : World) : Prop where
  at' : wr.heap[w.heap.size]? = some (.cells (HC (folded P (ps.take k)) (n + k)).toArray 28 (0, 0))
  res : wr.heap[w.heap.size + 1]? = some (.cells (HC z32 0).toArray 28 (0, 0))
  below : Below w.heap.size w wr
theorem zeroHeadV : ∀ w, (zeroValue 28).run Tryd.prog w = .ok (.agg (HC z32 0).toArray) w := fun _ => by kernel_rfl

set_option maxRecDepth 100000 in
set_option maxHeartbeats 1000000 in
theorem behind_any (w : World) (P : List UInt8) (hP : P.length = 32) (n : Int) (hn : -9223372036854775808 ≤ n ∧ n ≤ 4611686018427380000) (ps : List Part) (ap : Option Addr) (gp op cp : Nat) (hp : PartsIn w ap gp op ps) (ht : Tab w)
    (hl : ∀ p ∈ ps, p.l.length ≤ 1000) (hm : ps.length ≤ 1000) :
    Calls Tryd.prog 20 #[HV P n, .slice ap ps.length cp] w fun e w' => e = .returned (HV (folded P ps) (n + ps.length)) ∧ Below w.heap.size w w' := by
  have h0 := ht.size
  have HP := Lib.hid hp
  have HT := Lib.hid ht
  have HL := Lib.hid hl
  have HPL := Lib.hid hP
  have hL33 := length_HC P hP n
  have hone := one_HC P n
  have hz := zeroHeadV
  have hZ33 : (HC z32 0).length = 33 := rfl
  have hst : ∀ W : World, W.heap[w.heap.size]? = some (.cells (HC P n).toArray 28 (0, 0)) → W.heap[w.heap.size + 1]? = some (.cells (HC z32 0).toArray 28 (0, 0)) → Below w.heap.size w W → BehRel w P n ps 0 W := fun W h1 h2 h3 =>
    ⟨by rw [List.take_zero, show folded P [] = P from rfl, show n + ((0 : Nat) : Int) = n by omega]; exact h1, h2, h3⟩
  unfold HV
  clear hp ht hl
  have HST := Lib.hid hst
  clear hst
  generalize hLL : HC P n = L at *
  generalize hZZ : HC z32 0 = Z at *
  have HZZ := Lib.hid hZZ
  clear hLL
  go_enter Tryd.func20, Tryd.ntmps20
  go_wp2_with fail
  generalize hW : World.alloc _ _ = W0 at *
  have R0 : BehRel w P n ps 0 W0 := by
    refine HST.out W0 ?_ ?_ ?_
    · rw [← hW, Below.heap_alloc _ _ _ (by simp)]; exact heap_alloc_new _ _
    · rw [← hW]; exact heap_alloc2_new _ _ _
    · rw [← hW]; exact ((Below.refl _ _).alloc (Nat.le_refl _) _).alloc (by simp) _
  clear hW HST
  go_loopw [6, 9] (fun _ i wr => ∃ k : Nat, k ≤ ps.length ∧ i = .int .i64 k ∧ BehRel w P n ps k wr) (fun _ i _ => ps.length - (intOf i).toNat)
  case atStart => exact ⟨0, by omega, rfl, R0⟩
  case round =>
    clear R0
    obtain ⟨k, hk, rfl, hr⟩ := hrel
    have hf32 := length_folded P HPL.out (ps.take k)
    by_cases hlt : k < ps.length
    · have hd : decide ((k : Int) < (ps.length : Int)) = true := by simp; omega
      obtain rfl := HP.out.at' (by intro e; rw [e] at hlt; cases hlt)
      have hin : ps[k].In wr := (HP.out.parts ps[k] (List.getElem_mem hlt)).below hr.below
      have hcell : wr.cell? ⟨gp, op + k, none⟩ = some (.slice ps[k].ad ps[k].l.length ps[k].cap) := by
        rw [hr.below.cell (by exact HP.out.lt), HP.out.cell k hlt]; rfl
      have hlk := HL.out ps[k] (List.getElem_mem hlt)
      have HN : Hid (Calls Tryd.prog 11 #[.agg (HC (folded P (ps.take k)) (n + k)).toArray, .slice ps[k].ad ps[k].l.length ps[k].cap] wr fun e w' => e = .returned (.agg (HC (folded P (ps.take (k + 1))) (n + k + 1)).toArray) ∧ Below wr.heap.size wr w') := Lib.hid (by
        rw [folded_snoc P ps k hlt]
        exact next_any wr _ hf32 (n + k) (by omega) ps[k] hin (HT.out.below hr.below h0) hlk)
      have hn33 := length_HC (folded P (ps.take (k + 1))) (length_folded P HPL.out _) (n + k + 1)
      have hnone := one_HC (folded P (ps.take (k + 1))) (n + k + 1)
      have hE : HC (folded P (ps.take (k + 1))) (n + ((k + 1 : Nat) : Int)) = HC (folded P (ps.take (k + 1))) (n + k + 1) := by congr 1; omega
      have HE := Lib.hid hE
      have hl33 := length_HC (folded P (ps.take k)) hf32 (n + k)
      have hrange := range_block hr.at'
      generalize ps[k] = q at *
      have HR := Lib.hid hr
      clear hr hin hE
      generalize hD : HC (folded P (ps.take (k + 1))) (n + k + 1) = D at *
      have HD := Lib.hid hD
      clear hD
      generalize hL1 : HC (folded P (ps.take k)) (n + k) = L1 at *
      have HL1 := Lib.hid hL1
      clear hL1
      go_wp2_with (refine wpList_load_mid rfl 28 (.tmp 2) rfl w.heap.size 0 rfl L1 _ hrange Tryd.underlying28 rfl (infoHead _ hl33) ?_)
      refine HN.out.mono ?_
      rintro e w2 ⟨rfl, hb2⟩
      have hat := (hb2.block _ (lt_block HR.out.at')).trans HR.out.at'
      rw [HL1.out] at hat
      have hres := (hb2.block _ (lt_block HR.out.res)).trans HR.out.res
      have hbel := HR.out.below.trans (hb2.mono HR.out.below.size)
      have hthere := there_block hat 0 33 (by omega)
      have hend := heap_setCells _ _ D 0 _ _ hat (by omega)
      rw [over_all _ _ (by omega)] at hend
      have hk1 : Kept1 w.heap.size w2 (w2.setCells w.heap.size 0 D) := Kept1.setCells _ (Or.inl rfl) _ _ (Kept1.refl _ _)
      have R2 : BehRel w P n ps (k + 1) (w2.setCells w.heap.size 0 D) := ⟨by rw [HE.out]; exact hend, hk1.heap hres (by omega), Kept1.mono hbel hk1 (Nat.le_refl _)⟩
      have HR2 := Lib.hid R2
      clear hat hres hbel hend hk1 R2 hb2 HR HN hrange
      go_wp2_with (refine wpList_store_mid rfl 28 (.tmp 2) (.tmp 15) rfl w.heap.size 0 D.toArray rfl rfl (by simpa [hn33] using hthere) (infoHead _ (by simpa using hn33)) (all_oneCell_toArray hnone) ?_)
      go_roundw
      case rel => exact ⟨k + 1, by omega, by go_num, HR2.out⟩
      case measure => simp [intOf]; omega
    · have hd : decide ((k : Int) < (ps.length : Int)) = false := by simp; omega
      obtain rfl : k = ps.length := by omega
      have hl33 := length_HC (folded P (ps.take ps.length)) hf32 (n + (ps.length : Int))
      have hnone := one_HC (folded P (ps.take ps.length)) (n + (ps.length : Int))
      have hrange := range_block hr.at'
      have hres := hr.res
      rw [HZZ.out] at hres
      have hthere := there_block hres 0 33 (by omega)
      have hend := heap_setCells _ _ (HC (folded P (ps.take ps.length)) (n + (ps.length : Int))) 0 _ _ hres (by omega)
      rw [over_all _ _ (by omega)] at hend
      have hkl := (Kept1.setCells (b := w.heap.size + 1) (w.heap.size + 1) (Or.inl rfl) (HC (folded P (ps.take ps.length)) (n + (ps.length : Int))) 0 (Kept1.of_below hr.below)).below (by omega)
      rw [List.take_length] at *
      generalize hD : HC (folded P ps) (n + (ps.length : Int)) = D at *
      have Hend := Lib.hid hend
      have Hkl := Lib.hid hkl
      have HD := Lib.hid hD
      clear hend hkl hr hres hD
      go_wp2_with (first | (refine wpList_load_mid rfl 28 (.tmp 2) rfl w.heap.size 0 rfl D _ hrange Tryd.underlying28 rfl (infoHead _ hl33) ?_) | (refine wpList_store_mid rfl 28 (.tmp 4) (.tmp 17) rfl (w.heap.size + 1) 0 D.toArray rfl rfl (by simpa [hl33] using hthere) (infoHead _ (by simpa using hl33)) (all_oneCell_toArray hnone) ?_))
      exact bodyPost_ret (v := .agg D.toArray) (results_cell_row Tryd.results20 _ _ (w.heap.size + 1) 28 D.toArray (0, 0) _ rfl Hend.out Tryd.underlying28 rfl (infoHead _ (by simpa using hl33))) rfl ⟨by rw [HD.out], Hkl.out⟩

set_option maxRecDepth 100000 in
set_option maxHeartbeats 1000000 in
theorem all_any (w : World) (ps : List Part) (ap : Option Addr) (gp op cp : Nat) (hp : PartsIn w ap gp op ps) (ht : Tab w) (hl : ∀ p ∈ ps, p.l.length ≤ 1000) (hm : ps.length ≤ 1000) :
    Calls Tryd.prog 10 #[.slice ap ps.length cp] w fun e w' => e = .returned (HV (folded z32 ps) ps.length) ∧ Below w.heap.size w w' := by
  have h0 := ht.size
  have hz := zeroHeadV
  have hZ33 : (HC z32 0).length = 33 := rfl
  have HBe : Hid (∀ W, Below w.heap.size w W → Calls Tryd.prog 20 #[.agg (HC z32 0).toArray, .slice ap ps.length cp] W fun e w' => e = .returned (.agg (HC (folded z32 ps) ps.length).toArray) ∧ Below W.heap.size W w') := Lib.hid (by
    intro W hW
    have := behind_any W z32 rfl 0 (by omega) ps ap gp op cp (hp.below hW) (ht.below hW h0) hl hm
    rw [show (0 : Int) + (ps.length : Int) = ps.length by omega] at this
    exact this)
  have HBU := Lib.hid builtHead0
  clear hp ht hl
  unfold HV
  have hD33 := length_HC (folded z32 ps) (length_folded z32 rfl _) ps.length
  have hDone := one_HC (folded z32 ps) ps.length
  generalize HC (folded z32 ps) ps.length = D at *
  generalize HC z32 0 = Z at *
  go_enter Tryd.func10, Tryd.ntmps10
  go_wp2_with (refine wpList_buildd rfl 28 #[] rfl [] (by kernel_rfl) Z.toArray HBU.out ?_)
  generalize hW : World.alloc _ _ = W0 at *
  have hb0 : Below w.heap.size w W0 := by rw [← hW]; exact (Below.refl _ _).alloc (Nat.le_refl _) _
  have gR : W0.heap[w.heap.size]? = some (.cells Z.toArray 28 (0, 0)) := by rw [← hW]; exact heap_alloc_new _ _
  have HB0 := Lib.hid hb0
  have GR := Lib.hid gR
  clear hW hb0 gR
  refine (HBe.out W0 HB0.out).mono ?_
  rintro e w2 ⟨rfl, hb2⟩
  have hat := (hb2.block _ (lt_block GR.out)).trans GR.out
  have hbel := HB0.out.trans (hb2.mono HB0.out.size)
  have hthere := there_block hat 0 33 (by omega)
  have hend := heap_setCells _ _ D 0 _ _ hat (by omega)
  rw [over_all _ _ (by omega)] at hend
  have hkl := (Kept1.setCells (b := w.heap.size) w.heap.size (Or.inl rfl) D 0 (Kept1.of_below hbel)).below (Nat.le_refl _)
  have Hend := Lib.hid hend
  have Hkl := Lib.hid hkl
  clear hend hkl hat hbel hb2 GR HB0 HBe
  go_wp2_with (refine wpList_store_mid rfl 28 (.tmp 2) (.tmp 5) rfl w.heap.size 0 D.toArray rfl rfl (by simpa [hD33] using hthere) (infoHead _ (by simpa using hD33)) (all_oneCell_toArray hDone) ?_)
  exact bodyPost_ret (v := .agg D.toArray) (results_cell_row Tryd.results10 _ _ w.heap.size 28 D.toArray (0, 0) _ rfl Hend.out Tryd.underlying28 rfl (infoHead _ (by simpa using hD33))) rfl ⟨rfl, Hkl.out⟩

set_option maxRecDepth 100000 in
set_option maxHeartbeats 1000000 in
theorem check_any (w : World) (P : List UInt8) (hP : P.length = 32) (n : Int) (ps : List Part) (ap : Option Addr) (gp op cp : Nat) (hp : PartsIn w ap gp op ps) (ht : Tab w) (hl : ∀ p ∈ ps, p.l.length ≤ 1000) (hm : ps.length ≤ 1000) :
    Calls Tryd.prog 13 #[HV P n, .slice ap ps.length cp] w fun e w' => e = .returned (.bool (folded z32 ps == P && (ps.length : Int) == n)) ∧ Below w.heap.size w w' := by
  have h0 := ht.size
  have HA : Hid (∀ W, Below w.heap.size w W → Calls Tryd.prog 10 #[.slice ap ps.length cp] W fun e w' => e = .returned (.agg (HC (folded z32 ps) ps.length).toArray) ∧ Below W.heap.size W w') := Lib.hid (by
    intro W hW; exact all_any W ps ap gp op cp (hp.below hW) (ht.below hW h0) hl hm)
  have heq := eqlHead (folded z32 ps) P (length_folded z32 rfl _) hP ps.length n
  have hgu := fun x y => guardHead (folded z32 ps) P ps.length n x y
  have hL33 := length_HC P hP n
  have hone := one_HC P n
  clear hp ht hl
  unfold HV at *
  generalize HC (folded z32 ps) ps.length = D at *
  generalize HC P n = L at *
  generalize hb : (folded z32 ps == P && (ps.length : Int) == n) = b at *
  clear hb
  go_enter Tryd.func13, Tryd.ntmps13
  go_wp2_with fail
  generalize hW : World.alloc _ _ = W0 at *
  have hb0 : Below w.heap.size w W0 := by rw [← hW]; exact (Below.refl _ _).alloc (Nat.le_refl _) _
  have gP : W0.heap[w.heap.size]? = some (.cells L.toArray 28 (0, 0)) := by rw [← hW]; exact heap_alloc_new _ _
  have HB0 := Lib.hid hb0
  have GP := Lib.hid gP
  clear hW hb0 gP
  refine wp_region_quietB (by kernel_rfl) (by kernel_rfl) ?_
  iterate 2 (go_big_quiet_step ((go_at_call 10; with_reducible exact Calls.quiet_b (HA.out _ (HB0.out.trans ((Bl.below _).mono HB0.out.size))))))
  refine wpQuiet_load_mid rfl 28 (.tmp 2) rfl w.heap.size 0 rfl L _ (fun w' ⟨m, hw'⟩ => hw' ▸ range_block ((m.below.block _ (lt_block GP.out)).trans GP.out)) Tryd.underlying28 rfl (infoHead _ hL33) ?_
  simp only [Act.put, List.setIfInBounds_toArray, List.set_cons_succ, List.set_cons_zero]
  iterate 2 (go_big_quiet_step (fail))
  refine wpQuiet_nil ?_
  intro m
  have HBM := Lib.hid (HB0.out.trans (m.below.mono HB0.out.size))
  clear heq hgu
  go_wp2_with fail
  go_ret
  exact ⟨rfl, HBM.out⟩
end Go.Proofs.YtmegncaadglhmaaDoor
