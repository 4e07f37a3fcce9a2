/- A block's 64 words, as the reference makes them: the walk; The reference's constants: words of eight hexadecimal digits; Of each truth of the first, where it is true the second's, else the third's. -/
import Derived.Test.YtlhfdlfbnnfjjaaDoorJ15
import Derived.Deep.RegionHeld3
import Derived.Deep.DeepCutAuto
import Derived.Test.YtlhfdlfbnnfjjaaDoorJ13
import Derived.Test.YtlhfdlfbnnfjjaaDoorJ03
namespace Go.Proofs.YtlhfdlfbnnfjjaaDoor
open Go.RowKit

/-- what the loops of the reference's row keep -/
structure RowRel (N k : Nat) (l : List UInt8) (v : Value) (w wr : World) : Prop where
  own : wr.ownsRow N 108 32 v k (rowC (plan l k))
  below : Below N w wr
set_option maxRecDepth 100000 in
theorem infoBits3 : (Tryd.prog.info? 108).map (fun i => (i.zero, i.size, i.bytes)) = some (some (.agg (bitsC fun _ => false).toArray), 32, 32) := by kernel_rfl
set_option maxRecDepth 100000 in
theorem zerocells : (Value.agg (bitsC fun _ => false).toArray).cells.size = 32 := by simp [Value.cells, length_bitsC]

set_option maxRecDepth 100000 in
theorem bitI (cn m : Nat) : (((cn : Int) / 2 ^ m).tmod 2 == 1) = (cn / 2 ^ m % 2 == 1) := by
  have e : ((cn : Int) / 2 ^ m) = ((cn / 2 ^ m : Nat) : Int) := by rw [Int.natCast_ediv, Int.natCast_pow]; rfl
  rw [e, Int.tmod_eq_emod_of_nonneg (Int.natCast_nonneg _), Bool.eq_iff_iff]
  simp only [beq_iff_eq]
  omega
set_option maxRecDepth 100000 in
theorem sizeBits : ∀ w, (sizeOf 108).run Tryd.prog w = .ok 32 w := fun _ => by kernel_rfl
set_option maxRecDepth 100000 in
/-- cells of a block that was just laid -/
theorem news_alloc (w : World) (L : List Value) (t : TypeId) : ∀ j u, L[j]? = some u → (w.alloc (.cells L.toArray t)).cell? ((⟨w.heap.size, 0, none⟩ : Addr).add j) = some u := fun j u hu => by
  rw [Addr.add_mid, cell_block (heap_alloc_new _ _)]; simpa using hu
set_option maxRecDepth 100000 in
/-- one truth more -/
theorem out_step {wr : World} {G : Nat} {t : TypeId} {f : Nat → Bool} {q : Nat} (h : wr.heap[G]? = some (.cells (bitsC fun i => if i < q then f i else false).toArray t (0, 0))) (b : Bool) (hb : f q = b) :
    (wr.setCell ⟨G, q, none⟩ (.bool b)).heap[G]? = some (.cells (bitsC fun i => if i < q + 1 then f i else false).toArray t (0, 0)) := by
  rw [heap_setCell_same _ _ _ _ _ _ h]
  congr 2
  rw [List.setIfInBounds_toArray, bitsC_set]
  congr 1
  apply bitsC_congr
  intro i _
  by_cases hi : i = q
  · subst hi; rw [if_pos rfl, if_pos (by omega), hb]
  · rw [if_neg hi]; by_cases h2 : i < q
    · rw [if_pos h2, if_pos (by omega)]
    · rw [if_neg h2, if_neg (by omega)]

set_option maxRecDepth 100000 in
/-- a word of an owned row -/
theorem own_range {w : World} {N g n cap : Nat} {P : List (BitVec 32)} (h : w.ownsRow N 108 32 (.slice (some ⟨g, 0, none⟩) n cap) n (rowC P)) (i : Nat) (hi : i < P.length) (hn : i < n) : w.rangeAt g (i * 32) (bitsV (P.getD i 0)) := fun j v hv => by
  have hj : j < 32 := by have := (List.getElem?_eq_some_iff.1 hv).1; rwa [length_bitsV] at this
  rw [h.cellAt (i * 32 + j) (by omega), Nat.mul_comm i 32, rowC_get P i hi j hj]
  simpa [List.getD, hi] using hv

set_option maxRecDepth 100000 in
set_option maxHeartbeats 2000000 in
theorem row_any (w : World) (p : Part) (hp : p.In w) (hl : p.l.length = 64) :
    Calls Tryd.prog 71 #[p.val] w fun e w' => ∃ v, e = .returned v ∧ RowRel w.heap.size 64 p.l v w w' := by
  have hrow0 : RowRel w.heap.size 0 p.l (.slice none 0 0) w w := ⟨World.ownsRow_nil _ _ _ _, Below.refl _ _⟩
  unfold Part.val
  obtain ⟨i0, hi0, hz0, hz1, hz2⟩ := info_parts infoBits3
  have hzv : ∀ w, (zeroValue 108).run Tryd.prog w = .ok (.agg (bitsC fun _ => false).toArray) w := fun _ => by kernel_rfl
  have hzc := zerocells
  generalize hZ : (bitsC fun _ => false) = Z at *
  have HZ := Lib.hid hZ
  clear hZ
  obtain ⟨ad, g, o, cap, l⟩ := p
  dsimp only at hl hrow0 ⊢
  obtain ⟨⟨had, hcell⟩, hcap, hglt⟩ := hp
  dsimp only at had hcell hcap hglt
  obtain rfl := had (by intro e; rw [e] at hl; cases hl)
  have hcell2 : ∀ j, j < 64 → w.cell? ⟨g, o + j, none⟩ = some (.int .u8 ((l.getD j 0).toNat : Int)) := fun j hj => by
    rw [hcell j (by omega)]; simp [List.getD, show j < l.length by omega]
  have Hcell := Lib.hid hcell2
  clear hcell hcell2 had
  have Hl := Lib.hid hl
  rw [hl]
  have Hi0 := Lib.hid hi0
  have Hz0 := Lib.hid hz0
  have Hz1 := Lib.hid hz1
  have Hz2 := Lib.hid hz2
  have Hzc := Lib.hid hzc
  clear hl hi0 hz0 hz1 hz2 hzc
  go_enter Tryd.func71, Tryd.ntmps71
  go_wp2_with fail
  go_loopw [3, 4] (fun v i wr => ∃ k : Nat, k ≤ 16 ∧ i = .int .i64 k ∧ RowRel w.heap.size k l v w wr) (fun _ i _ => 16 - (intOf i).toNat)
  case atStart => exact ⟨0, by omega, rfl, hrow0⟩
  case round =>
    clear hrow0
    obtain ⟨k, hk, rfl, hr⟩ := hrel
    by_cases hlt : k < 16
    · have hd : decide ((k : Int) < 16) = true := by simp; omega
      have Hr := Lib.hid hr
      clear hr
      go_wp2_with fail
      generalize hW : World.alloc _ _ = w1
      have ho1 : w1.heap[wr.heap.size]? = some (.cells (bitsC fun i => if i < 0 then wordBit l k i else false).toArray 108 (0, 0)) := by
        rw [← hW, bitsC_congr _ (fun _ => false) (fun i _ => by simp), HZ.out]; exact heap_alloc_new _ _
      have hb1 : Below wr.heap.size wr w1 := by rw [← hW]; exact (Below.refl _ _).alloc (Nat.le_refl _) _
      clear hW
      obtain ⟨wo, hwo⟩ : ∃ wo : World, wo = wr := ⟨_, rfl⟩
      rw [← hwo] at Hr ho1 hb1 ⊢
      clear hwo
      go_loopw [6] (fun i wr => ∃ q : Nat, q ≤ 32 ∧ i = .int .i64 q ∧ wr.heap[wo.heap.size]? = some (.cells (bitsC fun i => if i < q then wordBit l k i else false).toArray 108 (0, 0)) ∧ Below wo.heap.size wo wr) (fun i _ => 32 - (intOf i).toNat)
      case atStart => exact ⟨0, by omega, rfl, ho1, hb1⟩
      case round =>
        clear ho1 hb1
        obtain ⟨q, hq, rfl, hout, hbo⟩ := hrel
        by_cases hlq : q < 32
        · have hdq : decide ((q : Int) < 32) = true := by simp; omega
          have hgo : g < wo.heap.size := Nat.lt_of_lt_of_le hglt Hr.out.below.size
          have hbyte : wr.cell? ⟨g, o + (4 * k + 3 - q / 8), none⟩ = some (.int .u8 ((l.getD (4 * k + 3 - q / 8) 0).toNat : Int)) := by
            rw [hbo.cell (by exact hgo), Hr.out.below.cell (by exact hglt), Hcell.out (4 * k + 3 - q / 8) (by omega)]
          obtain ⟨v, cv⟩ : ∃ v, wr.cell? ⟨wo.heap.size, q, none⟩ = some v := ⟨_, by rw [cell_block hout, List.getElem?_toArray]; exact bitsC_get _ q hlq⟩
          have cf := frozen_of_row wr wo.heap.size q _ _ hout
          have hn1 : (4 * (k : Int) + 3 - (q : Int) / 8).toNat = 4 * k + 3 - q / 8 := by omega
          have hwb : wordBit l k q = ((l.getD (4 * k + 3 - q / 8) 0).toNat / 2 ^ (q % 8) % 2 == 1) := rfl
          have hc255 := (l.getD (4 * k + 3 - q / 8) 0).toNat_lt
          generalize (l.getD (4 * k + 3 - q / 8) 0).toNat = cn at *
          have Hout := Lib.hid hout
          have Hbo := Lib.hid hbo
          have Hwb := Lib.hid hwb
          clear hout hbo hwb
          go_wp2_with fail
          go_roundw
          case rel => exact ⟨q + 1, by omega, by go_num, out_step Hout.out _ (by rw [Hwb.out, bitI]), Hbo.out.setCell (Nat.le_refl _) _⟩
          case measure => simp [intOf]; omega
        · obtain rfl : q = 32 := by omega
          have hdq : decide (((32 : Nat) : Int) < 32) = false := by simp
          have hpn : (bitsC fun i => if i < 32 then wordBit l k i else false) = bitsV (planNext l (plan l k) k) :=
            bitsC_congr _ _ (fun i hi => by rw [if_pos hi, wordBit_eq l k i hlt hi])
          rw [hpn] at hout
          have hown := own_kept Hr.out.own (w' := wr) (fun g' hg' => hbo.block _ (Hr.out.own.lt g' hg').2)
          have hbel : Below w.heap.size w wr := Hr.out.below.trans (hbo.mono Hr.out.below.size)
          have hrange := range_block hout
          have hlen := length_bitsV (planNext l (plan l k) k)
          have hone : ∀ v ∈ bitsV (planNext l (plan l k) k), v.oneCell' = true := one_bitsC _
          have hsn : rowC (plan l (k + 1)) = rowC (plan l k) ++ bitsV (planNext l (plan l k) k) := by rw [plan, rowC_snoc]
          generalize bitsV (planNext l (plan l k) k) = L at *
          have Hown := Lib.hid hown
          have Hbel := Lib.hid hbel
          have Hsn := Lib.hid hsn
          clear hown hbel hsn hout hbo hpn Hr
          have hi := infoBitsL _ hlen
          have hszL : ∀ w, (sizeOf 108).run Tryd.prog w = .ok L.length w := by rw [hlen]; exact sizeBits
          have HszL := Lib.hid hszL
          have hNle : w.heap.size ≤ wr.heap.size := Hbel.out.size
          clear hszL
          go_wp2_with (first
            | (refine wpList_load_mid rfl 108 (.tmp 5) rfl wo.heap.size 0 rfl L _ hrange Tryd.underlying108 rfl hi ?_)
            | (refine wpList_build1 rfl 124 108 (.tmp 38) rfl L Z rfl Tryd.underlying124 HszL.out hzv (by omega) (by omega) ?_)
            | (at_builtin; refine wpList_append_own _ rfl (.tmp 37) (.tmp 39) 124 rfl w.heap.size 108 i0 (.agg Z.toArray) 32 32 Tryd.underlying124 Hi0.out Hz0.out Hz1.out Hz2.out Hzc.out (by decide) _ k (rowC (plan l k)) rfl (Hown.out.alloc _) ⟨wr.heap.size, 0, none⟩ 1 1 L rfl (by omega) (news_alloc _ _ _) hone (by unfold maxLen; omega) (by omega) (by simp; omega) ?_))
          intro v' w' hown' hgrow _
          have hrr : RowRel w.heap.size (k + 1) l v' w w' := by
            refine ⟨by rw [Hsn.out]; exact hown', ?_⟩
            refine (Hbel.out.alloc hNle _).grown hgrow (by simp; omega) (fun b hb => (Hown.out.lt b hb).1)
          have Hrr := Lib.hid hrr
          clear hown' hgrow hrr Hown Hbel
          go_wp2_with fail
          go_roundw
          case rel => exact ⟨k + 1, by omega, by go_num, Hrr.out⟩
          case measure => simp [intOf]; omega
    · have hd : decide ((k : Int) < 16) = false := by simp; omega
      have hk16 : k = 16 := by omega
      rw [hk16] at hr
      clear hlt hk hk16
      go_wp2_with fail
      go_loopw [3, 7] (fun v i wr => ∃ k : Nat, 16 ≤ k ∧ k ≤ 64 ∧ i = .int .i64 k ∧ RowRel w.heap.size k l v w wr) (fun _ i _ => 64 - (intOf i).toNat)
      case atStart => exact ⟨16, by omega, by omega, rfl, hr⟩
      case round =>
        clear hr hd

        obtain ⟨k, hk1, hk2, rfl, hr⟩ := hrel
        by_cases hlt : k < 64
        · have hd : decide ((k : Int) < 64) = true := by simp; omega
          have hpl := length_plan l k
          obtain ⟨g', cap', hv⟩ : ∃ g' cap', u3 = .slice (some ⟨g', 0, none⟩) k cap' := by
            obtain ⟨_, h | ⟨g', cap', _, h, _⟩⟩ := hr.own
            · omega
            · exact ⟨g', cap', h⟩
          subst hv
          have hown := hr.own
          have hr15 := own_range hown (k - 15) (by omega) (by omega)
          have hr2 := own_range hown (k - 2) (by omega) (by omega)
          have hr16 := own_range hown (k - 16) (by omega) (by omega)
          have hr7 := own_range hown (k - 7) (by omega) (by omega)
          have i2 : IntKind.i64.wrap ((k : Int) - 2) = (k : Int) - 2 := IntWalk.i64_in _ (by omega)
          have i15 : IntKind.i64.wrap ((k : Int) - 15) = (k : Int) - 15 := IntWalk.i64_in _ (by omega)
          have n2 : ((k : Int) - 2).toNat = k - 2 := by omega
          have n15 : ((k : Int) - 15).toNat = k - 15 := by omega
          have p2 : 0 ≤ (k : Int) - 2 := by omega
          have p15 : 0 ≤ (k : Int) - 15 := by omega
          have hpn : bitsV (planNext l (plan l k) k) = bitsV ((plan l k).getD (k - 16) 0 + spr ((plan l k).getD (k - 15) 0) 7 18 3 + (plan l k).getD (k - 7) 0 + spr ((plan l k).getD (k - 2) 0) 17 19 10) := by
            unfold planNext
            rw [if_neg (by omega)]
            congr 1
            ac_rfl
          have hsn : rowC (plan l (k + 1)) = rowC (plan l k) ++ bitsV (planNext l (plan l k) k) := by rw [plan, rowC_snoc]
          rw [hpn] at hsn
          have Hsn := Lib.hid hsn
          clear hpn hsn
          have hglt' : g' < wr.heap.size := (hr.own.lt g' rfl).2
          have Hr := Lib.hid hr
          have Hown := Lib.hid hown
          have Hr15 := Lib.hid hr15
          have Hr2 := Lib.hid hr2
          have Hr16 := Lib.hid hr16
          have Hr7 := Lib.hid hr7
          have Hpl := Lib.hid hpl
          clear hr hown hr15 hr2 hr16 hr7 hpl
          go_wp2_with fail
          generalize (plan l k).getD (k - 15) 0 = A at *
          generalize (plan l k).getD (k - 2) 0 = Bv at *
          generalize (plan l k).getD (k - 16) 0 = Cv at *
          generalize (plan l k).getD (k - 7) 0 = Dv at *
          have b2 : (k : Int) - 2 < (k : Int) := by omega
          have b15 : (k : Int) - 15 < (k : Int) := by omega
          have hZ32 : Z.length = 32 := by rw [← HZ.out, length_bitsC]
          refine wp_region_fresh 13 [.calm, .calm, .calm, .calm, .calm, .calm, .calm, .calm, .calm, .calm, .fresh, .fresh, .init 10] (fun _ => .cells Z.toArray 108) (fun i => if i = 10 then .cells (bitsV A).toArray 108 else .cells Z.toArray 108) (fun _ G => .pointer (some ⟨G, 0, none⟩)) (by kernel_rfl) (by kernel_rfl) (by kernel_rfl) ?_
          intro R hR
          have hne := hR.nonempty
          simp only [List.take_succ_cons, List.take_zero, List.drop_succ_cons, List.drop_zero, calmL]
          iterate 4 (go_big_quiet_step (fail))
          refine wpQuiet_load_mid rfl 108 (.tmp 48) rfl g' ((k - 15) * 32) (by first | rfl | (simp [Act.eval]; omega)) (bitsV A) _ (fun w' ⟨m, hw'⟩ => hw' ▸ range_below m.below Hr15.out hglt') Tryd.underlying108 rfl (infoBitsL _ (length_bitsV A)) ?_
          simp only [Act.put, List.setIfInBounds_toArray, List.set_cons_succ, List.set_cons_zero]
          iterate 4 (go_big_quiet_step (fail))
          refine wpQuiet_load_mid rfl 108 (.tmp 53) rfl g' ((k - 2) * 32) (by first | rfl | (simp [Act.eval]; omega)) (bitsV Bv) _ (fun w' ⟨m, hw'⟩ => hw' ▸ range_below m.below Hr2.out hglt') Tryd.underlying108 rfl (infoBitsL _ (length_bitsV Bv)) ?_
          simp only [Act.put, List.setIfInBounds_toArray, List.set_cons_succ, List.set_cons_zero]
          refine wpQuiet_nil ?_
          refine ⟨?_, ?_⟩
          · simp only [obF, Nat.reduceAdd]
            refine ⟨⟨fun a' w' _ _ => run_alloc_op 108 rfl Z hzv w', .inr ⟨12, by decide, rfl⟩⟩, ⟨fun a' w' _ _ => run_alloc_op 108 rfl Z hzv w', .inl rfl⟩, fun a' w' G _ hx hp hh => ?_, trivial⟩
            exact run_fill 108 (.tmp 8) (.tmp 49) rfl G (bitsV A) (hp 8 rfl) ((hx (.tmp 49) (by simp [Op.operands])).resolve_left (by rw [show isPtr _ 10 (.tmp 49) = false by kernel_rfl]; exact Bool.false_ne_true)) 108 Z hh (infoBitsL _ (length_bitsV A)) (by rw [hZ32, length_bitsV]) (one_bitsC _)
          intro γ w1 hf
          clear hR hne R
          simp only [putF, Nat.reduceAdd, Act.put, List.setIfInBounds_toArray, List.set_cons_succ, List.set_cons_zero]
          obtain ⟨g8a, h8⟩ := hf.block 10 rfl
          obtain ⟨g9a, h9⟩ := hf.block 11 rfl
          have hne := hf.ne 10 11 rfl rfl (by decide)
          have hb1 := hf.below
          clear hf
          generalize γ 10 = G8 at *
          generalize γ 11 = G9 at *
          simp only [if_true, Nat.reduceEqDiff, if_false] at h8 h9
          refine wpList_store_row rfl 108 (.tmp 9) (.tmp 54) rfl G9 (bitsV Bv).toArray rfl rfl 108 Z.toArray h9 (infoBitsL _ (by simp [length_bitsV])) (by simp [hZ32, length_bitsV]) (all_oneCell_toArray (one_bitsC _)) ?_
          have s9 := set1_setRow (cells := (bitsV Bv).toArray) h9
          generalize w1.setRow G9 (bitsV Bv).toArray = w2 at *
          have h8' : w2.heap[G8]? = some (.cells (bitsV A).toArray 108 (0, 0)) := (s9.old G8 hne).trans h8
          have h9' := s9.new
          have hb2 := s9.below hb1 g9a
          have G8lt : G8 < w2.heap.size := (Array.getElem?_eq_some_iff.1 h8').1
          have G9lt : G9 < w2.heap.size := (Array.getElem?_eq_some_iff.1 h9').1
          have gG8lt := G8lt
          have HG8 := Lib.hid h8'
          have HG9 := Lib.hid h9'
          have Hb2 := Lib.hid hb2
          clear h8 h9 s9 hb1 h8' h9' hb2
          go_wp2_with fail
          refine wp_region_fresh 8 [.calm, .calm, .calm, .calm, .calm, .calm, .calm, .fresh] (fun _ => .cells Z.toArray 108) (fun _ => .cells Z.toArray 108) (fun _ G => .pointer (some ⟨G, 0, none⟩)) (by kernel_rfl) (by kernel_rfl) (by kernel_rfl) ?_
          intro R hR
          have hne := hR.nonempty
          simp only [List.take_succ_cons, List.take_zero, List.drop_succ_cons, List.drop_zero, calmL]
          refine wpQuiet_load_mid rfl 108 (.tmp 8) rfl G8 0 rfl (bitsV A) _ (fun w' ⟨m, hw'⟩ => hw' ▸ range_below m.below (range_block HG8.out) gG8lt) Tryd.underlying108 rfl (infoBitsL _ (length_bitsV A)) ?_
          simp only [Act.put, List.setIfInBounds_toArray, List.set_cons_succ, List.set_cons_zero]
          go_big_quiet_step ((go_at_call 73; exact Calls.quiet_r hR (right_any A 7 true _ (by decide) (by decide))))
          refine wpQuiet_load_mid rfl 108 (.tmp 8) rfl G8 0 rfl (bitsV A) _ (fun w' ⟨m, hw'⟩ => hw' ▸ range_below m.below (range_block HG8.out) gG8lt) Tryd.underlying108 rfl (infoBitsL _ (length_bitsV A)) ?_
          simp only [Act.put, List.setIfInBounds_toArray, List.set_cons_succ, List.set_cons_zero]
          go_big_quiet_step ((go_at_call 73; exact Calls.quiet_r hR (right_any A 18 true _ (by decide) (by decide))))
          refine wpQuiet_load_mid rfl 108 (.tmp 8) rfl G8 0 rfl (bitsV A) _ (fun w' ⟨m, hw'⟩ => hw' ▸ range_below m.below (range_block HG8.out) gG8lt) Tryd.underlying108 rfl (infoBitsL _ (length_bitsV A)) ?_
          simp only [Act.put, List.setIfInBounds_toArray, List.set_cons_succ, List.set_cons_zero]
          go_big_quiet_step ((go_at_call 73; exact Calls.quiet_r hR (right_any A 3 false _ (by decide) (by decide))))
          go_big_quiet_step ((go_at_call 72; exact Calls.quiet_r hR (odd_any _ _ _ _)))
          refine wpQuiet_nil ?_
          refine ⟨?_, ?_⟩
          · simp only [obF, Nat.reduceAdd]
            exact ⟨⟨fun a' w' _ _ => run_alloc_op 108 rfl Z hzv w', .inl trivial⟩, trivial⟩
          intro γ w1 hf
          clear hR hne R
          simp only [putF, Nat.reduceAdd, Act.put, List.setIfInBounds_toArray, List.set_cons_succ, List.set_cons_zero]
          obtain ⟨gna, hn⟩ := hf.block 7 rfl
          have hb1 := hf.below
          clear hf
          generalize γ 7 = G10 at *
          refine wpList_store_row rfl 108 (.tmp 10) (.tmp 61) rfl G10 (bitsV (spr A 7 18 3)).toArray rfl rfl 108 Z.toArray hn (infoBitsL _ (by simp [length_bitsV])) (by simp [hZ32, length_bitsV]) (all_oneCell_toArray (one_bitsC _)) ?_
          simp only [Act.put]
          have sn := set1_setRow (cells := (bitsV (spr A 7 18 3)).toArray) hn
          generalize w1.setRow G10 (bitsV (spr A 7 18 3)).toArray = w3 at *
          have hn' := sn.new
          have hbn := sn.below hb1 gna
          have h9' : w3.heap[G9]? = some (.cells (bitsV Bv).toArray 108 (0, 0)) := (hbn.block G9 G9lt).trans HG9.out
          have hb3 : Below wr.heap.size wr w3 := Hb2.out.trans (hbn.mono Hb2.out.size)
          have gG9lt : G9 < w3.heap.size := (Array.getElem?_eq_some_iff.1 h9').1
          have G10lt : G10 < w3.heap.size := (Array.getElem?_eq_some_iff.1 hn').1
          clear HG8 HG9 G8lt G9lt gG8lt Hb2 hn sn hbn hb1
          have HG9 := Lib.hid h9'
          have HG10 := Lib.hid hn'
          have Hb3 := Lib.hid hb3
          clear h9' hn' hb3 gna
          go_wp2_with fail
          refine wp_region_fresh 8 [.calm, .calm, .calm, .calm, .calm, .calm, .calm, .fresh] (fun _ => .cells Z.toArray 108) (fun _ => .cells Z.toArray 108) (fun _ G => .pointer (some ⟨G, 0, none⟩)) (by kernel_rfl) (by kernel_rfl) (by kernel_rfl) ?_
          intro R hR
          have hne := hR.nonempty
          simp only [List.take_succ_cons, List.take_zero, List.drop_succ_cons, List.drop_zero, calmL]
          refine wpQuiet_load_mid rfl 108 (.tmp 9) rfl G9 0 rfl (bitsV Bv) _ (fun w' ⟨m, hw'⟩ => hw' ▸ range_below m.below (range_block HG9.out) gG9lt) Tryd.underlying108 rfl (infoBitsL _ (length_bitsV Bv)) ?_
          simp only [Act.put, List.setIfInBounds_toArray, List.set_cons_succ, List.set_cons_zero]
          go_big_quiet_step ((go_at_call 73; exact Calls.quiet_r hR (right_any Bv 17 true _ (by decide) (by decide))))
          refine wpQuiet_load_mid rfl 108 (.tmp 9) rfl G9 0 rfl (bitsV Bv) _ (fun w' ⟨m, hw'⟩ => hw' ▸ range_below m.below (range_block HG9.out) gG9lt) Tryd.underlying108 rfl (infoBitsL _ (length_bitsV Bv)) ?_
          simp only [Act.put, List.setIfInBounds_toArray, List.set_cons_succ, List.set_cons_zero]
          go_big_quiet_step ((go_at_call 73; exact Calls.quiet_r hR (right_any Bv 19 true _ (by decide) (by decide))))
          refine wpQuiet_load_mid rfl 108 (.tmp 9) rfl G9 0 rfl (bitsV Bv) _ (fun w' ⟨m, hw'⟩ => hw' ▸ range_below m.below (range_block HG9.out) gG9lt) Tryd.underlying108 rfl (infoBitsL _ (length_bitsV Bv)) ?_
          simp only [Act.put, List.setIfInBounds_toArray, List.set_cons_succ, List.set_cons_zero]
          go_big_quiet_step ((go_at_call 73; exact Calls.quiet_r hR (right_any Bv 10 false _ (by decide) (by decide))))
          go_big_quiet_step ((go_at_call 72; exact Calls.quiet_r hR (odd_any _ _ _ _)))
          refine wpQuiet_nil ?_
          refine ⟨?_, ?_⟩
          · simp only [obF, Nat.reduceAdd]
            exact ⟨⟨fun a' w' _ _ => run_alloc_op 108 rfl Z hzv w', .inl trivial⟩, trivial⟩
          intro γ w1 hf
          clear hR hne R
          simp only [putF, Nat.reduceAdd, Act.put, List.setIfInBounds_toArray, List.set_cons_succ, List.set_cons_zero]
          obtain ⟨gna, hn⟩ := hf.block 7 rfl
          have hb1 := hf.below
          clear hf
          generalize γ 7 = G11 at *
          refine wpList_store_row rfl 108 (.tmp 11) (.tmp 68) rfl G11 (bitsV (spr Bv 17 19 10)).toArray rfl rfl 108 Z.toArray hn (infoBitsL _ (by simp [length_bitsV])) (by simp [hZ32, length_bitsV]) (all_oneCell_toArray (one_bitsC _)) ?_
          simp only [Act.put]
          have sn := set1_setRow (cells := (bitsV (spr Bv 17 19 10)).toArray) hn
          generalize w1.setRow G11 (bitsV (spr Bv 17 19 10)).toArray = w4 at *
          have hn' := sn.new
          have hbn := sn.below hb1 gna
          have h10' : w4.heap[G10]? = some (.cells (bitsV (spr A 7 18 3)).toArray 108 (0, 0)) := (hbn.block G10 G10lt).trans HG10.out
          have hb4 : Below wr.heap.size wr w4 := Hb3.out.trans (hbn.mono Hb3.out.size)
          have gG10lt : G10 < w4.heap.size := (Array.getElem?_eq_some_iff.1 h10').1
          have gG11lt : G11 < w4.heap.size := (Array.getElem?_eq_some_iff.1 hn').1
          have gglt : g' < w4.heap.size := Nat.lt_of_lt_of_le hglt' hb4.size
          have hr16 := range_below hb4 Hr16.out hglt'
          have hr7 := range_below hb4 Hr7.out hglt'
          clear HG9 HG10 gG9lt Hb3 hn sn hbn hb1 Hr15 Hr2 Hr16 Hr7
          have HG10 := Lib.hid h10'
          have HG11 := Lib.hid hn'
          have Hb4 := Lib.hid hb4
          have Hr16 := Lib.hid hr16
          have Hr7 := Lib.hid hr7
          clear h10' hn' hb4 gna hr16 hr7 i2 i15 n2 n15 p2 p15
          have i16 : IntKind.i64.wrap ((k : Int) - 16) = (k : Int) - 16 := IntWalk.i64_in _ (by omega)
          have i7 : IntKind.i64.wrap ((k : Int) - 7) = (k : Int) - 7 := IntWalk.i64_in _ (by omega)
          have n16 : ((k : Int) - 16).toNat = k - 16 := by omega
          have n7 : ((k : Int) - 7).toNat = k - 7 := by omega
          have p16 : 0 ≤ (k : Int) - 16 := by omega
          have p7 : 0 ≤ (k : Int) - 7 := by omega
          have b16 : (k : Int) - 16 < (k : Int) := by omega
          have b7 : (k : Int) - 7 < (k : Int) := by omega
          go_wp2_with fail
          have hlen := length_bitsV (Cv + spr A 7 18 3 + Dv + spr Bv 17 19 10)
          have hone : ∀ v ∈ bitsV (Cv + spr A 7 18 3 + Dv + spr Bv 17 19 10), v.oneCell' = true := one_bitsC _
          have hszL : ∀ w, (sizeOf 108).run Tryd.prog w = .ok (bitsV (Cv + spr A 7 18 3 + Dv + spr Bv 17 19 10)).length w := by rw [hlen]; exact sizeBits
          have HszL := Lib.hid hszL
          have Hone := Lib.hid hone
          have Hlen := Lib.hid hlen
          clear hszL hone hlen
          refine wp_region_fresh 17 [.calm, .calm, .calm, .calm, .calm, .calm, .calm, .calm, .calm, .calm, .calm, .calm, .calm, .calm, .calm, .calm, .fresh] (fun _ => .cells (bitsV (Cv + spr A 7 18 3 + Dv + spr Bv 17 19 10)).toArray 108) (fun _ => .cells (bitsV (Cv + spr A 7 18 3 + Dv + spr Bv 17 19 10)).toArray 108) (fun _ G => .slice (some ⟨G, 0, none⟩) 1 1) (by kernel_rfl) (by kernel_rfl) (by kernel_rfl) ?_
          intro R hR
          have hne := hR.nonempty
          simp only [List.take_succ_cons, List.take_zero, List.drop_succ_cons, List.drop_zero, calmL]
          iterate 5 (go_big_quiet_step (fail))
          refine wpQuiet_load_mid rfl 108 (.tmp 73) rfl g' ((k - 16) * 32) (by first | rfl | (simp [Act.eval]; omega)) (bitsV (Cv)) _ (fun w' ⟨m, hw'⟩ => hw' ▸ range_below m.below (Hr16.out) gglt) Tryd.underlying108 rfl (infoBitsL _ (length_bitsV _)) ?_
          simp only [Act.put, List.setIfInBounds_toArray, List.set_cons_succ, List.set_cons_zero]
          refine wpQuiet_load_mid rfl 108 (.tmp 10) rfl G10 0 rfl (bitsV (spr A 7 18 3)) _ (fun w' ⟨m, hw'⟩ => hw' ▸ range_below m.below (range_block HG10.out) gG10lt) Tryd.underlying108 rfl (infoBitsL _ (length_bitsV _)) ?_
          simp only [Act.put, List.setIfInBounds_toArray, List.set_cons_succ, List.set_cons_zero]
          go_big_quiet_step ((go_at_call 74; exact Calls.quiet_r hR (plus_any _ _ _)))
          iterate 4 (go_big_quiet_step (fail))
          refine wpQuiet_load_mid rfl 108 (.tmp 80) rfl g' ((k - 7) * 32) (by first | rfl | (simp [Act.eval]; omega)) (bitsV (Dv)) _ (fun w' ⟨m, hw'⟩ => hw' ▸ range_below m.below (Hr7.out) gglt) Tryd.underlying108 rfl (infoBitsL _ (length_bitsV _)) ?_
          simp only [Act.put, List.setIfInBounds_toArray, List.set_cons_succ, List.set_cons_zero]
          go_big_quiet_step ((go_at_call 74; exact Calls.quiet_r hR (plus_any _ _ _)))
          refine wpQuiet_load_mid rfl 108 (.tmp 11) rfl G11 0 rfl (bitsV (spr Bv 17 19 10)) _ (fun w' ⟨m, hw'⟩ => hw' ▸ range_below m.below (range_block HG11.out) gG11lt) Tryd.underlying108 rfl (infoBitsL _ (length_bitsV _)) ?_
          simp only [Act.put, List.setIfInBounds_toArray, List.set_cons_succ, List.set_cons_zero]
          go_big_quiet_step ((go_at_call 74; exact Calls.quiet_r hR (plus_any _ _ _)))
          refine wpQuiet_nil ?_
          refine ⟨?_, ?_⟩
          · simp only [obF, Nat.reduceAdd]
            exact ⟨⟨fun a' w' _ hx => run_build1_op 124 108 (.tmp 84) rfl (bitsV (Cv + spr A 7 18 3 + Dv + spr Bv 17 19 10)) Z (hx (.tmp 84) (by simp [Op.operands])) Tryd.underlying124 HszL.out hzv (by rw [Hlen.out]; omega) (by rw [Hlen.out]; omega) w', .inl trivial⟩, trivial⟩
          intro γ w5 hf
          clear hR hne R
          simp only [putF, Nat.reduceAdd, Act.put, List.setIfInBounds_toArray, List.set_cons_succ, List.set_cons_zero]
          obtain ⟨gna, hn⟩ := hf.block 16 rfl
          have hb5 : Below wr.heap.size wr w5 := Hb4.out.trans (hf.below.mono Hb4.out.size)
          clear hf
          generalize γ 16 = G5 at *
          have hbel : Below w.heap.size w w5 := Hr.out.below.trans (hb5.mono Hr.out.below.size)
          have hown5 := own_kept Hown.out (w' := w5) (fun g1 hg1 => hb5.block _ (Hown.out.lt g1 hg1).2)
          have hnews : ∀ j u, (bitsV (Cv + spr A 7 18 3 + Dv + spr Bv 17 19 10))[j]? = some u → w5.cell? ((⟨G5, 0, none⟩ : Addr).add j) = some u := fun j u hu => by
            rw [Addr.add_mid, cell_block hn]; simpa using hu
          refine wpList_append_own _ rfl (.tmp 69) (.tmp 85) 124 rfl w.heap.size 108 i0 (.agg Z.toArray) 32 32 Tryd.underlying124 Hi0.out Hz0.out Hz1.out Hz2.out Hzc.out (by decide) _ k (rowC (plan l k)) rfl hown5 ⟨G5, 0, none⟩ 1 1 (bitsV (Cv + spr A 7 18 3 + Dv + spr Bv 17 19 10)) rfl (by rw [Hlen.out]) hnews Hone.out (by unfold maxLen; omega) (by omega) hbel.size ?_
          intro v' w' hown' hgrow _
          have hrr : RowRel w.heap.size (k + 1) l v' w w' := by
            refine ⟨by rw [Hsn.out]; exact hown', ?_⟩
            exact hbel.grown hgrow hbel.size (fun b hb => (Hown.out.lt b hb).1)
          have Hrr := Lib.hid hrr
          clear hown' hgrow hrr hown5 hbel hb5 hnews hn gna
          go_wp2_with fail
          go_roundw
          case rel => exact ⟨k + 1, by omega, by omega, by go_num, Hrr.out⟩
          case measure => simp [intOf]; omega
        · obtain rfl : k = 64 := by omega
          have hd : decide (((64 : Nat) : Int) < 64) = false := by simp
          have Hr := Lib.hid hr
          clear hr
          go_wp2_with fail
          go_ret
          exact ⟨_, rfl, Hr.out⟩
end Go.Proofs.YtlhfdlfbnnfjjaaDoor
namespace Go.Proofs.YtlhfdlfbnnfjjaaDoor
open Go.RowKit

/-- a hexadecimal digit's number -/
def hexd (c : UInt8) : Nat := if c.toNat ≤ 57 then c.toNat - 48 else c.toNat - 87
def isHex (c : UInt8) : Bool := (48 ≤ c.toNat && c.toNat ≤ 57) || (97 ≤ c.toNat && c.toNat ≤ 102)
/-- the j-th truth of the n-th word -/
def hexBit (s : List UInt8) (n j : Nat) : Bool := (hexd (s.getD (8 * n + 7 - j / 4) 0) / 2 ^ (j % 4)) % 2 == 1

set_option maxRecDepth 100000 in
set_option maxHeartbeats 400000 in
theorem digit_any (c : UInt8) (h : isHex c = true) (w : World) : Calls Tryd.prog 70 #[.int .u8 (c.toNat : Int)] w fun e w' => e = .returned (.int .i64 (hexd c : Int)) ∧ w = w' := by
  unfold isHex at h
  simp only [Bool.or_eq_true, Bool.and_eq_true, decide_eq_true_eq] at h
  have hc : hexd c = if c.toNat ≤ 57 then c.toNat - 48 else c.toNat - 87 := rfl
  generalize hexd c = d at *
  generalize c.toNat = n at *
  rcases h with ⟨h1, h2⟩ | ⟨h1, h2⟩
  · rw [if_pos h2] at hc
    have Hc := Lib.hid hc
    clear hc
    go_enter Tryd.func70, Tryd.ntmps70
    go_wp2
    go_ret
    exact ⟨ret_int (by have := Hc.out; omega), rfl⟩
  · rw [if_neg (by omega)] at hc
    have Hc := Lib.hid hc
    clear hc
    go_enter Tryd.func70, Tryd.ntmps70
    go_wp2
    go_ret
    exact ⟨ret_int (by have := Hc.out; omega), rfl⟩

set_option maxRecDepth 100000 in
set_option maxHeartbeats 1000000 in
theorem hex_any (s : ByteArray) (n : Nat) (hs : 8 * n + 8 ≤ s.size) (hm : s.size ≤ 100000) (hx : ∀ i, (h : i < s.size) → isHex s[i] = true) (w : World) :
    Calls Tryd.prog 53 #[.string s, .int .i64 (n : Int)] w fun e w' => e = .returned (.agg (bitsC (hexBit s.data.toList n)).toArray) ∧ Below w.heap.size w w' := by
  go_enter Tryd.func53, Tryd.ntmps53
  go_wp2_with fail
  generalize hW : World.alloc _ _ = w1
  have R : BitRel w.heap.size [] (fun _ => false) w w1 := by
    rw [← hW]
    have hh := heap_allocs [.cells (bitsC fun _ => false).toArray 108, .cells (bitsC fun _ => false).toArray 108] w
    exact ⟨fun i hi => (by cases hi), ⟨fun _ => false, hh 0 (by simp)⟩, hh 1 (by simp), below_allocs [_, _] w (Below.refl _ _) (Nat.le_refl _)⟩
  clear hW
  go_loopw [6, 7, 8] (fun i d k wr => ∃ j : Nat, j ≤ 8 ∧ i = .int .i64 j ∧ BitRel w.heap.size [] (fun i => if i < 4 * j then hexBit s.data.toList n i else false) w wr) (fun i _ _ _ => 8 - (intOf i).toNat)
  case atStart => exact ⟨0, by omega, rfl, R.congr (fun i _ => by simp)⟩
  case round =>
    clear R
    obtain ⟨j, hj, rfl, hr⟩ := hrel
    by_cases hlt : j < 8
    · have hd : decide ((j : Int) < 8) = true := by simp; omega
      have hsx := hx (8 * n + 7 - j) (by omega)
      have Hr := Lib.hid hr
      have Hx := Lib.hid hx
      clear hr hx
      go_wp2_with fail
      refine (digit_any _ hsx _).mono ?_
      rintro e wx ⟨rfl, rfl⟩
      have hd0 : hexd s[8 * n + 7 - j] = hexd (s.data.toList.getD (8 * n + 7 - j) 0) := by
        congr 1
        rw [List.getD_eq_getElem?_getD, List.getElem?_eq_getElem (by simpa using (show 8 * n + 7 - j < s.size by omega))]; rfl
      have hd15 : hexd s[8 * n + 7 - j] ≤ 15 := by
        unfold isHex at hsx; simp only [Bool.or_eq_true, Bool.and_eq_true, decide_eq_true_eq] at hsx
        unfold hexd; split <;> omega
      generalize hexd s[8 * n + 7 - j] = d0 at *
      have Hd0 := Lib.hid hd0
      clear hd0 hsx
      go_wp2_with fail
      go_loopw [7, 8] (fun d k wr => ∃ q : Nat, q ≤ 4 ∧ k = .int .i64 q ∧ d = .int .i64 ((d0 / 2 ^ q : Nat) : Int) ∧ BitRel w.heap.size [] (fun i => if i < 4 * j + q then hexBit s.data.toList n i else false) w wr) (fun _ k _ => 4 - (intOf k).toNat)
      case atStart => exact ⟨0, by omega, rfl, by simp, Hr.out⟩
      case round =>
        clear Hr
        obtain ⟨q, hq, rfl, rfl, hr⟩ := hrel
        by_cases hlq : q < 4
        · have hdq : decide ((q : Int) < 4) = true := by simp; omega
          have hbit : hexBit s.data.toList n (4 * j + q) = ((d0 / 2 ^ q) % 2 == 1) := by
            unfold hexBit
            rw [show (4 * j + q) / 4 = j by omega, show (4 * j + q) % 4 = q by omega, ← Hd0.out]
          have hnext : d0 / 2 ^ (q + 1) = d0 / 2 ^ q / 2 := by rw [Nat.pow_succ, Nat.div_div_eq_div_mul]
          have hle : d0 / 2 ^ q ≤ 15 := Nat.le_trans (Nat.div_le_self _ _) hd15
          generalize d0 / 2 ^ q = dq at *
          obtain ⟨v, cv⟩ : ∃ v, wr.cell? ⟨w.heap.size + 1, 4 * j + q, none⟩ = some v := ⟨_, hr.outSome (4 * j + q) (by omega)⟩
          have cf : wr.frozen? ⟨w.heap.size + 1, 4 * j + q, none⟩ = false := hr.outFree (4 * j + q)
          have hnt : (4 * (j : Int) + (q : Int)).toNat = 4 * j + q := by omega
          have Hr := Lib.hid hr
          have Hbit := Lib.hid hbit
          have Hnext := Lib.hid hnext
          clear hr hbit hnext
          go_wp2_with fail
          go_roundw
          case rel =>
            refine ⟨q + 1, by omega, by go_num, ?_, ?_⟩
            · rw [Hnext.out]; go_num
            · refine (Hr.out.set (4 * j + q) ((dq : Int) % 2 == 1)).congr (fun i _ => ?_)
              by_cases h : i = 4 * j + q
              · subst h
                rw [if_pos rfl, if_pos (by omega), Hbit.out, Bool.eq_iff_iff]; simp only [beq_iff_eq]; omega
              · rw [if_neg h]; by_cases h2 : i < 4 * j + q
                · rw [if_pos h2, if_pos (by omega)]
                · rw [if_neg h2, if_neg (by omega)]
          case measure => simp [intOf]; omega
        · obtain rfl : q = 4 := by omega
          have hdq : decide (((4 : Nat) : Int) < 4) = false := by simp
          have Hr := Lib.hid hr
          clear hr
          go_wp2_with fail
          go_roundw
          case rel => exact ⟨j + 1, by omega, by go_num, Hr.out⟩
          case measure => simp [intOf]; omega
    · have hd : decide ((j : Int) < 8) = false := by simp; omega
      obtain rfl : j = 8 := by omega
      have hr' := hr.congr (g := hexBit s.data.toList n) (fun i hi => by rw [if_pos (by omega)])
      obtain ⟨hrange, hthere, hend, hbel⟩ := hr'.fin rfl
      have Hend := Lib.hid hend
      have Hbel := Lib.hid hbel
      have hlen := length_bitsC (hexBit s.data.toList n)
      have hone := all_oneCell_toArray (one_bitsC (hexBit s.data.toList n))
      generalize hLe : bitsC (hexBit s.data.toList n) = L at *
      have HL := Lib.hid hLe
      have hi := infoBitsL _ hlen
      clear hr hr' hend hbel hLe hx
      go_wp2_with (first
        | (refine wpList_load_mid rfl 108 (.tmp 5) rfl (w.heap.size + 1) 0 rfl L _ hrange Tryd.underlying108 rfl hi ?_)
        | (refine wpList_store_mid rfl 108 (.tmp 4) (.tmp 35) rfl w.heap.size 0 L.toArray rfl rfl (by simpa [hlen] using hthere) (by simpa using hi) hone ?_))
      exact bodyPost_ret (v := .agg L.toArray) (results_cell_row Tryd.results53 _ _ w.heap.size 108 L.toArray (0, 0) _ rfl Hend.out Tryd.underlying108 rfl (by simpa using hi)) rfl ⟨by rw [HL.out], Hbel.out⟩
end Go.Proofs.YtlhfdlfbnnfjjaaDoor
namespace Go.Proofs.YtlhfdlfbnnfjjaaDoor
open Go.RowKit

set_option maxRecDepth 100000 in
set_option maxHeartbeats 2000000 in
theorem pick_any (x y z : BitVec 32) (w : World) :
    Calls Tryd.prog 75 #[BV x, BV y, BV z] w fun e w' => e = .returned (BV ((x &&& y) ||| (~~~ x &&& z))) ∧ Below w.heap.size w w' := by
  unfold BV
  have hzv : ∀ w, (zeroValue 108).run Tryd.prog w = .ok (.agg (bitsC fun _ => false).toArray) w := fun _ => by kernel_rfl
  go_enter Tryd.func75, Tryd.ntmps75
  have hrz := range_block (heap_allocs [.cells (bitsV x).toArray 108, .cells (bitsV y).toArray 108, .cells (bitsV z).toArray 108, .cells (bitsC fun _ => false).toArray 108] w 2 (by simp))
  have hth := there_block (heap_allocs [.cells (bitsV x).toArray 108, .cells (bitsV y).toArray 108, .cells (bitsV z).toArray 108, .cells (bitsC fun _ => false).toArray 108, .cells (bitsC fun _ => false).toArray 108] w 4 (by simp)) 0 32 (by rw [length_bitsC]; omega)
  simp only [List.foldl_cons, List.foldl_nil] at hrz hth
  have Hrz := Lib.hid hrz
  have Hth := Lib.hid hth
  clear hrz hth
  generalize hZ : (bitsC fun _ => false) = Z at *
  have HZ := Lib.hid hZ
  clear hZ
  go_wp2_with (first
    | (refine wpList_load_mid rfl 108 (.tmp 5) rfl (w.heap.size + 1 + 1) 0 rfl (bitsV z) _ Hrz.out Tryd.underlying108 rfl (infoBitsL _ (length_bitsV z)) ?_)
    | (refine wpList_store_mid rfl 108 (.tmp 7) (.tmp 9) rfl (w.heap.size + 1 + 1 + 1 + 1) 0 (bitsV z).toArray rfl rfl (by rw [show (bitsV z).toArray.size = 32 from length_bitsV z]; exact Hth.out) (infoBitsL _ (length_bitsV z)) (all_oneCell_toArray (one_bitsC _)) ?_))
  generalize hW : World.setCells _ _ _ _ = w1
  have hZ32 : Z.length = 32 := by rw [← HZ.out, length_bitsC]
  have R : BitRel w.heap.size [x, y, z] z.getLsbD w w1 := by
    rw [← hW]
    have hh := heap_allocs [.cells (bitsV x).toArray 108, .cells (bitsV y).toArray 108, .cells (bitsV z).toArray 108, .cells Z.toArray 108, .cells Z.toArray 108] w
    have hs : ∀ i, i < 4 → (([.cells (bitsV x).toArray 108, .cells (bitsV y).toArray 108, .cells (bitsV z).toArray 108, .cells Z.toArray 108, .cells Z.toArray 108] : List Obj).foldl World.alloc w |>.setCells (w.heap.size + 4) 0 (bitsV z)).heap[w.heap.size + i]? = ([.cells (bitsV x).toArray 108, .cells (bitsV y).toArray 108, .cells (bitsV z).toArray 108, .cells Z.toArray 108, .cells Z.toArray 108] : List Obj)[i]? := fun i hi => by
      rw [World.heap_setCells_other _ _ _ _ (by simp; omega) (by omega)]; exact hh i (by simp; omega)
    refine ⟨fun i hi => ?_, ⟨fun _ => false, by rw [HZ.out]; exact hs 3 (by omega)⟩, ?_, ?_⟩
    · match i, hi with
      | 0, _ => exact hs 0 (by omega)
      | 1, _ => exact hs 1 (by omega)
      | 2, _ => exact hs 2 (by omega)
    · refine (heap_setCells (w.heap.size + 4) 108 (bitsV z) 0 Z _ (hh 4 (by simp)) (by rw [length_bitsV, hZ32]; omega)).trans ?_
      rw [over_all _ _ (by rw [length_bitsV, hZ32])]; rfl
    · exact (Kept1.setCells (b := w.heap.size + 4) _ (Or.inl rfl) _ _ (Kept1.of_below (below_allocs [_, _, _, _, _] w (Below.refl _ _) (Nat.le_refl _)))).below (by omega)
  clear hW Hrz Hth
  go_loopw [8] (fun i wr => ∃ k : Nat, k ≤ 32 ∧ i = .int .i64 k ∧ BitRel w.heap.size [x, y, z] (fun i => if i < k then ((x &&& y) ||| (~~~ x &&& z)).getLsbD i else z.getLsbD i) w wr) (fun i _ => 32 - (intOf i).toNat)
  case atStart => exact ⟨0, by omega, rfl, R.congr (fun i _ => by simp)⟩
  case round =>
    clear R
    obtain ⟨k, hk, rfl, hr⟩ := hrel
    by_cases hlt : k < 32
    · have hd : decide ((k : Int) < 32) = true := by simp; omega
      have ca : wr.cell? ⟨w.heap.size, k, none⟩ = some (.bool (x.getLsbD k)) := hr.cell 0 (by simp) k hlt
      have cb : wr.cell? ⟨w.heap.size + 1, k, none⟩ = some (.bool (y.getLsbD k)) := hr.cell 1 (by simp) k hlt
      obtain ⟨v, cv⟩ : ∃ v, wr.cell? ⟨w.heap.size + 1 + 1 + 1 + 1, k, none⟩ = some v := ⟨_, hr.outSome k hlt⟩
      have cf : wr.frozen? ⟨w.heap.size + 1 + 1 + 1 + 1, k, none⟩ = false := hr.outFree k
      have Hr := Lib.hid hr
      clear hr
      cases hxa : x.getLsbD k
      · rw [hxa] at ca
        have Hx := Lib.hid hxa
        clear hxa
        go_wp2_with fail
        go_roundw
        case rel =>
          refine ⟨k + 1, by omega, by go_num, Hr.out.congr (fun i _ => ?_)⟩
          by_cases h : i = k
          · subst h; rw [if_neg (by omega), if_pos (by omega), BitVec.getLsbD_or, BitVec.getLsbD_and, BitVec.getLsbD_and, BitVec.getLsbD_not, Hx.out]; simp [hlt]
          · by_cases h2 : i < k
            · rw [if_pos h2, if_pos (by omega)]
            · rw [if_neg h2, if_neg (by omega)]
        case measure => simp [intOf]; omega
      · rw [hxa] at ca
        generalize hya : y.getLsbD k = ya at *
        have Hx := Lib.hid hxa
        have Hy := Lib.hid hya
        clear hxa hya
        go_wp2_with fail
        go_roundw
        case rel =>
          refine ⟨k + 1, by omega, by go_num, ?_⟩
          exact (Hr.out.set k ya).congr (g := fun i => if i < k + 1 then ((x &&& y) ||| (~~~ x &&& z)).getLsbD i else z.getLsbD i) (fun i _ => by
          by_cases h : i = k
          · subst h; rw [if_pos rfl, if_pos (by omega), BitVec.getLsbD_or, BitVec.getLsbD_and, BitVec.getLsbD_and, BitVec.getLsbD_not, Hx.out, Hy.out]; simp
          · rw [if_neg h]; by_cases h2 : i < k
            · rw [if_pos h2, if_pos (by omega)]
            · rw [if_neg h2, if_neg (by omega)])
        case measure => simp [intOf]; omega
    · have hd : decide ((k : Int) < 32) = false := by simp; omega
      obtain rfl : k = 32 := by omega
      have hr' := hr.congr (g := ((x &&& y) ||| (~~~ x &&& z)).getLsbD) (fun i hi => by rw [if_pos hi])
      obtain ⟨hrange, hthere, hend, hbel⟩ := hr'.fin rfl
      have Hend := Lib.hid hend
      have Hbel := Lib.hid hbel
      have hlen := length_bitsC ((x &&& y) ||| (~~~ x &&& z)).getLsbD
      have hone := all_oneCell_toArray (one_bitsC ((x &&& y) ||| (~~~ x &&& z)).getLsbD)
      have hL : BV ((x &&& y) ||| (~~~ x &&& z)) = .agg (bitsC ((x &&& y) ||| (~~~ x &&& z)).getLsbD).toArray := rfl
      generalize bitsC ((x &&& y) ||| (~~~ x &&& z)).getLsbD = L at *
      have HL := Lib.hid hL
      have hi := infoBitsL _ hlen
      clear hr hr' hend hbel hL
      go_wp2_with (first
        | (refine wpList_load_mid rfl 108 (.tmp 7) rfl (w.heap.size + 1 + 1 + 1 + 1) 0 rfl L _ hrange Tryd.underlying108 rfl hi ?_)
        | (refine wpList_store_mid rfl 108 (.tmp 6) (.tmp 22) rfl (w.heap.size + 1 + 1 + 1) 0 L.toArray rfl rfl (by simpa [hlen] using hthere) (by simpa using hi) hone ?_))
      exact bodyPost_ret (v := .agg L.toArray) (results_cell_row Tryd.results75 _ _ (w.heap.size + 1 + 1 + 1) 108 L.toArray (0, 0) _ rfl Hend.out Tryd.underlying108 rfl (by simpa using hi)) rfl ⟨by rw [← HL.out]; rfl, Hbel.out⟩
end Go.Proofs.YtlhfdlfbnnfjjaaDoor
