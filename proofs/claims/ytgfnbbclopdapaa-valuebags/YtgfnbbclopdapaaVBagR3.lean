/- P2.1, the bags: the reference's Bag, of values of one kind. -/
import Derived.Test.YtgfnbbclopdapaaVBagS
namespace Go.Proofs.Ytgfnbbclopdapaa
open Go.RowKit

theorem ref_step_le (h : List Val) (t : Val) : (refStep h t).length ≤ h.length + 1 := by
  unfold refStep
  split
  · omega
  · simp; omega
theorem ref_fold_le (l : List Val) : ∀ h : List Val, (l.foldl refStep h).length ≤ h.length + l.length := by
  induction l with
  | nil => intro h; exact Nat.le_refl _
  | cons x l ih => intro h; have h1 := ih (refStep h x); have h2 := ref_step_le h x; simp only [List.foldl_cons, List.length_cons]; omega
theorem place_spec {h : List Val} {t : Val} {p : Nat} (hp : p < place h t) : ∃ hl : p < h.length, h[p].ord t < 0 := by
  have hl : p < h.length := Nat.lt_of_lt_of_le hp (place_le h t)
  refine ⟨hl, ?_⟩
  have := List.not_of_lt_findIdx hp
  simpa using this
theorem place_end {h : List Val} {t : Val} (hl : place h t < h.length) : ¬ h[place h t].ord t < 0 := by
  have := List.findIdx_getElem (p := fun y : Val => !decide (y.ord t < 0)) (xs := h) (w := hl)
  simp at this
  exact Int.not_lt.2 this
/-- what the reference's loop over the values keeps: the row, and the block of the answer that is made -/
structure RefRel (W5 : World) (b5 : Nat) (h : List Val) (v : Value) (wr : World) : Prop where
  own : wr.ownsRow (b5 + 1) 24 4 v h.length (cellsL h)
  blk : wr.heap[b5]? = some (.cells #[.int .i64 5, .int .i64 0, .string ⟨#[]⟩, v] 24 (0, 0))
  below : Below b5 W5 wr
  size : b5 + 1 ≤ wr.heap.size
  small : ∀ x ∈ h, x.s.size ≤ maxLen

theorem RefRel.on {W5 : World} {b5 : Nat} {h : List Val} {v : Value} {w w' : World} (r : RefRel W5 b5 h v w) (hb : Below w.heap.size w w') : RefRel W5 b5 h v w' :=
  ⟨own_on4 r.own fun g _ hg => hb.block g hg, (hb.block _ (by have := r.size; omega)).trans r.blk, r.below.trans (hb.mono (by have := r.size; omega)), by have := r.size; have := hb.size; omega, r.small⟩
set_option maxRecDepth 100000 in
set_option maxHeartbeats 2000000 in
theorem refbag_good (w : World) (l : List Val) (ad : Option Addr) (g o cp : Nat) (hl : ListAt w ad g o l) (hm : l.length ≤ 1000) (hkind : ∀ j, j < l.length → kindOk l[0]! l[j]! = true) (hord : ∀ x ∈ l, ∀ y ∈ l, x.ordS y = x.ord y) :
    Calls Try.prog 18 #[.slice ad l.length cp] w fun e w' => ∃ y ly, e = .returned (.tuple #[y.v, .int .i64 (refE l)]) ∧ RefBagIs w' l (refE l) y ly ∧ Below w.heap.size w w' := by
  have HL := Lib.hid hl
  have HJ := Lib.hid hkind
  have HO := Lib.hid hord
  have HE := Lib.hid (refE_kinds hkind)
  clear hl hkind hord
  go_enter Try.func18, Try.ntmps18
  go_wp2_with fail
  generalize hW0 : World.alloc _ _ = W0
  have h0 : Below w.heap.size w W0 := by rw [← hW0]; exact (Below.refl _ _).alloc (Nat.le_refl _) _
  have hz : W0.heap[w.heap.size]? = some (.cells #[.int .i64 0, .int .i64 0, .string ⟨#[]⟩, .slice none 0 0] 24 (0, 0)) := by rw [← hW0]; exact heap_alloc_new _ _
  have H0 := Lib.hid h0
  have HZ := Lib.hid hz
  have hs0 : w.heap.size < W0.heap.size := lt_block hz
  clear hW0 h0 hz
  go_loopw [4] (fun i wr => ∃ k : Nat, k ≤ l.length ∧ i = .int .i64 k ∧ Hid (Below W0.heap.size W0 wr)) (fun i _ => l.length - (intOf i).toNat)
  case atStart => exact ⟨0, by omega, rfl, Lib.hid (Below.refl _ _)⟩
  case round =>
    obtain ⟨k, hk, rfl, HB⟩ := hrel
    have hsr := HB.out.size
    have hbw : Below w.heap.size w wr := H0.out.trans (HB.out.mono (by omega))
    have HBw := Lib.hid hbw
    have hzr : wr.heap[w.heap.size]? = some (.cells #[.int .i64 0, .int .i64 0, .string ⟨#[]⟩, .slice none 0 0] 24 (0, 0)) := by rw [HB.out.block _ (by omega)]; exact HZ.out
    have HZr := Lib.hid hzr
    clear hbw hzr
    by_cases hlt : k < l.length
    · obtain rfl := HL.out.at' (by intro e; subst e; simp at hlt)
      obtain ⟨x, hX⟩ : ∃ x, l[k]! = x := ⟨_, rfl⟩
      obtain ⟨h, hH⟩ : ∃ h, l[0]! = h := ⟨_, rfl⟩
      have p0 := fun m : Bl wr => (HL.out.cells HBw.out k hlt m).1
      have q0 := fun m : Bl wr => (HL.out.cells HBw.out 0 (by omega) m).1
      rw [hX] at p0
      rw [hH] at q0
      simp only [Nat.zero_mul, Nat.add_zero] at q0
      have HX := Lib.hid hX
      have HH := Lib.hid hH
      clear hX hH
      have hko := HJ.out k hlt
      rw [HX.out, HH.out] at hko
      unfold kindOk at hko
      rw [Bool.and_eq_true, Bool.and_eq_true] at hko
      have hx0 : (x.k == 0) = false := by simpa using hko.1
      have hx5 : (x.k == 5) = false := by simpa using hko.2.1
      have hxh : (x.k != h.k) = false := by simpa using hko.2.2
      clear hko
      go_wp2_with fail
      refine wp_region_quietB (by kernel_rfl) (by kernel_rfl) ?_
      iterate 26 (go_big_quiet_step (fail))
      refine wpQuiet_nil ?_
      intro m
      have HBM := Lib.hid (HB.out.trans (m.below.mono HB.out.size))
      clear p0 q0
      go_wp2_with fail
      go_roundw
      case rel => exact ⟨k + 1, by omega, by go_num, HBM⟩
      case measure => simp [intOf]; omega
    · obtain rfl : k = l.length := by omega
      go_wp2_with fail
      generalize hW5 : World.alloc _ _ = W5
      have hb5 : Below wr.heap.size wr W5 := by rw [← hW5]; exact (Below.refl _ _).alloc (Nat.le_refl _) _
      have hblk5 : W5.heap[wr.heap.size]? = some (.cells #[.int .i64 5, .int .i64 0, .string ⟨#[]⟩, .slice none 0 0] 24 (0, 0)) := by rw [← hW5]; exact heap_alloc_new _ _
      obtain ⟨b5, hb5e⟩ : ∃ b5, wr.heap.size = b5 := ⟨_, rfl⟩
      have hs5 : b5 + 1 ≤ W5.heap.size := by rw [← hb5e]; exact lt_block hblk5
      have hlt5 : w.heap.size < b5 := by rw [← hb5e]; omega
      have HBw5 := Lib.hid (HBw.out.trans (hb5.mono HBw.out.size))
      have hz5 : W5.heap[w.heap.size]? = some (.cells #[.int .i64 0, .int .i64 0, .string ⟨#[]⟩, .slice none 0 0] 24 (0, 0)) := by rw [hb5.block _ (by omega)]; exact HZr.out
      have HZ5 := Lib.hid hz5
      have HR0 : Hid (RefRel W5 b5 (refTo (l.take 0)) (.slice none 0 0) W5) := Lib.hid ⟨World.ownsRow_nil _ _ _ _, by rw [← hb5e]; exact hblk5, Below.refl _ _, hs5, fun x hx => by cases hx⟩
      rw [hb5e]
      clear hW5 hb5 hblk5 hb5e hz5 HBw HZr HB hsr HZ H0 hs0 hlt hk
      go_loopw [6] (fun i wr => ∃ (k : Nat) (v : Value), k ≤ l.length ∧ i = .int .i64 k ∧ Hid (RefRel W5 b5 (refTo (l.take k)) v wr)) (fun i _ => l.length - (intOf i).toNat)
      case atStart => exact ⟨0, _, by omega, rfl, HR0⟩
      case round =>
        clear HR0
        obtain ⟨k, v, hk, rfl, HR⟩ := hrel
        by_cases hlt : k < l.length
        · obtain rfl := HL.out.at' (by intro e; subst e; simp at hlt)
          have hsr := HR.out.size
          have HBr := Lib.hid (HBw5.out.trans (HR.out.below.mono (by omega)))
          obtain ⟨x, hX⟩ : ∃ x, l[k]! = x := ⟨_, rfl⟩
          have hsn := refTo_snoc l k hlt
          rw [hX] at hsn
          have e : x = l[k] := by rw [← hX]; exact getElem!_pos l k hlt
          have hxl : x ∈ l := by rw [e]; exact List.getElem_mem _
          have hml : ∀ y ∈ refTo (l.take k), y ∈ l := fun y hy => by
            rcases mem_refTo (l.take k) [] y hy with h | h
            · cases h
            · exact List.mem_of_mem_take h
          have hlw := fun m : Bl wr => HL.out.cells HBr.out k hlt m
          rw [hX] at hlw
          obtain ⟨h, hh⟩ : ∃ h, refTo (l.take k) = h := ⟨_, rfl⟩
          rw [hh] at hsn HR hml
          have hlen1 : h.length ≤ 1000 := by have h1 := ref_fold_le (l.take k) []; rw [← hh]; unfold refTo; simp at h1; omega
          have HSN := Lib.hid hsn
          have HXL := Lib.hid hxl
          have HML := Lib.hid hml
          obtain ⟨va, vg, vc, rfl, hla, hvg⟩ := own_list HR.out.own HR.out.small
          have HLA := Lib.hid hla
          have S : Hid (∀ (q : Nat) (hq : q < h.length) (W : World), Calls Try.prog 34 #[V h[q]!.k h[q]!.i h[q]!.s h[q]!.a h[q]!.n h[q]!.c, V x.k x.i x.s x.a x.n x.c] W fun e w' => e = .returned (.int .i64 (h[q]!.ord x)) ∧ Below W.heap.size W w') := Lib.hid (by
            intro q hq W
            have hm1 : h[q]! ∈ h := by rw [getElem!_pos h q hq]; exact List.getElem_mem _
            have hl1 := HML.out _ hm1
            have := single_any h[q]!.k h[q]!.i h[q]!.s h[q]!.a h[q]!.n h[q]!.c x.k x.i x.s x.a x.n x.c W (HL.out.size _ hl1) (HL.out.size _ HXL.out)
            have he := HO.out _ hl1 _ HXL.out
            unfold Val.ordS at he
            rw [he] at this
            exact this)
          have b3 := fun m : Bl wr => (cells4 HR.out.blk m).2.2.2
          have x0 := fun m : Bl wr => (hlw m).1
          have x1 := fun m : Bl wr => (hlw m).2.1
          have x2 := fun m : Bl wr => (hlw m).2.2.1
          have x3 := fun m : Bl wr => (hlw m).2.2.2
          clear hX hsn e hxl hml hlw hh hla hvg
          go_wp2_with fail
          generalize wr = w6 at *
          go_loopw [7] (fun a wi => ∃ p : Nat, p ≤ place h x ∧ a = .int .i64 p ∧ Hid (Below w6.heap.size w6 wi)) (fun a _ => place h x - (intOf a).toNat)
          case atStart => exact ⟨0, by omega, rfl, Lib.hid (Below.refl _ _)⟩
          case round =>
            obtain ⟨p, hp, rfl, HBI⟩ := hrel
            have hple := place_le h x
            have c3 := fun m : Bl wr => b3 ⟨m.wr, HBI.out.trans (m.below.mono HBI.out.size)⟩
            have y0 := fun m : Bl wr => x0 ⟨m.wr, HBI.out.trans (m.below.mono HBI.out.size)⟩
            have y1 := fun m : Bl wr => x1 ⟨m.wr, HBI.out.trans (m.below.mono HBI.out.size)⟩
            have y2 := fun m : Bl wr => x2 ⟨m.wr, HBI.out.trans (m.below.mono HBI.out.size)⟩
            have y3 := fun m : Bl wr => x3 ⟨m.wr, HBI.out.trans (m.below.mono HBI.out.size)⟩
            have hb6 : b5 < wr.heap.size := by have := HBI.out.size; omega
            have hg6 : g < wr.heap.size := by have h1 := block_lt_of_cell (x0 ⟨w6, Below.refl _ _⟩); have h2 := HBI.out.size; simp at h1; omega
            by_cases hpl : p < place h x
            · obtain ⟨hpl2, hneg⟩ := place_spec hpl
              obtain rfl := HLA.out.at' (by intro e; subst e; simp at hpl2)
              have hcs := fun m : Bl wr => HLA.out.cells HBI.out p hpl2 m
              have T := Lib.hid (S.out p hpl2)
              have d : h[p]!.ord x < 0 := by rw [getElem!_pos h p hpl2]; exact hneg
              generalize h[p]! = y at *
              have e0 := fun m : Bl wr => (hcs m).1
              have e1 := fun m : Bl wr => (hcs m).2.1
              have e2 := fun m : Bl wr => (hcs m).2.2.1
              have e3 := fun m : Bl wr => (hcs m).2.2.2
              generalize y.ord x = od at *
              clear hcs hneg b3 x0 x1 x2 x3
              simp only [Nat.zero_add] at e0 e1 e2 e3
              unfold V at T
              go_wp2_with fail
              refine wp_region_quietB (by kernel_rfl) (by kernel_rfl) ?_
              iterate 18 (go_big_quiet_step ((go_at_call 34; with_reducible exact Calls.quiet_b (T.out _))))
              refine wpQuiet_nil ?_
              intro m
              have HBM := Lib.hid (HBI.out.trans (m.below.mono HBI.out.size))
              clear e0 e1 e2 e3 c3 y0 y1 y2 y3 T
              go_wp2_with fail
              go_roundw
              case rel => exact ⟨p + 1, by omega, by go_num, HBM⟩
              case measure => simp [intOf]; omega
            · obtain rfl : p = place h x := by omega
              have HP1 : Hid (foundAt h x (place h x) = true → refStep h x = h) := Lib.hid (fun hf => by unfold refStep; rw [hf]; rfl)
              have HP0 : Hid (foundAt h x (place h x) = false → refStep h x = h.take (place h x) ++ x :: h.drop (place h x)) := Lib.hid (fun hf => by unfold refStep; rw [hf]; rfl)
              obtain ⟨P, hP⟩ : ∃ P, place h x = P := ⟨_, rfl⟩
              rw [hP] at HP0 HP1 hple ⊢
              by_cases hin : P < h.length
              · have hend := place_end (h := h) (t := x) (by omega)
                obtain rfl := HLA.out.at' (by intro e; subst e; simp at hin)
                have hcs := fun m : Bl w6 => HLA.out.cells (Below.refl _ _) P hin m
                have T := Lib.hid (S.out _ hin)
                have d : ¬ h[P]!.ord x < 0 := by rw [getElem!_pos h P hin]; simpa [hP] using hend
                have hfd : foundAt h x P = (h[P]!.ord x == 0) := by unfold foundAt; simp [hin]
                have HFD := Lib.hid hfd
                generalize h[P]! = y at *
                generalize y.ord x = od at *
                simp only [Nat.zero_add] at hcs
                unfold V at T
                have e0 := fun m : Bl wr => (hcs ⟨m.wr, HBI.out.trans (m.below.mono HBI.out.size)⟩).1
                have e1 := fun m : Bl wr => (hcs ⟨m.wr, HBI.out.trans (m.below.mono HBI.out.size)⟩).2.1
                have e2 := fun m : Bl wr => (hcs ⟨m.wr, HBI.out.trans (m.below.mono HBI.out.size)⟩).2.2.1
                have e3 := fun m : Bl wr => (hcs ⟨m.wr, HBI.out.trans (m.below.mono HBI.out.size)⟩).2.2.2
                have HCS := Lib.hid hcs
                have HXS := Lib.hid (show ∀ m : Bl w6, _ ∧ _ ∧ _ ∧ _ ∧ _ from fun m => ⟨b3 m, x0 m, x1 m, x2 m, x3 m⟩)
                clear hcs b3 x0 x1 x2 x3 hend hfd
                go_wp2_with fail
                refine wp_region_quietB (by kernel_rfl) (by kernel_rfl) ?_
                iterate 18 (go_big_quiet_step ((go_at_call 34; with_reducible exact Calls.quiet_b (T.out _))))
                refine wpQuiet_nil ?_
                intro m
                have HBM := Lib.hid (HBI.out.trans (m.below.mono HBI.out.size))
                clear e0 e1 e2 e3 c3 y0 y1 y2 y3 HBI hb6 hg6
                generalize m.wr = w7 at *
                clear m
                have c3 := fun m : Bl w7 => (HXS.out ⟨m.wr, HBM.out.trans (m.below.mono HBM.out.size)⟩).1
                have y0 := fun m : Bl w7 => (HXS.out ⟨m.wr, HBM.out.trans (m.below.mono HBM.out.size)⟩).2.1
                have y1 := fun m : Bl w7 => (HXS.out ⟨m.wr, HBM.out.trans (m.below.mono HBM.out.size)⟩).2.2.1
                have y2 := fun m : Bl w7 => (HXS.out ⟨m.wr, HBM.out.trans (m.below.mono HBM.out.size)⟩).2.2.2.1
                have y3 := fun m : Bl w7 => (HXS.out ⟨m.wr, HBM.out.trans (m.below.mono HBM.out.size)⟩).2.2.2.2
                have e0 := fun m : Bl w7 => (HCS.out ⟨m.wr, HBM.out.trans (m.below.mono HBM.out.size)⟩).1
                have e1 := fun m : Bl w7 => (HCS.out ⟨m.wr, HBM.out.trans (m.below.mono HBM.out.size)⟩).2.1
                have e2 := fun m : Bl w7 => (HCS.out ⟨m.wr, HBM.out.trans (m.below.mono HBM.out.size)⟩).2.2.1
                have e3 := fun m : Bl w7 => (HCS.out ⟨m.wr, HBM.out.trans (m.below.mono HBM.out.size)⟩).2.2.2
                have hb6 : b5 < w7.heap.size := by have := HBM.out.size; omega
                have hg6 : g < w7.heap.size := by have h1 := block_lt_of_cell (y0 ⟨w7, Below.refl _ _⟩); simpa using h1
                have hv6 : vg < w7.heap.size := by have h1 := block_lt_of_cell (e0 ⟨w7, Below.refl _ _⟩); simpa using h1
                go_wp2_with fail
                refine wp_region_quietB (by kernel_rfl) (by kernel_rfl) ?_
                iterate 18 (go_big_quiet_step ((go_at_call 34; with_reducible exact Calls.quiet_b (T.out _))))
                refine wpQuiet_nil ?_
                intro m
                have HB8 := Lib.hid (HBM.out.trans (m.below.mono HBM.out.size))
                clear e0 e1 e2 e3 c3 y0 y1 y2 y3 HBM hb6 hg6 hv6 T HCS
                generalize m.wr = w8 at *
                clear m
                have HR8 := Lib.hid (HR.out.on HB8.out)
                have HBr8 := Lib.hid (HBr.out.trans (HB8.out.mono HBr.out.size))
                cases hod : od == 0
                case true =>
                  have e : refStep h x = h := HP1.out (by rw [HFD.out, hod])
                  go_wp2_with fail
                  go_roundw
                  case rel => exact ⟨k + 1, _, by omega, by go_num, Lib.hid (by rw [HSN.out, e]; exact HR8.out)⟩
                  case measure => simp [intOf]; omega
                have HST := Lib.hid (HP0.out (by rw [HFD.out, hod]))
                have hc8 := (cells4 HR8.out.blk ⟨w8, Below.refl _ _⟩).2.2.2
                have hs8 := HR8.out.size
                have hvc := own_cap HR8.out.own
                dsimp only at hc8
                have HSA : Hid (Src w8 (.slice (some ⟨vg, 0, none⟩) P vc) (h.take P)) := Lib.hid (by have := src_cut HR8.out.own 0 P (Nat.zero_le _) (by omega) vc; simpa using this)
                have HSB : Hid (Src w8 (.slice (some ⟨vg, P * 4, none⟩) (h.length - P) (vc - P)) (h.drop P)) := Lib.hid (by
                  have := src_cut HR8.out.own P h.length (by omega) (Nat.le_refl _) (vc - P)
                  rwa [List.take_of_length_le (by simp)] at this)
                go_wp2_with (at_builtin; refine append_vals rfl (.tmp 87) (.tmp 91) rfl w8.heap.size [] (h.take P) _ rfl ⟨World.ownsRow_nil _ _ _ _⟩ _ rfl HSA.out (by simp; omega) (Nat.le_refl _) (h.take P) rfl ?_)
                intro v1 w9 hown1 hb1
                have HO1 := Lib.hid hown1
                have HB9 := Lib.hid hb1
                have x0 := (HXS.out ⟨w9, HB8.out.trans (hb1.mono HB8.out.size)⟩).2.1
                have x1 := (HXS.out ⟨w9, HB8.out.trans (hb1.mono HB8.out.size)⟩).2.2.1
                have x2 := (HXS.out ⟨w9, HB8.out.trans (hb1.mono HB8.out.size)⟩).2.2.2.1
                have x3 := (HXS.out ⟨w9, HB8.out.trans (hb1.mono HB8.out.size)⟩).2.2.2.2
                have hs9 := hb1.size
                have hg9 : g < w9.heap.size := by have h1 := block_lt_of_cell x0; simpa using h1
                dsimp only at x0 x1 x2 x3
                clear hown1 hb1 hc8 HSA
                go_wp2_with (at_builtin; refine append_vals rfl (.tmp 93) (.tmp 98) rfl w8.heap.size (h.take P) [x] _ rfl ⟨own_on4 HO1.out.row fun g _ hg => Below.heap_alloc _ _ _ hg⟩ _ rfl (src_one (heap_alloc_new _ _)) (by simp; omega) (by simp; omega) (h.take P ++ [x]) rfl ?_)
                intro v2 w10 hown2 hb2
                have HO2 := Lib.hid hown2
                have HB10 : Hid (Below w8.heap.size w8 w10) := Lib.hid ((HB9.out.alloc hs9 _).trans hb2)
                have hs10 : w8.heap.size ≤ w10.heap.size := HB10.out.size
                have hc10 := (cells4 HR8.out.blk ⟨w10, HB10.out⟩).2.2.2
                dsimp only at hc10
                clear hown2 hb2 x0 x1 x2 x3 HO1 hg9
                go_wp2_with (at_builtin; refine append_vals rfl (.tmp 100) (.tmp 104) rfl w8.heap.size (h.take P ++ [x]) (h.drop P) _ rfl HO2.out _ rfl (HSB.out.below HB10.out) (by simp; omega) hs10 (refStep h x) (by rw [HST.out]; simp) ?_)
                intro v3 w11 hown3 hb3
                obtain ⟨a3, n3, q3, rfl⟩ := own_shape hown3.row
                have HO3 := Lib.hid hown3
                have HB11 : Hid (Below w8.heap.size w8 w11) := Lib.hid (HB10.out.trans hb3)
                have hblk := (HB11.out.block b5 (by omega)).trans HR8.out.blk
                have HK11 := Lib.hid hblk
                have hc11 := cell_block hblk 3
                have hf11 : ∀ o, w11.frozen? ⟨b5, o, none⟩ = false := fun o => by simp [World.frozen?, hblk]
                simp at hc11
                have hb11 : b5 < w11.heap.size := lt_block hblk
                clear hown3 hb3 hblk hc10 HO2
                go_wp2_with fail
                go_roundw
                case rel =>
                  refine ⟨k + 1, .slice a3 n3 q3, by omega, by go_num, Lib.hid ?_⟩
                  rw [HSN.out]
                  refine ⟨ownsRow_setCell_below (own_mono HO3.out.row (by omega)) (by show b5 < b5 + 1; omega) _, ?_, ?_, ?_, ?_⟩
                  · rw [heap_setCell_same _ _ _ _ _ _ HK11.out]; simp
                  · exact ((HR8.out.below.trans (HB11.out.mono (by omega))).setCell (Nat.le_refl _) _)
                  · have : w8.heap.size ≤ w11.heap.size := HB11.out.size
                    simp [World.setCell]; omega
                  · intro z hz
                    rcases mem_refStep hz with h1 | rfl
                    · exact HR8.out.small z h1
                    · exact HL.out.size _ HXL.out
                case measure => simp [intOf]; omega
              · obtain rfl : P = h.length := by omega
                have HST := Lib.hid (HP0.out (by unfold foundAt; simp))
                have HXS := Lib.hid (show ∀ m : Bl w6, _ ∧ _ ∧ _ ∧ _ ∧ _ from fun m => ⟨b3 m, x0 m, x1 m, x2 m, x3 m⟩)
                have hown6 := HR.out.own
                clear b3 x0 x1 x2 x3
                rcases hown6.2 with ⟨hn, hn0⟩ | ⟨g6, cap6, cur6, e6, _⟩
                · obtain rfl : h = [] := List.eq_nil_of_length_eq_zero hn0
                  obtain ⟨rfl, rfl⟩ : va = none ∧ vc = 0 := by injection hn with h1 h2 h3; exact ⟨h1, h3⟩
                  clear hown6 hn hn0
                  simp only [List.length_nil] at *
                  go_wp2_with fail
                  refine wp_region_quietB (by kernel_rfl) (by kernel_rfl) ?_
                  iterate 18 (go_big_quiet_step (fail))
                  refine wpQuiet_nil ?_
                  intro m
                  have HBM := Lib.hid (HBI.out.trans (m.below.mono HBI.out.size))
                  clear c3 y0 y1 y2 y3 HBI hb6 hg6
                  generalize m.wr = w7 at *
                  clear m
                  have c3 := fun m : Bl w7 => (HXS.out ⟨m.wr, HBM.out.trans (m.below.mono HBM.out.size)⟩).1
                  have hb6 : b5 < w7.heap.size := by have := HBM.out.size; omega
                  go_wp2_with fail
                  refine wp_region_quietB (by kernel_rfl) (by kernel_rfl) ?_
                  iterate 18 (go_big_quiet_step (fail))
                  refine wpQuiet_nil ?_
                  intro m
                  have HB8 := Lib.hid (HBM.out.trans (m.below.mono HBM.out.size))
                  clear c3 HBM hb6
                  generalize m.wr = w8 at *
                  clear m
                  have HR8 := Lib.hid (HR.out.on HB8.out)
                  have HBr8 := Lib.hid (HBr.out.trans (HB8.out.mono HBr.out.size))
                  have hc8 := (cells4 HR8.out.blk ⟨w8, Below.refl _ _⟩).2.2.2
                  have hs8 := HR8.out.size
                  dsimp only at hc8
                  have HSA : Hid (Src w8 (.slice none 0 0) []) := Lib.hid (.inl ⟨rfl, rfl⟩)
                  have HSB := HSA
                  have x0 := (HXS.out ⟨w8, HB8.out⟩).2.1
                  have x1 := (HXS.out ⟨w8, HB8.out⟩).2.2.1
                  have x2 := (HXS.out ⟨w8, HB8.out⟩).2.2.2.1
                  have x3 := (HXS.out ⟨w8, HB8.out⟩).2.2.2.2
                  have hg9 : g < w8.heap.size := by have h1 := block_lt_of_cell x0; simpa using h1
                  dsimp only at x0 x1 x2 x3
                  go_wp2_with (at_builtin; refine append_vals rfl (.tmp 93) (.tmp 98) rfl w8.heap.size [] [x] _ rfl ⟨World.ownsRow_nil _ _ _ _⟩ _ rfl (src_one (heap_alloc_new _ _)) (by simp) (by simp) [x] rfl ?_)
                  intro v2 w10 hown2 hb2
                  have HO2 := Lib.hid hown2
                  have HB10 : Hid (Below w8.heap.size w8 w10) := Lib.hid (((Below.refl _ _).alloc (Nat.le_refl _) _).trans hb2)
                  have hs10 : w8.heap.size ≤ w10.heap.size := HB10.out.size
                  have hc10 := (cells4 HR8.out.blk ⟨w10, HB10.out⟩).2.2.2
                  dsimp only at hc10
                  clear hown2 hb2 x0 x1 x2 x3 hg9
                  go_wp2_with (at_builtin; refine append_vals rfl (.tmp 100) (.tmp 104) rfl w8.heap.size [x] [] _ rfl HO2.out _ rfl (HSB.out.below HB10.out) (by simp) hs10 (refStep [] x) (by rw [HST.out]; simp) ?_)
                  intro v3 w11 hown3 hb3
                  obtain ⟨a3, n3, q3, rfl⟩ := own_shape hown3.row
                  have HO3 := Lib.hid hown3
                  have HB11 : Hid (Below w8.heap.size w8 w11) := Lib.hid (HB10.out.trans hb3)
                  have hblk := (HB11.out.block b5 (by omega)).trans HR8.out.blk
                  have HK11 := Lib.hid hblk
                  have hc11 := cell_block hblk 3
                  have hf11 : ∀ o, w11.frozen? ⟨b5, o, none⟩ = false := fun o => by simp [World.frozen?, hblk]
                  simp at hc11
                  have hb11 : b5 < w11.heap.size := lt_block hblk
                  clear hown3 hb3 hblk hc10 HO2
                  go_wp2_with fail
                  go_roundw
                  case rel =>
                    refine ⟨k + 1, .slice a3 n3 q3, by omega, by go_num, Lib.hid ?_⟩
                    rw [HSN.out]
                    refine ⟨ownsRow_setCell_below (own_mono HO3.out.row (by omega)) (by show b5 < b5 + 1; omega) _, ?_, ?_, ?_, ?_⟩
                    · rw [heap_setCell_same _ _ _ _ _ _ HK11.out]; simp
                    · exact ((HR8.out.below.trans (HB11.out.mono (by omega))).setCell (Nat.le_refl _) _)
                    · have : w8.heap.size ≤ w11.heap.size := HB11.out.size
                      simp [World.setCell]; omega
                    · intro z hz
                      rcases mem_refStep hz with h1 | rfl
                      · exact HR8.out.small z h1
                      · exact HL.out.size _ HXL.out
                  case measure => simp [intOf]; omega
                obtain ⟨rfl, rfl⟩ : va = some ⟨g6, 0, none⟩ ∧ vc = cap6 := by injection e6 with h1 h2 h3; exact ⟨h1, h3⟩
                clear hown6 e6
                go_wp2_with fail
                refine wp_region_quietB (by kernel_rfl) (by kernel_rfl) ?_
                iterate 18 (go_big_quiet_step (fail))
                refine wpQuiet_nil ?_
                intro m
                have HBM := Lib.hid (HBI.out.trans (m.below.mono HBI.out.size))
                clear c3 y0 y1 y2 y3 HBI hb6 hg6
                generalize m.wr = w7 at *
                clear m
                have c3 := fun m : Bl w7 => (HXS.out ⟨m.wr, HBM.out.trans (m.below.mono HBM.out.size)⟩).1
                have hb6 : b5 < w7.heap.size := by have := HBM.out.size; omega
                go_wp2_with fail
                refine wp_region_quietB (by kernel_rfl) (by kernel_rfl) ?_
                iterate 18 (go_big_quiet_step (fail))
                refine wpQuiet_nil ?_
                intro m
                have HB8 := Lib.hid (HBM.out.trans (m.below.mono HBM.out.size))
                clear c3 HBM hb6
                generalize m.wr = w8 at *
                clear m
                have HR8 := Lib.hid (HR.out.on HB8.out)
                have HBr8 := Lib.hid (HBr.out.trans (HB8.out.mono HBr.out.size))
                have hc8 := (cells4 HR8.out.blk ⟨w8, Below.refl _ _⟩).2.2.2
                have hs8 := HR8.out.size
                have hvc := own_cap HR8.out.own
                dsimp only at hc8
                have HSA : Hid (Src w8 (.slice (some ⟨g6, 0, none⟩) h.length vc) h) := Lib.hid (by have := src_cut HR8.out.own 0 h.length (Nat.zero_le _) (Nat.le_refl _) vc; simpa using this)
                go_wp2_with (at_builtin; refine append_vals rfl (.tmp 87) (.tmp 91) rfl w8.heap.size [] h _ rfl ⟨World.ownsRow_nil _ _ _ _⟩ _ rfl HSA.out (by simp; omega) (Nat.le_refl _) h rfl ?_)
                intro v1 w9 hown1 hb1
                have HO1 := Lib.hid hown1
                have HB9 := Lib.hid hb1
                have x0 := (HXS.out ⟨w9, HB8.out.trans (hb1.mono HB8.out.size)⟩).2.1
                have x1 := (HXS.out ⟨w9, HB8.out.trans (hb1.mono HB8.out.size)⟩).2.2.1
                have x2 := (HXS.out ⟨w9, HB8.out.trans (hb1.mono HB8.out.size)⟩).2.2.2.1
                have x3 := (HXS.out ⟨w9, HB8.out.trans (hb1.mono HB8.out.size)⟩).2.2.2.2
                have hs9 := hb1.size
                have hg9 : g < w9.heap.size := by have h1 := block_lt_of_cell x0; simpa using h1
                dsimp only at x0 x1 x2 x3
                clear hown1 hb1 hc8 HSA
                go_wp2_with (at_builtin; refine append_vals rfl (.tmp 93) (.tmp 98) rfl w8.heap.size h [x] _ rfl ⟨own_on4 HO1.out.row fun g _ hg => Below.heap_alloc _ _ _ hg⟩ _ rfl (src_one (heap_alloc_new _ _)) (by simp; omega) (by simp; omega) (h ++ [x]) rfl ?_)
                intro v2 w10 hown2 hb2
                have HO2 := Lib.hid hown2
                have HB10 : Hid (Below w8.heap.size w8 w10) := Lib.hid ((HB9.out.alloc hs9 _).trans hb2)
                have hs10 : w8.heap.size ≤ w10.heap.size := HB10.out.size
                have hc10 := (cells4 HR8.out.blk ⟨w10, HB10.out⟩).2.2.2
                dsimp only at hc10
                clear hown2 hb2 x0 x1 x2 x3 HO1 hg9
                by_cases hvl : vc = h.length
                all_goals
                  go_wp2_with (at_builtin; refine append_vals rfl (.tmp 100) (.tmp 104) rfl w8.heap.size (h ++ [x]) [] _ rfl HO2.out _ rfl src_nil (by simp; omega) hs10 (refStep h x) (by rw [HST.out]; simp) ?_)
                  intro v3 w11 hown3 hb3
                  obtain ⟨a3, n3, q3, rfl⟩ := own_shape hown3.row
                  have HO3 := Lib.hid hown3
                  have HB11 : Hid (Below w8.heap.size w8 w11) := Lib.hid (HB10.out.trans hb3)
                  have hblk := (HB11.out.block b5 (by omega)).trans HR8.out.blk
                  have HK11 := Lib.hid hblk
                  have hc11 := cell_block hblk 3
                  have hf11 : ∀ o, w11.frozen? ⟨b5, o, none⟩ = false := fun o => by simp [World.frozen?, hblk]
                  simp at hc11
                  have hb11 : b5 < w11.heap.size := lt_block hblk
                  clear hown3 hb3 hblk hc10 HO2
                  go_wp2_with fail
                  go_roundw
                  case rel =>
                    refine ⟨k + 1, .slice a3 n3 q3, by omega, by go_num, Lib.hid ?_⟩
                    rw [HSN.out]
                    refine ⟨ownsRow_setCell_below (own_mono HO3.out.row (by omega)) (by show b5 < b5 + 1; omega) _, ?_, ?_, ?_, ?_⟩
                    · rw [heap_setCell_same _ _ _ _ _ _ HK11.out]; simp
                    · exact ((HR8.out.below.trans (HB11.out.mono (by omega))).setCell (Nat.le_refl _) _)
                    · have : w8.heap.size ≤ w11.heap.size := HB11.out.size
                      simp [World.setCell]; omega
                    · intro z hz
                      rcases mem_refStep hz with h1 | rfl
                      · exact HR8.out.small z h1
                      · exact HL.out.size _ HXL.out
                  case measure => simp [intOf]; omega
        · obtain rfl : k = l.length := by omega
          have hrl : refTo (l.take l.length) = refTo l := by rw [List.take_length]
          rw [hrl] at HR
          have hsr := HR.out.size
          have HBr := Lib.hid (HBw5.out.trans (HR.out.below.mono (by omega)))
          have hz' : wr.heap[w.heap.size]? = some (.cells #[.int .i64 0, .int .i64 0, .string ⟨#[]⟩, .slice none 0 0] 24 (0, 0)) := by rw [HR.out.below.block _ (by omega)]; exact HZ5.out
          obtain ⟨va, vg, vc, rfl, hla, hvg⟩ := own_list HR.out.own HR.out.small
          have HLA := Lib.hid hla
          have HVG := Lib.hid hvg
          have z0 := cell_block hz' 0
          have z1 := cell_block hz' 1
          have z2 := cell_block hz' 2
          have z3 := cell_block hz' 3
          have zf : ∀ o, wr.frozen? ⟨w.heap.size, o, none⟩ = false := fun o => by simp [World.frozen?, hz']
          have o0 := cell_block HR.out.blk 0
          have o1 := cell_block HR.out.blk 1
          have o2 := cell_block HR.out.blk 2
          have o3 := cell_block HR.out.blk 3
          simp at z0 z1 z2 z3 o0 o1 o2 o3
          have hlr : (refTo l).length ≤ 1000 := by have h1 := ref_fold_le l []; unfold refTo; simp at h1; omega
          clear hla hvg hz' hrl
          by_cases h16 : 16 < (refTo l).length
          · have HE' : Hid (refE l = 13) := Lib.hid (by rw [HE.out, if_pos h16])
            go_wp2_with fail
            exact bodyPost_ret (v := .tuple #[(⟨0, 0, ⟨#[]⟩, none, 0, 0⟩ : Val).v, .int .i64 13]) (by simp [results, Try.results18, go_sem, z0, z1, z2, z3, Val.v, V]) rfl ⟨_, _, by rw [HE'.out], refBagIs_bad (by rw [HE'.out]; decide), below_set4 HBr.out _ (Nat.le_refl _) _ _ _ _⟩
          · have HE' : Hid (refE l = 0) := Lib.hid (by rw [HE.out, if_neg h16])
            go_wp2_with fail
            exact bodyPost_ret (v := .tuple #[(⟨5, 0, ⟨#[]⟩, va, (refTo l).length, vc⟩ : Val).v, .int .i64 0]) (by simp [results, Try.results18, go_sem, z0, z1, z2, z3, Val.v, V]) rfl
              ⟨⟨5, 0, ⟨#[]⟩, va, (refTo l).length, vc⟩, refTo l, by rw [HE'.out], ⟨⟨⟨vg, 0, HLA.out.set4 (fun hne => by have := HVG.out hne; omega) _ _ _ _⟩, rfl, Nat.zero_le _, by show (refTo l).length ≤ maxLen; unfold maxLen; omega⟩, fun _ => ⟨rfl, rfl, rfl, rfl⟩, fun h => absurd HE'.out h⟩, below_set4 HBr.out _ (Nat.le_refl _) _ _ _ _⟩
end Go.Proofs.Ytgfnbbclopdapaa
