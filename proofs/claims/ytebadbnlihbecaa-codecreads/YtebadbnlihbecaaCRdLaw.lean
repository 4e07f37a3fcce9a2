/- P3.2: whatever bytes are read by whatever parts: the law. -/
import Derived.Test.YtebadbnlihbecaaCRdMath
namespace Go.Proofs.Ytebadbnlihbecaa
open Go.RowKit

theorem heap_at {w : World} {o : Obj} {n : Nat} (h : n = w.heap.size) : (w.alloc o).heap[n]? = some o := by rw [h]; exact heap_alloc_new _ _

set_option maxRecDepth 100000 in
set_option maxHeartbeats 1000000 in
theorem reads_big (w : World) (ab aq : Option Addr) (cb cq nb nq : Nat) (h : (1000 : Int) < nb ∨ (20 : Int) < nq) (hb : nb ≤ maxLen) (hq : nq ≤ maxLen) :
    Calls Try.prog 4 #[.slice ab nb cb, .slice aq nq cq] w fun e w' => e = .returned (.bool true) ∧ Below w.heap.size w w' := by
  unfold maxLen at hb hq
  go_enter Try.func4, Try.ntmps4
  go_wp2_with fail
  refine (awake_any w).mono ?_
  rintro e w1 ⟨rfl, hb⟩
  have HB1 := Lib.hid hb
  clear hb
  by_cases hle : (1000 : Int) < nb
  · go_wp2_with fail
    refine (awake_any _).mono ?_
    rintro e w3 ⟨rfl, hb⟩
    have HB3 := Lib.hid (HB1.out.trans (hb.mono HB1.out.size))
    clear hb HB1
    go_wp2_with fail
    go_ret
    exact ⟨rfl, HB3.out⟩
  · have hle2 : (20 : Int) < nq := by omega
    go_wp2_with fail
    refine (awake_any _).mono ?_
    rintro e w3 ⟨rfl, hb⟩
    have HB3 := Lib.hid (HB1.out.trans (hb.mono HB1.out.size))
    clear hb HB1
    go_wp2_with fail
    go_ret
    exact ⟨rfl, HB3.out⟩

set_option maxRecDepth 100000 in
set_option maxHeartbeats 8000000 in
theorem reads_small (w : World) (ab aq : Option Addr) (cb cq : Nat) (l qs : List UInt8) (hv : BSrc w (.slice ab l.length cb) l) (hq : BSrc w (.slice aq qs.length cq) qs) (hl : l.length ≤ 1000) (hn : qs.length ≤ 20) :
    Calls Try.prog 4 #[.slice ab l.length cb, .slice aq qs.length cq] w fun e w' => e = .returned (.bool true) ∧ Below w.heap.size w w' := by
  have HV := Lib.hid hv
  have HQ : Hid (∀ k (hk : k < qs.length), ∃ g o, aq = some ⟨g, o, none⟩ ∧ w.cell? ⟨g, o + k, none⟩ = some (.int .u8 (qs[k].toNat : Int))) := Lib.hid (by
    intro k hk
    rcases hq with ⟨_, _, _, rfl⟩ | ⟨g, o, cp, e, hc⟩
    · simp at hk
    · injection e with e1 e2 e3
      exact ⟨g, o, e1, hc k hk⟩)
  have HM := Lib.hid (show l.length ≤ maxLen by unfold maxLen; omega)
  clear hv hq
  go_enter Try.func4, Try.ntmps4
  go_wp2_with fail
  refine (awake_any w).mono ?_
  rintro e w1 ⟨rfl, hb⟩
  have HB1 := Lib.hid hb
  clear hb
  have RD := Lib.hid (read_any w1 _ l HM.out (HV.out.below HB1.out))
  go_wp2_with fail
  refine RD.out.mono ?_
  rintro e w2 ⟨rfl, ht2, hb2⟩
  have HB2 := Lib.hid (HB1.out.trans (hb2.mono HB1.out.size))
  have hs1 := HB1.out.size
  obtain ⟨t, hte⟩ : ∃ t, w1.heap.size = t := ⟨_, rfl⟩
  rw [hte] at ht2 hs1 ⊢
  have HR2 : Hid (ReadRel w t 69 l (.slice none 0 0) [] (some ⟨l.toArray⟩) w2) := Lib.hid ⟨⟨World.ownsRow_nil _ _ _ _⟩, ht2, HB2.out, (fun p hp => by cases hp), (fun p hp => by cases hp), (fun p hp => by cases hp), (fun c hc => ⟨(fun p hp => by cases hp), (by cases hc; simp [flatB])⟩)⟩
  clear ht2 hb2 RD hte HB1 HB2
  go_wp2_with fail
  go_loopw [6, 7] (fun v i wr => ∃ (k : Nat) (ps : List (PartV × List Val)) (st : Option ByteArray), k ≤ qs.length ∧ ps.length = k ∧ i = .int .i64 k ∧ Hid (ReadRel w t 69 l v ps st wr)) (fun _ i _ => qs.length - (intOf i).toNat)
  case atStart => exact ⟨0, [], _, by omega, rfl, rfl, HR2⟩
  case round =>
    clear HR2
    obtain ⟨k, ps, st, hk, hpl, rfl, HR⟩ := hrel
    by_cases hlt : k < qs.length
    · obtain ⟨g, o, rfl, hc⟩ := HQ.out k hlt
      have hcr := (HR.out.below.cell (block_lt_of_cell hc)).trans hc
      have hq8 := (qs[k]).toNat_lt
      generalize (qs[k]).toNat = q at *
      have hgw : g < wr.heap.size := block_lt_of_cell hcr
      have htw : t < wr.heap.size := HR.out.tape.lt
      clear hc
      obtain ⟨r, hr⟩ : ∃ r, q % 8 = r := ⟨_, rfl⟩
      have hr8 : r < 8 := by omega
      have hri : (q : Int) % 8 = (r : Int) := by omega
      obtain ⟨W1, hW1⟩ : ∃ W1, wr.alloc (.cells #[.int .u8 (q : Int), .int .i64 0, .string ⟨#[]⟩, .int .i64 0, .int .i64 0, .string ⟨#[]⟩, .slice none 0 0] 35) = W1 := ⟨_, rfl⟩
      have hB : Below wr.heap.size wr W1 := by rw [← hW1]; exact (Below.refl _ _).alloc (Nat.le_refl _) _
      have hz : W1.heap[wr.heap.size]? = some (.cells #[.int .u8 (q : Int), .int .i64 0, .string ⟨#[]⟩, .int .i64 0, .int .i64 0, .string ⟨#[]⟩, .slice none 0 0] 35 (0, 0)) := by rw [← hW1]; exact heap_alloc_new _ _
      have HW1 := Lib.hid hW1
      have HB := Lib.hid hB
      have HZ := Lib.hid hz
      have HT1 := Lib.hid (HR.out.tape.below hB)
      have hl1 : wr.heap.size < W1.heap.size := lt_block hz
      clear hW1 hB hz
      obtain rfl | rfl | rfl | rfl | rfl | rfl | rfl | rfl : r = 0 ∨ r = 1 ∨ r = 2 ∨ r = 3 ∨ r = 4 ∨ r = 5 ∨ r = 6 ∨ r = 7 := by omega
      · have C := Lib.hid (inU8_any W1 t 69 st HT1.out)
        have hnl := numM_lt st 1
        have MA := Lib.hid (math_num (st := st) 1 0 (.inl ⟨rfl, rfl⟩) q hr)
        generalize numM st 1 = rn at *
        go_wp2_with fail
        rw [HW1.out]
        refine C.out.mono ?_
        rintro e w3 ⟨rfl, ht, hk3⟩
        have hz3 := (hk3.block _ hl1 (by omega)).trans HZ.out
        have p0 := cell_block hz3 0
        have p1 := cell_block hz3 1
        have p2 := cell_block hz3 2
        have p3 := cell_block hz3 3
        have p4 := cell_block hz3 4
        have p5 := cell_block hz3 5
        have p6 := cell_block hz3 6
        simp at p0 p1 p2 p3 p4 p5 p6
        have zf : ∀ o, w3.frozen? ⟨wr.heap.size, o, none⟩ = false := fun o => by simp [World.frozen?, hz3]
        have hl3 : wr.heap.size < w3.heap.size := lt_block hz3
        have HK3 := Lib.hid (below_kept HB.out hk3)
        have HT3 := Lib.hid ht
        have S : Hid (Step wr t 69 st rn.2 ⟨q, (rn.1 : Int), ⟨#[]⟩, noV⟩ [] (w3.setCell ⟨wr.heap.size, 1, none⟩ (.int .i64 ((rn.1 : Int))))) := Lib.hid ⟨HT3.out.set1 wr.heap.size 1 (by omega) _, HK3.out.setCell _ (.inr (Nat.le_refl _)) _, partOk_bare _ q _ _ (by omega) (by omega) (by omega) (by decide), fun _ _ hne => absurd rfl hne, MA.out⟩
        clear ht hk3 hz3 C MA HK3 HT3
        go_wp2_with (at_builtin; go_loud (refine append_part rfl (.tmp 87) (.tmp 89) rfl (t + 1) ps (⟨q, (rn.1 : Int), ⟨#[]⟩, noV⟩, []) _ rfl (read_own HR.out S.out _) _ rfl (heap_at (by simp [World.setCell])) (by omega) (by rw [World.size_alloc]; have := S.out.kept.size; omega) ?_))
        intro v6 w6 hown hgr hblk
        have HR6 := Lib.hid (read_step hs1 HR.out S.out _ hown hgr (by simpa [World.setCell] using hblk))
        clear hown hgr hblk S p0 p1 p2 p3 p4 p5 p6 zf HT1 HZ HB HW1
        go_wp2_with fail
        go_roundw
        case rel => exact ⟨k + 1, ps ++ [(⟨q, (rn.1 : Int), ⟨#[]⟩, noV⟩, [])], _, by omega, by rw [List.length_append, hpl]; rfl, by go_num, HR6⟩
        case measure => simp [intOf]; omega
      · have C := Lib.hid (inU16_any W1 t 69 st HT1.out)
        have hnl := numM_lt st 2
        have MA := Lib.hid (math_num (st := st) 2 1 (.inr (.inl ⟨rfl, rfl⟩)) q hr)
        generalize numM st 2 = rn at *
        go_wp2_with fail
        rw [HW1.out]
        refine C.out.mono ?_
        rintro e w3 ⟨rfl, ht, hk3⟩
        have hz3 := (hk3.block _ hl1 (by omega)).trans HZ.out
        have p0 := cell_block hz3 0
        have p1 := cell_block hz3 1
        have p2 := cell_block hz3 2
        have p3 := cell_block hz3 3
        have p4 := cell_block hz3 4
        have p5 := cell_block hz3 5
        have p6 := cell_block hz3 6
        simp at p0 p1 p2 p3 p4 p5 p6
        have zf : ∀ o, w3.frozen? ⟨wr.heap.size, o, none⟩ = false := fun o => by simp [World.frozen?, hz3]
        have hl3 : wr.heap.size < w3.heap.size := lt_block hz3
        have HK3 := Lib.hid (below_kept HB.out hk3)
        have HT3 := Lib.hid ht
        have S : Hid (Step wr t 69 st rn.2 ⟨q, (rn.1 : Int), ⟨#[]⟩, noV⟩ [] (w3.setCell ⟨wr.heap.size, 1, none⟩ (.int .i64 ((rn.1 : Int))))) := Lib.hid ⟨HT3.out.set1 wr.heap.size 1 (by omega) _, HK3.out.setCell _ (.inr (Nat.le_refl _)) _, partOk_bare _ q _ _ (by omega) (by omega) (by omega) (by decide), fun _ _ hne => absurd rfl hne, MA.out⟩
        clear ht hk3 hz3 C MA HK3 HT3
        go_wp2_with (at_builtin; go_loud (refine append_part rfl (.tmp 87) (.tmp 89) rfl (t + 1) ps (⟨q, (rn.1 : Int), ⟨#[]⟩, noV⟩, []) _ rfl (read_own HR.out S.out _) _ rfl (heap_at (by simp [World.setCell])) (by omega) (by rw [World.size_alloc]; have := S.out.kept.size; omega) ?_))
        intro v6 w6 hown hgr hblk
        have HR6 := Lib.hid (read_step hs1 HR.out S.out _ hown hgr (by simpa [World.setCell] using hblk))
        clear hown hgr hblk S p0 p1 p2 p3 p4 p5 p6 zf HT1 HZ HB HW1
        go_wp2_with fail
        go_roundw
        case rel => exact ⟨k + 1, ps ++ [(⟨q, (rn.1 : Int), ⟨#[]⟩, noV⟩, [])], _, by omega, by rw [List.length_append, hpl]; rfl, by go_num, HR6⟩
        case measure => simp [intOf]; omega
      · have C := Lib.hid (inU32_any W1 t 69 st HT1.out)
        have hnl := numM_lt st 4
        have MA := Lib.hid (math_num (st := st) 4 2 (.inr (.inr ⟨rfl, rfl⟩)) q hr)
        generalize numM st 4 = rn at *
        go_wp2_with fail
        rw [HW1.out]
        refine C.out.mono ?_
        rintro e w3 ⟨rfl, ht, hk3⟩
        have hz3 := (hk3.block _ hl1 (by omega)).trans HZ.out
        have p0 := cell_block hz3 0
        have p1 := cell_block hz3 1
        have p2 := cell_block hz3 2
        have p3 := cell_block hz3 3
        have p4 := cell_block hz3 4
        have p5 := cell_block hz3 5
        have p6 := cell_block hz3 6
        simp at p0 p1 p2 p3 p4 p5 p6
        have zf : ∀ o, w3.frozen? ⟨wr.heap.size, o, none⟩ = false := fun o => by simp [World.frozen?, hz3]
        have hl3 : wr.heap.size < w3.heap.size := lt_block hz3
        have HK3 := Lib.hid (below_kept HB.out hk3)
        have HT3 := Lib.hid ht
        have S : Hid (Step wr t 69 st rn.2 ⟨q, (rn.1 : Int), ⟨#[]⟩, noV⟩ [] (w3.setCell ⟨wr.heap.size, 1, none⟩ (.int .i64 ((rn.1 : Int))))) := Lib.hid ⟨HT3.out.set1 wr.heap.size 1 (by omega) _, HK3.out.setCell _ (.inr (Nat.le_refl _)) _, partOk_bare _ q _ _ (by omega) (by omega) (by omega) (by decide), fun _ _ hne => absurd rfl hne, MA.out⟩
        clear ht hk3 hz3 C MA HK3 HT3
        go_wp2_with (at_builtin; go_loud (refine append_part rfl (.tmp 87) (.tmp 89) rfl (t + 1) ps (⟨q, (rn.1 : Int), ⟨#[]⟩, noV⟩, []) _ rfl (read_own HR.out S.out _) _ rfl (heap_at (by simp [World.setCell])) (by omega) (by rw [World.size_alloc]; have := S.out.kept.size; omega) ?_))
        intro v6 w6 hown hgr hblk
        have HR6 := Lib.hid (read_step hs1 HR.out S.out _ hown hgr (by simpa [World.setCell] using hblk))
        clear hown hgr hblk S p0 p1 p2 p3 p4 p5 p6 zf HT1 HZ HB HW1
        go_wp2_with fail
        go_roundw
        case rel => exact ⟨k + 1, ps ++ [(⟨q, (rn.1 : Int), ⟨#[]⟩, noV⟩, [])], _, by omega, by rw [List.length_append, hpl]; rfl, by go_num, HR6⟩
        case measure => simp [intOf]; omega
      · have C := Lib.hid (inI64_any W1 t 69 st HT1.out)
        have hnl := numM_lt st 8
        have MA := Lib.hid (math_i64 (st := st) q hr)
        generalize numM st 8 = rn at *
        go_wp2_with fail
        rw [HW1.out]
        refine C.out.mono ?_
        rintro e w3 ⟨rfl, ht, hk3⟩
        have hz3 := (hk3.block _ hl1 (by omega)).trans HZ.out
        have p0 := cell_block hz3 0
        have p1 := cell_block hz3 1
        have p2 := cell_block hz3 2
        have p3 := cell_block hz3 3
        have p4 := cell_block hz3 4
        have p5 := cell_block hz3 5
        have p6 := cell_block hz3 6
        simp at p0 p1 p2 p3 p4 p5 p6
        have zf : ∀ o, w3.frozen? ⟨wr.heap.size, o, none⟩ = false := fun o => by simp [World.frozen?, hz3]
        have hl3 : wr.heap.size < w3.heap.size := lt_block hz3
        have HK3 := Lib.hid (below_kept HB.out hk3)
        have HT3 := Lib.hid ht
        have S : Hid (Step wr t 69 st rn.2 ⟨q, wrap64 (rn.1 : Int), ⟨#[]⟩, noV⟩ [] (w3.setCell ⟨wr.heap.size, 1, none⟩ (.int .i64 (wrap64 (rn.1 : Int))))) := Lib.hid ⟨HT3.out.set1 wr.heap.size 1 (by omega) _, HK3.out.setCell _ (.inr (Nat.le_refl _)) _, partOk_bare _ q _ _ (by omega) (wrap_ok _).1 (wrap_ok _).2 (by decide), fun _ _ hne => absurd rfl hne, MA.out⟩
        clear ht hk3 hz3 C MA HK3 HT3
        go_wp2_with (at_builtin; go_loud (refine append_part rfl (.tmp 87) (.tmp 89) rfl (t + 1) ps (⟨q, wrap64 (rn.1 : Int), ⟨#[]⟩, noV⟩, []) _ rfl (read_own HR.out S.out _) _ rfl (heap_at (by simp [World.setCell])) (by omega) (by rw [World.size_alloc]; have := S.out.kept.size; omega) ?_))
        intro v6 w6 hown hgr hblk
        have HR6 := Lib.hid (read_step hs1 HR.out S.out _ hown hgr (by simpa [World.setCell] using hblk))
        clear hown hgr hblk S p0 p1 p2 p3 p4 p5 p6 zf HT1 HZ HB HW1
        go_wp2_with fail
        go_roundw
        case rel => exact ⟨k + 1, ps ++ [(⟨q, wrap64 (rn.1 : Int), ⟨#[]⟩, noV⟩, [])], _, by omega, by rw [List.length_append, hpl]; rfl, by go_num, HR6⟩
        case measure => simp [intOf]; omega
      · have C := Lib.hid (inFlag_any W1 t 69 st HT1.out)
        have MA := Lib.hid (fun n hn => math_flag (st := st) q hr n hn)
        generalize flagM st = rn at *
        obtain ⟨f, st'⟩ := rn
        dsimp only at C MA
        go_wp2_with fail
        rw [HW1.out]
        refine C.out.mono ?_
        rintro e w3 ⟨rfl, ht, hk3⟩
        have hz3 := (hk3.block _ hl1 (by omega)).trans HZ.out
        have p0 := cell_block hz3 0
        have p1 := cell_block hz3 1
        have p2 := cell_block hz3 2
        have p3 := cell_block hz3 3
        have p4 := cell_block hz3 4
        have p5 := cell_block hz3 5
        have p6 := cell_block hz3 6
        simp at p0 p1 p2 p3 p4 p5 p6
        have zf : ∀ o, w3.frozen? ⟨wr.heap.size, o, none⟩ = false := fun o => by simp [World.frozen?, hz3]
        have hl3 : wr.heap.size < w3.heap.size := lt_block hz3
        have HK3 := Lib.hid (below_kept HB.out hk3)
        have HT3 := Lib.hid ht
        clear ht hk3 C
        cases f
        · have S : Hid (Step wr t 69 st st' ⟨q, 0, ⟨#[]⟩, noV⟩ [] w3) := Lib.hid ⟨HT3.out, HK3.out, partOk_bare _ q _ _ (by omega) (by omega) (by omega) (by decide), fun _ _ hne => absurd rfl hne, MA.out 0 rfl⟩
          clear hz3 MA HK3 HT3
          go_wp2_with (at_builtin; go_loud (refine append_part rfl (.tmp 87) (.tmp 89) rfl (t + 1) ps (⟨q, 0, ⟨#[]⟩, noV⟩, []) _ rfl (read_own HR.out S.out _) _ rfl (heap_at (by simp)) (by omega) (by rw [World.size_alloc]; have := S.out.kept.size; omega) ?_))
          intro v6 w6 hown hgr hblk
          have HR6 := Lib.hid (read_step hs1 HR.out S.out _ hown hgr (by simpa [World.setCell] using hblk))
          clear hown hgr hblk S p0 p1 p2 p3 p4 p5 p6 zf HT1 HZ HB HW1
          go_wp2_with fail
          go_roundw
          case rel => exact ⟨k + 1, ps ++ [(⟨q, 0, ⟨#[]⟩, noV⟩, [])], _, by omega, by rw [List.length_append, hpl]; rfl, by go_num, HR6⟩
          case measure => simp [intOf]; omega
        · have S : Hid (Step wr t 69 st st' ⟨q, 1, ⟨#[]⟩, noV⟩ [] (w3.setCell ⟨wr.heap.size, 1, none⟩ (.int .i64 1))) := Lib.hid ⟨HT3.out.set1 wr.heap.size 1 (by omega) _, HK3.out.setCell _ (.inr (Nat.le_refl _)) _, partOk_bare _ q _ _ (by omega) (by omega) (by omega) (by decide), fun _ _ hne => absurd rfl hne, MA.out 1 rfl⟩
          clear hz3 MA HK3 HT3
          go_wp2_with (at_builtin; go_loud (refine append_part rfl (.tmp 87) (.tmp 89) rfl (t + 1) ps (⟨q, 1, ⟨#[]⟩, noV⟩, []) _ rfl (read_own HR.out S.out _) _ rfl (heap_at (by simp [World.setCell])) (by omega) (by rw [World.size_alloc]; have := S.out.kept.size; omega) ?_))
          intro v6 w6 hown hgr hblk
          have HR6 := Lib.hid (read_step hs1 HR.out S.out _ hown hgr (by simpa [World.setCell] using hblk))
          clear hown hgr hblk S p0 p1 p2 p3 p4 p5 p6 zf HT1 HZ HB HW1
          go_wp2_with fail
          go_roundw
          case rel => exact ⟨k + 1, ps ++ [(⟨q, 1, ⟨#[]⟩, noV⟩, [])], _, by omega, by rw [List.length_append, hpl]; rfl, by go_num, HR6⟩
          case measure => simp [intOf]; omega
      · have C := Lib.hid (inText_any W1 t 69 st 4096 HT1.out)
        have hsm := inTextM_small st 4096
        have MA := Lib.hid (math_text (st := st) q hr)
        generalize inTextM st 4096 = rn at *
        go_wp2_with fail
        rw [HW1.out]
        refine C.out.mono ?_
        rintro e w3 ⟨rfl, ht, hk3⟩
        have hz3 := (hk3.block _ hl1 (by omega)).trans HZ.out
        have p0 := cell_block hz3 0
        have p1 := cell_block hz3 1
        have p2 := cell_block hz3 2
        have p3 := cell_block hz3 3
        have p4 := cell_block hz3 4
        have p5 := cell_block hz3 5
        have p6 := cell_block hz3 6
        simp at p0 p1 p2 p3 p4 p5 p6
        have zf : ∀ o, w3.frozen? ⟨wr.heap.size, o, none⟩ = false := fun o => by simp [World.frozen?, hz3]
        have hl3 : wr.heap.size < w3.heap.size := lt_block hz3
        have HK3 := Lib.hid (below_kept HB.out hk3)
        have HT3 := Lib.hid ht
        have S : Hid (Step wr t 69 st rn.2 ⟨q, 0, rn.1, noV⟩ [] (w3.setCell ⟨wr.heap.size, 2, none⟩ (.string rn.1))) := Lib.hid ⟨HT3.out.set1 wr.heap.size 2 (by omega) _, HK3.out.setCell _ (.inr (Nat.le_refl _)) _, partOk_bare _ q _ _ (by omega) (by omega) (by omega) (by omega), fun _ _ hne => absurd rfl hne, MA.out⟩
        clear ht hk3 hz3 C MA HK3 HT3
        go_wp2_with (at_builtin; go_loud (refine append_part rfl (.tmp 87) (.tmp 89) rfl (t + 1) ps (⟨q, 0, rn.1, noV⟩, []) _ rfl (read_own HR.out S.out _) _ rfl (heap_at (by simp [World.setCell])) (by omega) (by rw [World.size_alloc]; have := S.out.kept.size; omega) ?_))
        intro v6 w6 hown hgr hblk
        have HR6 := Lib.hid (read_step hs1 HR.out S.out _ hown hgr (by simpa [World.setCell] using hblk))
        clear hown hgr hblk S p0 p1 p2 p3 p4 p5 p6 zf HT1 HZ HB HW1
        go_wp2_with fail
        go_roundw
        case rel => exact ⟨k + 1, ps ++ [(⟨q, 0, rn.1, noV⟩, [])], _, by omega, by rw [List.length_append, hpl]; rfl, by go_num, HR6⟩
        case measure => simp [intOf]; omega
      · have hq' : (q : Int) / 8 = ((q / 8 : Nat) : Int) := by omega
        have C := Lib.hid (inRaw_any W1 t 69 st ((q / 8 : Nat) : Int) HT1.out)
        have hsm := takeM_le st (q / 8)
        have MA := Lib.hid (math_raw (st := st) q (q / 8) hr)
        generalize takeM st ((q / 8 : Nat) : Int) = rn at *
        rw [← hq'] at C
        clear hq'
        go_wp2_with fail
        rw [HW1.out]
        refine C.out.mono ?_
        rintro e w3 ⟨v3, rfl, hs3, ht, hk3⟩
        have hcv := conv_bytes hs3
        rw [show (⟨rn.1.data.toList.toArray⟩ : ByteArray) = rn.1 from rfl] at hcv
        have hz3 := (hk3.block _ hl1 (by omega)).trans HZ.out
        have p0 := cell_block hz3 0
        have p1 := cell_block hz3 1
        have p2 := cell_block hz3 2
        have p3 := cell_block hz3 3
        have p4 := cell_block hz3 4
        have p5 := cell_block hz3 5
        have p6 := cell_block hz3 6
        simp at p0 p1 p2 p3 p4 p5 p6
        have zf : ∀ o, w3.frozen? ⟨wr.heap.size, o, none⟩ = false := fun o => by simp [World.frozen?, hz3]
        have hl3 : wr.heap.size < w3.heap.size := lt_block hz3
        have HK3 := Lib.hid (below_kept HB.out hk3)
        have HT3 := Lib.hid ht
        have S : Hid (Step wr t 69 st rn.2 ⟨q, 0, rn.1, noV⟩ [] (w3.setCell ⟨wr.heap.size, 2, none⟩ (.string rn.1))) := Lib.hid ⟨HT3.out.set1 wr.heap.size 2 (by omega) _, HK3.out.setCell _ (.inr (Nat.le_refl _)) _, partOk_bare _ q _ _ (by omega) (by omega) (by omega) (by omega), fun _ _ hne => absurd rfl hne, MA.out⟩
        clear ht hk3 hz3 C MA HK3 HT3 hs3
        go_wp2_with (at_builtin; go_loud (refine append_part rfl (.tmp 87) (.tmp 89) rfl (t + 1) ps (⟨q, 0, rn.1, noV⟩, []) _ rfl (read_own HR.out S.out _) _ rfl (heap_at (by simp [World.setCell])) (by omega) (by rw [World.size_alloc]; have := S.out.kept.size; omega) ?_))
        intro v6 w6 hown hgr hblk
        have HR6 := Lib.hid (read_step hs1 HR.out S.out _ hown hgr (by simpa [World.setCell] using hblk))
        clear hown hgr hblk S p0 p1 p2 p3 p4 p5 p6 zf HT1 HZ HB HW1
        go_wp2_with fail
        go_roundw
        case rel => exact ⟨k + 1, ps ++ [(⟨q, 0, rn.1, noV⟩, [])], _, by omega, by rw [List.length_append, hpl]; rfl, by go_num, HR6⟩
        case measure => simp [intOf]; omega
      · have C := Lib.hid (inValue_any W1 t 69 st HT1.out)
        go_wp2_with fail
        rw [HW1.out]
        refine C.out.mono ?_
        rintro e w3 ⟨y, ly, rfl, hfy, hyes, hno, hnin, ht, hk3⟩
        have hz3 := (hk3.block _ hl1 (by omega)).trans HZ.out
        have p0 := cell_block hz3 0
        have p1 := cell_block hz3 1
        have p2 := cell_block hz3 2
        have p3 := cell_block hz3 3
        have p4 := cell_block hz3 4
        have p5 := cell_block hz3 5
        have p6 := cell_block hz3 6
        simp at p0 p1 p2 p3 p4 p5 p6
        have zf : ∀ o, w3.frozen? ⟨wr.heap.size, o, none⟩ = false := fun o => by simp [World.frozen?, hz3]
        have hl3 : wr.heap.size < w3.heap.size := lt_block hz3
        have HK3 := Lib.hid (below_kept HB.out hk3)
        have HT3 := Lib.hid ht
        have hio := value_ok hyes hno
        have S : Hid (Step wr t 69 st (readS st) ⟨q, 0, ⟨#[]⟩, y⟩ ly ((((w3.setCell ⟨wr.heap.size, 3, none⟩ (.int .i64 y.k)).setCell ⟨wr.heap.size, 4, none⟩ (.int .i64 y.i)).setCell ⟨wr.heap.size, 5, none⟩ (.string y.s)).setCell ⟨wr.heap.size, 6, none⟩ (.slice y.a y.n y.c))) := Lib.hid ⟨(((HT3.out.set1 wr.heap.size 3 (by omega) _).set1 wr.heap.size 4 (by omega) _).set1 wr.heap.size 5 (by omega) _).set1 wr.heap.size 6 (by omega) _, (((HK3.out.setCell _ (.inr (Nat.le_refl _)) _).setCell _ (.inr (Nat.le_refl _)) _).setCell _ (.inr (Nat.le_refl _)) _).setCell _ (.inr (Nat.le_refl _)) _,
          ⟨⟨by show q < 256; omega, by show (-9223372036854775808 : Int) ≤ 0; decide, by show (0 : Int) ≤ 9223372036854775807; decide, by show 0 ≤ maxLen; exact Nat.zero_le _⟩, by show 0 ≤ 5000; omega, full_on (b := wr.heap.size) hfy (fun g _ hg => (Below.heap_setCell _ _ _ _ (by exact hg)).trans ((Below.heap_setCell _ _ _ _ (by exact hg)).trans ((Below.heap_setCell _ _ _ _ (by exact hg)).trans (Below.heap_setCell _ _ _ _ (by exact hg))))) (hnin _ hl1), hio.1, hio.2⟩,
          fun b hb => hnin b (by omega), math_value q hr y ly hfy.len hyes⟩
        clear ht hk3 hz3 C HK3 HT3 hfy hyes hno hnin hio
        unfold Val.v V
        go_wp2_with (at_builtin; go_loud (refine append_part rfl (.tmp 87) (.tmp 89) rfl (t + 1) ps (⟨q, 0, ⟨#[]⟩, y⟩, ly) _ rfl (read_own HR.out S.out _) _ rfl (heap_at (by simp [World.setCell])) (by omega) (by rw [World.size_alloc]; have := S.out.kept.size; omega) ?_))
        intro v6 w6 hown hgr hblk
        have HR6 := Lib.hid (read_step hs1 HR.out S.out _ hown hgr (by simpa [World.setCell] using hblk))
        clear hown hgr hblk S p0 p1 p2 p3 p4 p5 p6 zf HT1 HZ HB HW1
        go_wp2_with fail
        go_roundw
        case rel => exact ⟨k + 1, ps ++ [(⟨q, 0, ⟨#[]⟩, y⟩, ly)], _, by omega, by rw [List.length_append, hpl]; rfl, by go_num, HR6⟩
        case measure => simp [intOf]; omega
    · obtain rfl : k = qs.length := by omega
      have OV := Lib.hid (over_any wr t 69 st HR.out.tape)
      have RA := Lib.hid (read_all HR.out hl)
      obtain ⟨ov, hov⟩ : ∃ ov, overM st = ov := ⟨_, rfl⟩
      rw [hov] at OV RA
      clear hov
      go_wp2_with fail
      refine OV.out.mono ?_
      rintro e w9 ⟨rfl, rfl⟩
      clear OV
      cases ov
      · have HB := Lib.hid HR.out.below
        clear HR RA
        go_wp2_with fail
        go_ret
        exact ⟨rfl, HB.out⟩
      · obtain ⟨ad, g, cp, rfl, hpl'⟩ := own_parts HR.out.own (fun p hp => (HR.out.ok p hp).ok) (fun p hp => (HR.out.ok p hp).full)
        have A := refAll_any wr ps ad g 0 cp hpl' (by unfold maxLen; omega) (fun p hp => HR.out.ok p hp)
        rw [RA.out rfl] at A
        have AL := Lib.hid A
        have HB := Lib.hid HR.out.below
        clear A hpl' HR RA
        rw [hpl] at AL ⊢
        clear hpl
        go_wp2_with fail
        refine AL.out.mono ?_
        rintro e w6 ⟨v, rfl, hai, hb6⟩
        have HB6 := Lib.hid (HB.out.trans (hb6.mono HB.out.size))
        have hsv : BSrc w6 v l := hai.src
        have hcv := conv_bytes hsv
        have hcb := conv_bytes (HV.out.below HB6.out)
        clear hai hb6 AL hsv HB
        go_wp2_with fail
        go_ret
        exact ⟨rfl, HB6.out⟩
end Go.Proofs.Ytebadbnlihbecaa
