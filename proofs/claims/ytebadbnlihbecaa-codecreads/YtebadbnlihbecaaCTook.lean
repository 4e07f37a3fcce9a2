/- P3.2: a part is read as it was written. -/
import Derived.Test.YtebadbnlihbecaaCPartMath
import Derived.Test.YtebadbnlihbecaaCValMath
namespace Go.Proofs.Ytebadbnlihbecaa
open Go.RowKit

theorem readF_T {x : Val} {lx : List Val} (hf : x.formed lx = true) (hi : IOk x) (hil : ∀ y ∈ lx, IOk y) (hn : lx.length = x.n) (u : List UInt8) : readF (TT (valB x lx ++ u)) = true := by
  have h1 := rawV_T hf hi hil hn u
  have h2 := rawV_T hf hi hil hn []
  rw [List.append_nil] at h2
  have h3 := (dec_bytes (dec_back hf hi hil hn).1).2
  have h3' : readF (TT (valB x lx)) = true := h3
  unfold readF at h3' ⊢
  rw [h1]
  rw [h2] at h3'
  exact h3'
set_option maxRecDepth 100000 in
set_option maxHeartbeats 4000000 in
theorem took_any (w0 w : World) (t : Nat) (T : TypeId) (p : PartV) (lx : List Val) (u : List UInt8) (hp : PartOk w0 p lx) (hb : Below w0.heap.size w0 w) (h0 : w0.heap.size ≤ t) (hok : bytesOk p lx = true) (h : Tape w t T (TT (bytesB p lx ++ u))) :
    Calls Try.prog 14 #[.pointer (some ⟨t, 0, none⟩), p.val] w fun e w' => e = .returned (.bool true) ∧ Tape w' t T (TT u) ∧ Kept1 t w w' := by
  have hlt := h.lt
  have hq := hp.ok.q
  have hn1 := hp.ok.n1
  have hn2 := hp.ok.n2
  have hs5 := hp.s
  obtain ⟨W1, hW1⟩ : ∃ W1, w.alloc (.cells #[.int .u8 (p.q : Int), .int .i64 p.n, .string p.s, .int .i64 p.v.k, .int .i64 p.v.i, .string p.v.s, .slice p.v.a p.v.n p.v.c] 35) = W1 := ⟨_, rfl⟩
  have hB : Below w.heap.size w W1 := by rw [← hW1]; exact (Below.refl _ _).alloc (Nat.le_refl _) _
  have hz : W1.heap[w.heap.size]? = some (.cells #[.int .u8 (p.q : Int), .int .i64 p.n, .string p.s, .int .i64 p.v.k, .int .i64 p.v.i, .string p.v.s, .slice p.v.a p.v.n p.v.c] 35 (0, 0)) := by rw [← hW1]; exact heap_alloc_new _ _
  have HW1 := Lib.hid hW1
  have HBd : Hid (Below w.heap.size w W1.drew) := Lib.hid hB.drew
  have HZ := Lib.hid hz
  have HP := Lib.hid hp
  have HB0 := Lib.hid (hb.trans (hB.drew.mono hb.size))
  have HT1 := Lib.hid (h.below hB.drew)
  have hl1 : w.heap.size < W1.heap.size := lt_block hz
  have a1 : W1.cell? ⟨w.heap.size, 1, none⟩ = some (.int .i64 p.n) := cell_block hz 1
  have a2 : W1.cell? ⟨w.heap.size, 2, none⟩ = some (.string p.s) := cell_block hz 2
  have a3 : W1.cell? ⟨w.heap.size, 3, none⟩ = some (.int .i64 p.v.k) := cell_block hz 3
  have a4 : W1.cell? ⟨w.heap.size, 4, none⟩ = some (.int .i64 p.v.i) := cell_block hz 4
  have a5 : W1.cell? ⟨w.heap.size, 5, none⟩ = some (.string p.v.s) := cell_block hz 5
  have a6 : W1.cell? ⟨w.heap.size, 6, none⟩ = some (.slice p.v.a p.v.n p.v.c) := cell_block hz 6
  have KK : Hid (∀ w2, Kept1 t W1.drew w2 → w2.heap[w.heap.size]? = some (.cells #[.int .u8 (p.q : Int), .int .i64 p.n, .string p.s, .int .i64 p.v.k, .int .i64 p.v.i, .string p.v.s, .slice p.v.a p.v.n p.v.c] 35 (0, 0))) := Lib.hid (fun w2 hk => (hk.block _ (show w.heap.size < W1.drew.heap.size from hl1) (by omega)).trans HZ.out)
  obtain ⟨r, hr⟩ : ∃ r, p.q % 8 = r := ⟨_, rfl⟩
  have hr8 : r < 8 := by omega
  have hri : (p.q : Int) % 8 = (r : Int) := by omega
  have EO : bytesOk p lx = if r = 0 then decide (0 ≤ p.n ∧ p.n < 256) else if r = 1 then decide (0 ≤ p.n ∧ p.n < 65536) else if r = 2 then decide (0 ≤ p.n ∧ p.n < 4294967296)
    else if r = 3 then true else if r = 4 then true else if r = 5 then decide (p.s.size ≤ 4096) else if r = 6 then true else p.v.formed lx := by rw [← hr]; rfl
  have EB : bytesB p lx = if r = 0 then numB p.n.toNat 1 else if r = 1 then numB p.n.toNat 2 else if r = 2 then numB p.n.toNat 4
    else if r = 3 then numB (p.n % 18446744073709551616).toNat 8 else if r = 4 then numB (p.n % 18446744073709551616 % 2).toNat 1
    else if r = 5 then numB p.s.size 2 ++ tb p.s else if r = 6 then tb p.s else valB p.v lx := by rw [← hr]; rfl
  rw [hok] at EO
  rw [EB] at HT1
  have HEO := Lib.hid EO
  clear hW1 hB hz h hr hp hb hok EO EB
  unfold PartV.val
  go_enter Try.func14, Try.ntmps14
  obtain rfl | rfl | rfl | rfl | rfl | rfl | rfl | rfl : r = 0 ∨ r = 1 ∨ r = 2 ∨ r = 3 ∨ r = 4 ∨ r = 5 ∨ r = 6 ∨ r = 7 := by omega
  · have hn := of_decide_eq_true HEO.out.symm
    have c := inU8_any W1.drew t T _ HT1.out
    have e : numM (TT (numB p.n.toNat 1 ++ u)) 1 = (p.n.toNat, TT u) := numM_T _ _ (by show p.n.toNat < 256; omega) u
    have c' : Calls Try.prog 16 #[.pointer (some ⟨t, 0, none⟩)] W1.drew fun e w' => e = .returned (.int .i64 (numM (TT (numB p.n.toNat 1 ++ u)) 1).1) ∧ Tape w' t T (numM (TT (numB p.n.toNat 1 ++ u)) 1).2 ∧ Kept1 t W1.drew w' := c
    rw [e] at c'
    dsimp only at c'
    rw [show ((p.n.toNat : Nat) : Int) = p.n by omega] at c'
    have C := Lib.hid c'
    clear c c' e hn
    go_wp2_with fail
    rw [HW1.out]
    go_region_with (first
      | (go_at_call 16
         refine C.out.mono ?_
         rintro e w2 ⟨rfl, ht, hk⟩
         have hz2 := KK.out _ hk
         have HT2 := Lib.hid ht
         have HK2 := Lib.hid (below_kept HBd.out hk)
         have b1 : w2.cell? ⟨w.heap.size, 1, none⟩ = some (.int .i64 p.n) := cell_block hz2 1
         have hl2 : w.heap.size < w2.heap.size := lt_block hz2
         clear ht hk hz2))
    all_goals
      go_wp2_with fail
      go_ret
      exact ⟨rfl, HT2.out, HK2.out⟩
  · have hn := of_decide_eq_true HEO.out.symm
    have c := inU16_any W1.drew t T _ HT1.out
    have e : numM (TT (numB p.n.toNat 2 ++ u)) 2 = (p.n.toNat, TT u) := numM_T _ _ (by show p.n.toNat < 65536; omega) u
    have c' : Calls Try.prog 17 #[.pointer (some ⟨t, 0, none⟩)] W1.drew fun e w' => e = .returned (.int .i64 (numM (TT (numB p.n.toNat 2 ++ u)) 2).1) ∧ Tape w' t T (numM (TT (numB p.n.toNat 2 ++ u)) 2).2 ∧ Kept1 t W1.drew w' := c
    rw [e] at c'
    dsimp only at c'
    rw [show ((p.n.toNat : Nat) : Int) = p.n by omega] at c'
    have C := Lib.hid c'
    clear c c' e hn
    go_wp2_with fail
    rw [HW1.out]
    go_region_with (first
      | (go_at_call 17
         refine C.out.mono ?_
         rintro e w2 ⟨rfl, ht, hk⟩
         have hz2 := KK.out _ hk
         have HT2 := Lib.hid ht
         have HK2 := Lib.hid (below_kept HBd.out hk)
         have b1 : w2.cell? ⟨w.heap.size, 1, none⟩ = some (.int .i64 p.n) := cell_block hz2 1
         have hl2 : w.heap.size < w2.heap.size := lt_block hz2
         clear ht hk hz2))
    all_goals
      go_wp2_with fail
      go_ret
      exact ⟨rfl, HT2.out, HK2.out⟩
  · have hn := of_decide_eq_true HEO.out.symm
    have c := inU32_any W1.drew t T _ HT1.out
    have e : numM (TT (numB p.n.toNat 4 ++ u)) 4 = (p.n.toNat, TT u) := numM_T _ _ (by show p.n.toNat < 4294967296; omega) u
    have c' : Calls Try.prog 18 #[.pointer (some ⟨t, 0, none⟩)] W1.drew fun e w' => e = .returned (.int .i64 (numM (TT (numB p.n.toNat 4 ++ u)) 4).1) ∧ Tape w' t T (numM (TT (numB p.n.toNat 4 ++ u)) 4).2 ∧ Kept1 t W1.drew w' := c
    rw [e] at c'
    dsimp only at c'
    rw [show ((p.n.toNat : Nat) : Int) = p.n by omega] at c'
    have C := Lib.hid c'
    clear c c' e hn
    go_wp2_with fail
    rw [HW1.out]
    go_region_with (first
      | (go_at_call 18
         refine C.out.mono ?_
         rintro e w2 ⟨rfl, ht, hk⟩
         have hz2 := KK.out _ hk
         have HT2 := Lib.hid ht
         have HK2 := Lib.hid (below_kept HBd.out hk)
         have b1 : w2.cell? ⟨w.heap.size, 1, none⟩ = some (.int .i64 p.n) := cell_block hz2 1
         have hl2 : w.heap.size < w2.heap.size := lt_block hz2
         clear ht hk hz2))
    all_goals
      go_wp2_with fail
      go_ret
      exact ⟨rfl, HT2.out, HK2.out⟩
  · have c := inI64_any W1.drew t T _ HT1.out
    have e : numM (TT (numB (p.n % 18446744073709551616).toNat 8 ++ u)) 8 = ((p.n % 18446744073709551616).toNat, TT u) := numM_T _ _ (by show _ < 18446744073709551616; omega) u
    have c' : Calls Try.prog 19 #[.pointer (some ⟨t, 0, none⟩)] W1.drew fun e w' => e = .returned (.int .i64 (wrap64 (numM (TT (numB (p.n % 18446744073709551616).toNat 8 ++ u)) 8).1)) ∧ Tape w' t T (numM (TT (numB (p.n % 18446744073709551616).toNat 8 ++ u)) 8).2 ∧ Kept1 t W1.drew w' := c
    rw [e] at c'
    dsimp only at c'
    rw [wrap_of p.n hn1 hn2] at c'
    have C := Lib.hid c'
    clear c c' e
    go_wp2_with fail
    rw [HW1.out]
    go_region_with (first
      | (go_at_call 19
         refine C.out.mono ?_
         rintro e w2 ⟨rfl, ht, hk⟩
         have hz2 := KK.out _ hk
         have HT2 := Lib.hid ht
         have HK2 := Lib.hid (below_kept HBd.out hk)
         have b1 : w2.cell? ⟨w.heap.size, 1, none⟩ = some (.int .i64 p.n) := cell_block hz2 1
         have hl2 : w.heap.size < w2.heap.size := lt_block hz2
         clear ht hk hz2))
    all_goals
      go_wp2_with fail
      go_ret
      exact ⟨rfl, HT2.out, HK2.out⟩
  · have c := inFlag_any W1.drew t T _ HT1.out
    obtain ⟨b, hbq⟩ : ∃ b, (p.n % 18446744073709551616 % 2 == 1) = b := ⟨_, rfl⟩
    have e0 : (p.n % 18446744073709551616 % 2).toNat = if b then 1 else 0 := by
      rw [← hbq]
      split
      · rename_i h; have : p.n % 18446744073709551616 % 2 = 1 := by simpa using h
        omega
      · rename_i h; have : ¬ p.n % 18446744073709551616 % 2 = 1 := by simpa using h
        omega
    have e : flagM (TT (numB (p.n % 18446744073709551616 % 2).toNat 1 ++ u)) = (b, TT u) := by rw [e0]; exact flagM_T b u
    have c' : Calls Try.prog 20 #[.pointer (some ⟨t, 0, none⟩)] W1.drew fun e w' => e = .returned (.bool (flagM (TT (numB (p.n % 18446744073709551616 % 2).toNat 1 ++ u))).1) ∧ Tape w' t T (flagM (TT (numB (p.n % 18446744073709551616 % 2).toNat 1 ++ u))).2 ∧ Kept1 t W1.drew w' := c
    rw [e] at c'
    dsimp only at c'
    have hw : ((IntKind.u64.wrap p.n).tmod 2 == 1) = b := by rw [← hbq, IntKind.wrap_u64, Int.tmod_eq_emod_of_nonneg (by omega)]
    have C := Lib.hid c'
    clear c c' e e0 hbq
    go_wp2_with fail
    rw [HW1.out]
    go_region_with (first
      | (go_at_call 20
         refine C.out.mono ?_
         rintro e w2 ⟨rfl, ht, hk⟩
         have hz2 := KK.out _ hk
         have HT2 := Lib.hid ht
         have HK2 := Lib.hid (below_kept HBd.out hk)
         have b1 : w2.cell? ⟨w.heap.size, 1, none⟩ = some (.int .i64 p.n) := cell_block hz2 1
         have hl2 : w.heap.size < w2.heap.size := lt_block hz2
         clear ht hk hz2))
    all_goals
      go_wp2_with fail
      go_ret
      exact ⟨rfl, HT2.out, HK2.out⟩
  · have hs4 := of_decide_eq_true HEO.out.symm
    have c := inText_any W1.drew t T _ 5000 HT1.out
    have e : inTextM (TT (numB p.s.size 2 ++ tb p.s ++ u)) 5000 = (p.s, TT u) := by rw [List.append_assoc]; exact inTextM_T p.s 5000 (by omega) hs4 u
    have c' : Calls Try.prog 21 #[.pointer (some ⟨t, 0, none⟩), .int .i64 5000] W1.drew fun e w' => e = .returned (.string (inTextM (TT (numB p.s.size 2 ++ tb p.s ++ u)) 5000).1) ∧ Tape w' t T (inTextM (TT (numB p.s.size 2 ++ tb p.s ++ u)) 5000).2 ∧ Kept1 t W1.drew w' := c
    rw [e] at c'
    dsimp only at c'
    have C := Lib.hid c'
    clear c c' e hs4
    go_wp2_with fail
    rw [HW1.out]
    go_region_with (first
      | (go_at_call 21
         refine C.out.mono ?_
         rintro e w2 ⟨rfl, ht, hk⟩
         have hz2 := KK.out _ hk
         have HT2 := Lib.hid ht
         have HK2 := Lib.hid (below_kept HBd.out hk)
         have b2 : w2.cell? ⟨w.heap.size, 2, none⟩ = some (.string p.s) := cell_block hz2 2
         have hl2 : w.heap.size < w2.heap.size := lt_block hz2
         clear ht hk hz2))
    all_goals
      go_wp2_with fail
      go_ret
      exact ⟨rfl, HT2.out, HK2.out⟩
  · have c := inRaw_any W1.drew t T _ p.s.size HT1.out
    have e : takeM (TT (tb p.s ++ u)) p.s.size = (p.s, TT u) := by
      have := takeM_T (tb p.s) u
      rw [tb_size, tt_tb] at this
      exact this
    have c' : Calls Try.prog 22 #[.pointer (some ⟨t, 0, none⟩), .int .i64 p.s.size] W1.drew fun e w' => ∃ v, e = .returned v ∧ BSrc w' v (takeM (TT (tb p.s ++ u)) p.s.size).1.data.toList ∧ Tape w' t T (takeM (TT (tb p.s ++ u)) p.s.size).2 ∧ Kept1 t W1.drew w' := c
    rw [e] at c'
    dsimp only at c'
    have C := Lib.hid c'
    clear c c' e
    go_wp2_with fail
    rw [HW1.out]
    go_region_with (first
      | (go_at_call 22
         refine C.out.mono ?_
         rintro e w2 ⟨v, rfl, hv, ht, hk⟩
         have hz2 := KK.out _ hk
         have HT2 := Lib.hid ht
         have HK2 := Lib.hid (below_kept HBd.out hk)
         have hcv := conv_bytes hv
         have b2 : w2.cell? ⟨w.heap.size, 2, none⟩ = some (.string p.s) := cell_block hz2 2
         have hl2 : w.heap.size < w2.heap.size := lt_block hz2
         clear hv ht hk hz2))
    all_goals
      go_wp2_with fail
      go_ret
      exact ⟨rfl, HT2.out, HK2.out⟩
  · have hfo : p.v.formed lx = true := HEO.out.symm
    have c := inValue_any W1.drew t T _ HT1.out
    have hd := rawV_T hfo HP.out.i HP.out.il HP.out.full.len u
    have hrf := readF_T hfo HP.out.i HP.out.il HP.out.full.len u
    have c' : Calls Try.prog 23 #[.pointer (some ⟨t, 0, none⟩)] W1.drew fun e w' => ∃ y ly, e = .returned y.v ∧ Full w' y ly ∧ (y.k = p.v.k ∧ y.i = p.v.i ∧ y.s = p.v.s ∧ ly = lx.map bare) ∧ Tape w' t T (TT u) ∧ Kept1 t W1.drew w' := by
      refine c.mono ?_
      rintro e w' ⟨y, ly, he, hfl, hy, _, _, ht, hk⟩
      have hy' := hy (show valOk (TT (valB p.v lx ++ u)) = true by unfold valOk; rw [hrf, hd]; rfl)
      have hd' : rawV (TT ((if 7 = 0 then numB p.n.toNat 1 else if 7 = 1 then numB p.n.toNat 2 else if 7 = 2 then numB p.n.toNat 4 else if 7 = 3 then numB (p.n % 18446744073709551616).toNat 8 else if 7 = 4 then numB (p.n % 18446744073709551616 % 2).toNat 1 else if 7 = 5 then numB p.s.size 2 ++ tb p.s else if 7 = 6 then tb p.s else valB p.v lx) ++ u)) = ((bare p.v, lx.map bare), TT u) := hd
      rw [hd'] at hy'
      have ht' : Tape w' t T (readS (TT (valB p.v lx ++ u))) := ht
      unfold readS at ht'
      rw [if_pos hrf, hd] at ht'
      exact ⟨y, ly, he, hfl, hy', ht', hk⟩
    have SM : Hid (∀ w2 y ly, Full w2 y ly → (y.k = p.v.k ∧ y.i = p.v.i ∧ y.s = p.v.s ∧ ly = lx.map bare) → Kept1 t W1.drew w2 → Calls Try.prog 29 #[.agg #[.int .i64 y.k, .int .i64 y.i, .string y.s, .slice y.a y.n y.c], .agg #[.int .i64 p.v.k, .int .i64 p.v.i, .string p.v.s, .slice p.v.a p.v.n p.v.c]] w2 fun e w' => e = .returned (.bool true) ∧ Below w2.heap.size w2 w') := Lib.hid (fun w2 y ly hfl hy hk => by
      have h := same_any w2 y p.v ly lx hfl (HP.out.full.below (kept_below HB0.out h0 hk))
      rw [same_back hfo HP.out.full.len hfl.len hy.1 hy.2.1 hy.2.2.1 hy.2.2.2] at h
      exact h)
    have C := Lib.hid c'
    clear c c' hd hrf hfo
    go_wp2_with fail
    rw [HW1.out]
    go_region_with (first
      | (go_at_call 23
         refine C.out.mono ?_
         rintro e w2 ⟨y, ly, rfl, hfl, hya, ht, hk⟩
         have hz2 := KK.out _ hk
         have HT2 := Lib.hid ht
         have HK2 := Lib.hid (below_kept HBd.out hk)
         have HSY := Lib.hid (SM.out w2 y ly hfl hya hk)
         have b3 : w2.cell? ⟨w.heap.size, 3, none⟩ = some (.int .i64 p.v.k) := cell_block hz2 3
         have b4 : w2.cell? ⟨w.heap.size, 4, none⟩ = some (.int .i64 p.v.i) := cell_block hz2 4
         have b5 : w2.cell? ⟨w.heap.size, 5, none⟩ = some (.string p.v.s) := cell_block hz2 5
         have b6 : w2.cell? ⟨w.heap.size, 6, none⟩ = some (.slice p.v.a p.v.n p.v.c) := cell_block hz2 6
         have hl2 : w.heap.size < w2.heap.size := lt_block hz2
         unfold Val.v V
         clear hfl hya ht hk hz2)
      | (go_at_call 29
         refine HSY.out.mono ?_
         rintro e w3 ⟨rfl, hb3⟩
         have HT3 := Lib.hid (HT2.out.below hb3)
         have HK3 := Lib.hid (HK2.out.trans (Kept1.of_below hb3))
         clear hb3))
    all_goals
      go_wp2_with fail
      go_ret
      exact ⟨rfl, HT3.out, HK3.out⟩
end Go.Proofs.Ytebadbnlihbecaa
