/- A token's text behind bytes of one's own. -/
import Derived.Test.YtcmnfbjlhdfmgaaDoorLShow2
namespace Go.Proofs.YtcmnfbjlhdfmgaaDoor
open Go.RowKit

set_option maxRecDepth 100000 in
theorem LexW.low {w w' : World} {N : Nat} (h : LexW w) (hb : Below N w w') (hN : 9 ≤ N) : LexW w' := by
  have hv : ∀ (nm : String) (g : Nat) (x : Array Value), Tryd.prog.globalNamed nm = some g → g < 9 → w.var? Tryd.prog nm = some x → w'.var? Tryd.prog nm = some x := fun nm g x h1 h2 h3 => by
    unfold World.var? at h3 ⊢
    rw [h1] at h3 ⊢
    have hblk := hb.block g (by omega)
    simp only [Option.bind_some] at h3 ⊢
    rw [hblk]; exact h3
  obtain ⟨t1, p1, h1⟩ := h.syn
  obtain ⟨t2, p2, h2⟩ := h.ran
  refine ⟨fun j v hv => ?_, ⟨t1, p1, hv _ 5 _ (by kernel_rfl) (by decide) h1⟩, ⟨t2, p2, hv _ 6 _ (by kernel_rfl) (by decide) h2⟩, ?_⟩
  · have h0 := h.sig j v hv
    rw [hb.cell (by show 0 < N; omega)]
    exact h0
  · exact hv _ 4 _ (by kernel_rfl) (by decide) h.pow

set_option maxRecDepth 100000 in
/-- one byte more, in a region that draws -/
theorem held_append_one {ops : Array Oper} {Q : Exit → Act → World → Prop} {md : Region.Mode} {S : World → Prop} {i fuel : Nat} {listed : Array Bool} {a : Act} {w : World} {o : Oper} (d : Option Tmp)
    (hi : ops[i]? = some o) (hd : o.dst = d) (hr : Region.ready md ops listed = [i]) (hw : Region.wanted o (yielded ops a.tmps) = true) (s x : Operand)
    (ho : o.op = .call { callee := .builtin .append, args := #[s, x], argTypes := #[36, 36] })
    (N : Nat) (v : Value) (l : List UInt8) (hs : a.eval s = v) (c : UInt8) (g cp : Nat) (hx : a.eval x = .slice (some ⟨g, 0, none⟩) 1 cp) (hg : w.heap[g]? = some (.cells #[.int .u8 (c.toNat : Int)] 5 (0, 0))) (hown : OwnY w N v l) (hlen : l.length ≤ 1000000) (hN : N ≤ w.heap.size)
    (k : ∀ v' w', OwnY w' N v' (l ++ [c]) → Below N w w' → Lib.OthersKept 5 none w w' → S w' ∧ wpAnyH Tryd.prog md ops Q S fuel (listed.setIfInBounds i true) (a.put d v') w') : wpAnyH Tryd.prog md ops Q S (fuel + 1) listed a w := by
  obtain ⟨ti, hti, hz, hsz, hby⟩ := info_parts (show (Tryd.prog.info? 5).map (fun i => (i.zero, i.size, i.bytes)) = some (some (.int .u8 0), 1, 1) by kernel_rfl)
  refine held_of hi hr hw ?_
  subst hd
  refine wp_append_own_wide w s x 36 ho N 5 ti _ 1 1 Tryd.underlying36 hti hz hsz hby rfl (by omega) v l.length (l.map B) hs hown.row ⟨g, 0, none⟩ 1 cp [B c] hx rfl (fun j u hj => by
    rw [Addr.add_mid, Nat.zero_add, cell_block hg]
    simpa using hj) (fun u hu => by obtain rfl := List.mem_singleton.1 hu; rfl) (by unfold maxLen; omega) (by omega) hN ?_
  intro v' w' hown'' hgr _
  refine k v' w' ⟨by rw [List.length_append, List.map_append]; exact hown''⟩ ((Below.refl N w).grown hgr hN (fun b hb => (hown.row.lt b hb).1)) ((Lib.OthersKept.refl _ _ w).grown hgr fun b hb => ?_)
  rcases hown.row.2 with ⟨rfl, _⟩ | ⟨g2, cap, cur, rfl, _, hg2, _⟩
  · simp [Value.ownBlock] at hb
  · obtain rfl : g2 = b := by simpa [Value.ownBlock] using hb
    exact ⟨_, _, hg2⟩

set_option maxRecDepth 100000 in
set_option maxHeartbeats 4000000 in
theorem appendShown_any (w : World) (hw : LexW w) (N : Nat) (v : Value) (l : List UInt8) (t : Tk) (ht : t.Ok) (hts : t.s.length ≤ 10000) (hown : OwnY w N v l) (hN : N ≤ w.heap.size) (hN0 : 9 ≤ N) (hlen : l.length ≤ 90000) :
    Calls Tryd.prog 25 #[v, t.val] w fun e w' => ∃ v', e = .returned v' ∧ OwnY w' N v' (l ++ if formB t then showM t else []) ∧ Below N w w' := by
  have HF := Lib.hid (fun o => formed_any (w.alloc o) (hw.below ((Below.refl _ _).alloc (Nat.le_refl _) _)) t ht)
  have HO := Lib.hid hown
  have HW := Lib.hid hw
  obtain ⟨f, hf⟩ : ∃ f, formB t = f := ⟨_, rfl⟩
  rw [hf] at HF ⊢
  obtain ⟨k, x, n⟩ := t
  unfold Tk.val Tk.cells showM at *
  dsimp only at *
  have hsz := size_st x
  have HX := Lib.hid hts
  have HN0 := Lib.hid ht.n0
  have HN1 := Lib.hid ht.n1
  have HQ := Lib.hid (fun w v l hown hN hlen => appendQuoted_any w N v l x hts hown hN hlen)
  clear hf hown hw ht hts
  obtain ⟨s, hs⟩ : ∃ s, st x = s := ⟨_, rfl⟩
  rw [hs] at HF hsz HQ ⊢
  obtain ⟨R, hR⟩ : ∃ R, (if f = true then (if k = 2 then Lib.itoa n else if k = 4 then 64 :: Lib.itoa n else if k = 3 then quoteM x else x) else []) = R := ⟨_, rfl⟩
  rw [hR]
  have HR := Lib.hid hR
  clear hR
  go_enter Tryd.func25, Tryd.ntmps25
  go_wp2_with fail
  refine (HF.out _).mono ?_
  rintro e w' ⟨rfl, hb⟩
  have hbx : w'.heap[w.heap.size]? = some (.cells #[.int .i64 k, .string s, .int .i64 n] 30 (0, 0)) := (hb.block _ (by simp)).trans (heap_alloc_new _ _)
  have hBN : Below N w w' := ((Below.refl N w).alloc hN _).trans (hb.mono (by simp; omega))
  have HB := Lib.hid hBN
  have HO' := Lib.hid ((HO.out.below ((Below.refl _ _).alloc (Nat.le_refl _) _)).below hb)
  have HW' := Lib.hid ((HW.out.below ((Below.refl _ _).alloc (Nat.le_refl _) _)).below hb)
  have hN' : N ≤ w'.heap.size := by have := lt_block hbx; omega
  have HNG : Hid (N ≤ w.heap.size) := Lib.hid hN
  clear hb HF HO HW hBN hN
  generalize w.heap.size = G at *
  have c0 : w'.cell? ⟨G, 0, none⟩ = some (.int .i64 k) := by rw [cell_block hbx]; rfl
  have c1 : w'.cell? ⟨G, 1, none⟩ = some (.string s) := by rw [cell_block hbx]; rfl
  have c2 : w'.cell? ⟨G, 2, none⟩ = some (.int .i64 n) := by rw [cell_block hbx]; rfl
  have HBX := Lib.hid hbx
  clear hbx
  cases f with
  | false =>
    go_wp2_with fail
    go_ret
    obtain rfl := HR.out
    exact ⟨v, rfl, by simpa using HO'.out, HB.out⟩
  | true =>
    have hR2 := HR.out
    rw [if_pos rfl] at hR2
    clear HR
    by_cases h2 : k = 2
    · subst h2
      rw [if_pos rfl] at hR2
      have HR := Lib.hid hR2
      clear hR2
      go_wp2_with fail
      refine (appendInt_any w' HW'.out N v l n HN0.out HN1.out HO'.out hN' hN0 (by omega)).mono ?_
      rintro e w2 ⟨v2, rfl, hown2, hb2, _⟩
      clear c0 c1 c2
      go_wp2_with fail
      go_ret
      exact ⟨v2, rfl, by rw [← HR.out]; exact hown2, HB.out.trans hb2⟩
    · have e2 : (k == 2) = false := by simpa using h2
      rw [if_neg h2] at hR2
      by_cases h4 : k = 4
      · subst h4
        rw [if_pos rfl] at hR2
        have HR := Lib.hid hR2
        clear hR2
        go_wp2_with fail
        refine wp_region_held (S := fun W => W.heap[G]? = some (.cells #[.int .i64 4, .string s, .int .i64 n] 30 (0, 0))) (by kernel_rfl) ?_
        change wpAnyH _ _ _ _ _ _ _ _ (World.drew _)
        have hS0 : w'.drew.heap[G]? = some (.cells #[.int .i64 4, .string s, .int .i64 n] 30 (0, 0)) := HBX.out
        have HB3 := Lib.hid HB.out.drew
        have HO3 : Hid (OwnY w'.drew N v l) := Lib.hid (HO'.out.below (Below.refl _ _).drew)
        have HW3 : Hid (LexW w'.drew) := Lib.hid (HW'.out.below (Below.refl _ _).drew)
        have hN3 : N ≤ w'.drew.heap.size := hN'
        clear c0 c1 c2 HBX HB HO' HW' hN'
        generalize w'.drew = w3 at *
        refine held_take (i := 0) (some 19) rfl (by rfl) (by kernel_rfl) (by kernel_rfl) (by kernel_rfl) v (fun _ _ _ h => h) (by rfl) (fun w0 hS => by clear hS; go_simp; try with_reducible rfl) hS0 ?_
        simp only [Act.put, List.setIfInBounds_toArray, List.set_cons_succ, List.set_cons_zero]
        refine held_take (i := 3) (some 22) rfl (by rfl) (by kernel_rfl) (by kernel_rfl) (by kernel_rfl) (.pointer (some ⟨G, 2, none⟩)) (fun _ _ _ h => h) (by rfl) (fun w0 hS => by clear hS; go_simp; try with_reducible rfl) hS0 ?_
        simp only [Act.put, List.setIfInBounds_toArray, List.set_cons_succ, List.set_cons_zero]
        refine held_take (i := 4) (some 23) rfl (by rfl) (by kernel_rfl) (by kernel_rfl) (by kernel_rfl) (.int .i64 n) (fun _ _ _ h => h) (by rfl) (fun w0 hS => by have c : w0.cell? ⟨G, 2, none⟩ = some (.int .i64 n) := by { rw [cell_block hS]; rfl }; clear hS; go_simp; try with_reducible rfl) hS0 ?_
        simp only [Act.put, List.setIfInBounds_toArray, List.set_cons_succ, List.set_cons_zero]
        have hal : Below w3.heap.size w3 (w3.alloc (.cells #[.int .u8 64] 5 (0, 0))) := (Below.refl _ _).alloc (Nat.le_refl _) _
        have hnew : (w3.alloc (.cells #[.int .u8 64] 5 (0, 0))).heap[w3.heap.size]? = some (.cells #[.int .u8 64] 5 (0, 0)) := heap_alloc_new _ _
        refine held_run (i := 1) (some 20) rfl (by rfl) (by kernel_rfl) (by rfl) (.slice (some ⟨w3.heap.size, 0, none⟩) 1 1) (w3.alloc (.cells #[.int .u8 64] 5 (0, 0))) (by go_simp; try with_reducible rfl) ((hal.block _ (lt_block hS0)).trans hS0) ?_
        simp only [Act.put, List.setIfInBounds_toArray, List.set_cons_succ, List.set_cons_zero]
        refine held_append_one (i := 2) (some 21) rfl (by rfl) (by kernel_rfl) (by rfl) (.tmp 19) (.tmp 20) rfl N v l rfl 64 w3.heap.size 1 rfl hnew (HO3.out.below hal) (by omega) (by have := hal.size; omega) ?_
        intro v4 w4 hown4 hb4 hk4
        have hS4 := hk4 _ _ ((hal.block _ (lt_block hS0)).trans hS0) (by simp) (by intro c fz hc; injection hc with _ h2; exact absurd h2 (by decide))
        refine ⟨hS4, ?_⟩
        simp only [Act.put, List.setIfInBounds_toArray, List.set_cons_succ, List.set_cons_zero]
        have hb34 : Below N w3 w4 := ((Below.refl N w3).alloc hN3 _).trans hb4
        have hW4 := HW3.out.low hb34 hN0
        have hN4 : N ≤ w4.heap.size := by have := hb34.size; omega
        have HB4 := Lib.hid (HB3.out.trans hb34)
        clear hnew hal HO3 HW3 hS0 hk4 hb4 HB3 hb34 hN3
        refine held_call (i := 5) (some 24) rfl (by rfl) (by kernel_rfl) (by rfl) 47 #[v4, .int .i64 n, .int .i64 10] (by clear hS4; go_simp; try with_reducible rfl) ((appendInt_any w4 hW4 N v4 (l ++ [64]) n HN0.out HN1.out hown4 hN4 hN0 (by simp; omega)).mono ?_)
        rintro e w5 ⟨v5, rfl, hown5, hb5, hk5⟩
        have hS5 := hk5 _ _ hS4 (by simp) (by intro c fz hc; injection hc with _ h2; exact absurd h2 (by decide))
        refine ⟨v5, rfl, hS5, ?_⟩
        have HB5 := Lib.hid (HB4.out.trans hb5)
        have HO5 := Lib.hid hown5
        clear hS4 hk5 hown4 hown5 hW4 hN4 HB4 hb5
        refine held_run (i := 6) (some 4) rfl (by rfl) (by kernel_rfl) (by rfl) v5 w5 (by clear hS5; go_simp; try with_reducible rfl) hS5 ?_
        simp only [Act.put, List.setIfInBounds_toArray, List.set_cons_succ, List.set_cons_zero]
        refine wpAnyH_done (by kernel_rfl) ?_ _
        clear hS5
        go_wp2_with fail
        go_ret
        exact ⟨v5, rfl, by rw [← HR.out]; simpa using HO5.out, HB5.out⟩
      · have e4 : (k == 4) = false := by simpa using h4
        rw [if_neg h4] at hR2
        by_cases h3 : k = 3
        · subst h3
          rw [if_pos rfl] at hR2
          have HR := Lib.hid hR2
          clear hR2
          go_wp2_with fail
          refine (HQ.out w' v l HO'.out hN' (by omega)).mono ?_
          rintro e w2 ⟨v2, rfl, hown2, hb2⟩
          clear c0 c1 c2
          go_wp2_with fail
          go_ret
          exact ⟨v2, rfl, by rw [← HR.out]; exact hown2, HB.out.trans hb2⟩
        · have e3 : (k == 3) = false := by simpa using h3
          rw [if_neg h3] at hR2
          have HR := Lib.hid hR2
          clear hR2
          subst hs
          have hxl := HX.out
          go_wp2_with (at_builtin; refine append_text rfl (.tmp 31) (.tmp 33) rfl N _ l rfl x rfl HO'.out (by omega) hN' ?_)
          intro v2 w2 hown2 hb2
          clear c0 c1 c2
          go_wp2_with fail
          go_ret
          exact ⟨v2, rfl, by rw [← HR.out]; exact hown2, HB.out.trans hb2⟩
end Go.Proofs.YtcmnfbjlhdfmgaaDoor
