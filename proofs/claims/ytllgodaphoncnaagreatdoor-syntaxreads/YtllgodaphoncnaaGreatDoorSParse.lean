/- P8.1: ParseExpr. -/
import Derived.Test.YtllgodaphoncnaaGreatDoorJ38
import Derived.Test.YtllgodaphoncnaaGreatDoorSSize
namespace Go.Proofs.YtllgodaphoncnaaGreatDoor
open Go.RowKit

/-- what ParseExpr hands back -/
def PostE (w : World) (r : Tr × Nat × Int) (e : Ending) (w' : World) : Prop :=
  ∃ X : XV, e = .returned (.tuple #[X.v, .int .i64 (r.2.1 : Int), .int .i64 r.2.2]) ∧ TrAt (w.heap.size ≤ ·) w' r.1 X ∧ Below w.heap.size w w'
/-- a result's block that was made first, and the worlds behind it -/
structure EndX (w W : World) : Prop where
  below : Below w.heap.size w W
  res : W.heap[w.heap.size]? = some zero8
set_option maxRecDepth 100000 in
theorem EndX.low {w W W' : World} (h : EndX w W) (hb : Below W.heap.size W W') : EndX w W' :=
  ⟨h.below.trans (hb.mono h.below.size), (hb.block _ (lt_block h.res)).trans h.res⟩
set_option maxRecDepth 100000 in
theorem EndX.kept {w W W' : World} {b : Nat} (h : EndX w W) (hk : Kept1 b W W') (hb : w.heap.size < b) : EndX w W' :=
  ⟨⟨hk.os.trans h.below.os, hk.tape.trans h.below.tape, hk.output.trans h.below.output, Nat.le_trans h.below.size hk.size, fun k hk' => (hk.block k (by have := h.below.size; omega) (by omega)).trans (h.below.block k hk')⟩, (hk.block _ (lt_block h.res) (by omega)).trans h.res⟩
set_option maxRecDepth 100000 in
theorem EndX.cells {w W : World} (h : EndX w W) :
    W.cell? ⟨w.heap.size, 0, none⟩ = some (.string ⟨#[]⟩) ∧ W.cell? ⟨w.heap.size, 1, none⟩ = some (.int .i64 0) ∧ W.cell? ⟨w.heap.size, 2, none⟩ = some (.int .i64 0) ∧ W.cell? ⟨w.heap.size, 3, none⟩ = some (.string ⟨#[]⟩) ∧ W.cell? ⟨w.heap.size, 4, none⟩ = some (.slice none 0 0) ∧ W.cell? ⟨w.heap.size, 5, none⟩ = some (.string ⟨#[]⟩) ∧ W.cell? ⟨w.heap.size, 6, none⟩ = some (.string ⟨#[]⟩) ∧ W.cell? ⟨w.heap.size, 7, none⟩ = some (.slice none 0 0) ∧ (∀ o, W.frozen? ⟨w.heap.size, o, none⟩ = false) :=
  ⟨cell_block h.res 0, cell_block h.res 1, cell_block h.res 2, cell_block h.res 3, cell_block h.res 4, cell_block h.res 5, cell_block h.res 6, cell_block h.res 7, fun o => by simp [World.frozen?, h.res]⟩
set_option maxRecDepth 100000 in
theorem EndX.fin {w W : World} {t : Tr} {X : XV} (h : EndX w W) (ht : TrAt (w.heap.size + 1 ≤ ·) W t X) (pl : Nat) (e : Int) : PostE w (t, pl, e) (.returned (.tuple #[X.v, .int .i64 (pl : Int), .int .i64 e])) (setX W w.heap.size X) := by
  have hset := kept_set8 (w := W) w.heap.size (.string X.o) (.int .i64 X.x.k) (.int .i64 X.x.i) (.string X.x.s) (.slice X.x.a X.x.n X.x.c) (.string X.w) (.string X.n) (.slice X.a X.l X.c)
  refine ⟨X, rfl, (ht.kept (fun k hk hl => hset.block k hl (by omega))).mono (fun k _ hk => by show w.heap.size ≤ k; omega), ⟨hset.os.trans h.below.os, hset.tape.trans h.below.tape, hset.output.trans h.below.output, Nat.le_trans h.below.size hset.size, fun k hk => (hset.block k (by have := h.below.size; omega) (by omega)).trans (h.below.block k hk)⟩⟩
set_option maxRecDepth 100000 in
theorem endX_new (w : World) : EndX w (w.alloc zero8) := ⟨(Below.refl _ _).alloc (Nat.le_refl _) _, heap_alloc_new _ _⟩
abbrev noX : XV := ⟨⟨#[]⟩, ⟨0, 0, ⟨#[]⟩, none, 0, 0⟩, ⟨#[]⟩, ⟨#[]⟩, none, 0, 0⟩
set_option maxRecDepth 100000 in
theorem trAt_no (B : Nat → Prop) (w : World) : TrAt B w noTr noX := trAt_leaf (op := []) (who := []) (name := []) _ (valIs_none _ _) none 0
set_option maxRecDepth 100000 in
theorem EndX.same {w W : World} (h : EndX w W) (pl : Nat) (e : Int) : PostE w (noTr, pl, e) (.returned (.tuple #[noX.v, .int .i64 (pl : Int), .int .i64 e])) W := ⟨noX, rfl, trAt_no _ _, h.below⟩
set_option maxRecDepth 100000 in
set_option maxHeartbeats 4000000 in
theorem parse_any (w : World) (hw : LexW w) (h9 : 9 ≤ w.heap.size) (ad : Option Addr) (g o c : Nat) (T : List Tk) (hT : TokAt w ad g o T) (hwide : ∀ t ∈ T, t.Wide) (hm : T.length ≤ maxLen) :
    Calls Tryz.prog 13 #[.slice ad T.length c] w (PostE w (parseM T)) := by
  have HE0 := Lib.hid (endX_new w)
  unfold maxLen at hm
  by_cases hlong : 600 < T.length
  · have hP : parseM T = (noTr, 0, 13) := by unfold parseM; rw [if_pos hlong]
    rw [hP]
    have hd : ((600 : Int) < (T.length : Int)) = True := by simp; omega
    have hd2 : decide ((600 : Int) < (T.length : Int)) = true := by simp; omega
    have HFIN := Lib.hid (HE0.out.fin (trAt_no _ _) 0 13)
    have hl2 : (600 < T.length) = True := by simp; omega
    clear hP hT hwide hlong hw
    obtain ⟨n, hn⟩ : ∃ n, T.length = n := ⟨_, rfl⟩
    rw [hn] at hm hd hd2 hl2 ⊢
    clear hn
    go_enter Tryz.func13, Tryz.ntmps13
    obtain ⟨z0, z1, z2, z3, z4, z5, z6, z7, zf⟩ := HE0.out.cells
    go_wp2_with fail
    exact bodyPost_ret (v := .tuple #[noX.v, .int .i64 0, .int .i64 13]) (by simp [results, Tryz.results13, go_sem, XV.v, z0, z1, z2, z3, z4, z5, z6, z7]) rfl (HE0.out.same 0 13)
  · have hTl : T.length ≤ 600 := by omega
    have hgl : T ≠ [] → g < w.heap.size := fun hne => by
      have h0 := hT.cell 0 (List.length_pos_iff.2 hne) 0 (by omega)
      exact block_lt_of_cell h0
    obtain ⟨I, hI⟩ : ∃ I : RI, I.T = T ∧ I.ad = ad ∧ I.g = g ∧ I.o = o ∧ I.c = c ∧ I.b = w.heap.size + 1 ∧ I.Ty = 71 :=
      ⟨⟨T, ad, g, o, c, w.heap.size + 1, 71, hwide, hTl, fun hne => by have := hgl hne; omega, by omega⟩, rfl, rfl, rfl, rfl, rfl, rfl, rfl⟩
    obtain ⟨hI1, hI2, hI3, hI4, hI5, hI6, hI7⟩ := hI
    have hb2 : Below w.heap.size w ((w.alloc zero8).alloc (.cells #[.slice ad T.length c, .int .i64 0, .int .i64 0, .int .i64 0] 71 (0, 0))) := ((Below.refl _ _).alloc (Nat.le_refl _) _).alloc (by simp) _
    have hrd : Rd I ((w.alloc zero8).alloc (.cells #[.slice ad T.length c, .int .i64 0, .int .i64 0, .int .i64 0] 71 (0, 0))) ⟨0, none⟩ := by
      refine ⟨hw.below hb2, ?_, ?_, Nat.zero_le _, fun x hx => by cases hx⟩
      · rw [hI1, hI2, hI3, hI4]; exact hT.below hb2 (fun _ _ => rfl)
      · have := (two_blocks w zero8 (.cells #[.slice ad T.length c, .int .i64 0, .int .i64 0, .int .i64 0] 71 (0, 0))).2
        rw [hI6, this, hI7]
        simp [RI.cells, hI1, hI2, hI5, errP, errE]
    have HEX := Lib.hid (expr_any I _ ⟨0, none⟩ hrd)
    have hptr : I.ptr = .pointer (some ⟨w.heap.size + 1, 0, none⟩) := by unfold RI.ptr; rw [hI6]
    have hE2 : EndX w ((w.alloc zero8).alloc (.cells #[.slice ad T.length c, .int .i64 0, .int .i64 0, .int .i64 0] 71 (0, 0))) := HE0.out.low ((Below.refl _ _).alloc (Nat.le_refl _) _)
    have HE2 := Lib.hid hE2
    have hsz := size_expr (T := T) .ors ⟨0, none⟩
    have hln := (adv_expr (T := T) .ors ⟨0, none⟩).len (Nat.zero_le _)
    have hpl := (adv_expr (T := T) .ors ⟨0, none⟩).place rfl
    have HEND := Lib.hid (fun W q (hr : Rd I W q) => end_any I W q hr)
    rw [hptr] at HEX HEND
    rw [hI1] at HEX HEND
    have HIB := Lib.hid hI6
    have hP : parseM T = (match (if (exprP T .ors ⟨0, none⟩).2.at' < T.length then stopP (exprP T .ors ⟨0, none⟩).2 else (exprP T .ors ⟨0, none⟩).2).err with
        | some e => (noTr, e.2, e.1)
        | none => if 12 < depthT (exprP T .ors ⟨0, none⟩).1 then (noTr, 0, 11) else ((exprP T .ors ⟨0, none⟩).1, 0, 0)) := by
      unfold parseM; rw [if_neg hlong]; rfl
    rw [hP]
    obtain ⟨r, hr⟩ : ∃ r, exprP T .ors ⟨0, none⟩ = r := ⟨_, rfl⟩
    rw [hr] at HEX hsz hln ⊢
    obtain ⟨t, q⟩ := r
    dsimp only at hsz hln HEX ⊢
    have HENQ := Lib.hid (fun W (hr : Rd I W q) => HEND.out W q hr)
    obtain ⟨q2, hq2⟩ : ∃ q2, (if q.at' < T.length then stopP q else q) = q2 := ⟨_, rfl⟩
    rw [hq2] at HENQ ⊢
    have HSZ : Hid (sizeT t ≤ 100000) := Lib.hid (by simp only [Nat.sub_zero] at hsz; omega)
    obtain ⟨RR, hRR⟩ : ∃ RR, (match q2.err with
        | some e => (noTr, e.2, e.1)
        | none => if 12 < depthT t then (noTr, 0, 11) else (t, 0, 0)) = RR := ⟨_, rfl⟩
    rw [hRR]
    have HRR := Lib.hid hRR
    have d1 : ((600 : Int) < (T.length : Int)) = False := by simp; omega
    have d2 : decide ((600 : Int) < (T.length : Int)) = false := by simp; omega
    have d3 : (600 < T.length) = False := by simp; omega
    clear hP hRR hq2 hr hlong hT hwide hw hgl hrd hb2 hptr hE2 hsz hln hpl HEND hI1 hI2 hI3 hI4 hI5 hI6 hI7
    generalize T.length = n at *
    clear T
    go_enter Tryz.func13, Tryz.ntmps13
    go_wp2_with fail
    refine HEX.out.mono ?_
    rintro e w3 ⟨X, rfl, ht3, h3, k3⟩
    rw [HIB.out] at k3
    have HE3 := Lib.hid (HE2.out.kept k3 (Nat.lt_succ_self _))
    have HT3 := Lib.hid (ht3.mono (B' := fun k => w.heap.size + 2 ≤ k) (fun k _ hk => by simp at hk; omega))
    have HS3 : Hid (w.heap.size + 1 < w3.heap.size) := Lib.hid (by have := k3.size; simp at this; omega)
    have hbA : Below w3.heap.size w3 (w3.alloc (.cells #[.string X.o, .int .i64 X.x.k, .int .i64 X.x.i, .string X.x.s, .slice X.x.a X.x.n X.x.c, .string X.w, .string X.n, .slice X.a X.l X.c] 27 (0, 0))) := (Below.refl _ _).alloc (Nat.le_refl _) _
    have HRA := Lib.hid (h3.below hbA)
    have HEA := Lib.hid (HE3.out.low hbA)
    have HTA := Lib.hid (HT3.out.low hbA)
    have HGA : Hid ((w3.alloc (.cells #[.string X.o, .int .i64 X.x.k, .int .i64 X.x.i, .string X.x.s, .slice X.x.a X.x.n X.x.c, .string X.w, .string X.n, .slice X.a X.l X.c] 27 (0, 0))).heap[w3.heap.size]? = some (.cells #[.string X.o, .int .i64 X.x.k, .int .i64 X.x.i, .string X.x.s, .slice X.x.a X.x.n X.x.c, .string X.w, .string X.n, .slice X.a X.l X.c] 27 (0, 0))) := Lib.hid (heap_alloc_new _ _)
    clear ht3 h3 k3 hbA HEX HE2 HE0
    unfold XV.v
    go_wp2_with fail
    refine (HENQ.out _ HRA.out).mono ?_
    rintro e w4 ⟨rfl, h4, k4⟩
    rw [HIB.out] at k4
    have HE4 := Lib.hid (HEA.out.kept k4 (Nat.lt_succ_self _))
    have HT4 := Lib.hid (HTA.out.kept (w' := w4) (fun k hk hl => k4.block k hl (by omega)))
    have hg4 : w4.heap[w3.heap.size]? = some (.cells #[.string X.o, .int .i64 X.x.k, .int .i64 X.x.i, .string X.x.s, .slice X.x.a X.x.n X.x.c, .string X.w, .string X.n, .slice X.a X.l X.c] 27 (0, 0)) := (k4.block _ (by simp) (by have := HS3.out; omega)).trans HGA.out
    have HG4 := Lib.hid hg4
    have c2 := h4.c2
    have c3 := h4.c3
    rw [HIB.out] at c2 c3
    have H4 := Lib.hid h4
    clear h4 k4 hg4 HRA HEA HTA HGA HENQ HT3 HE3
    cases he : q2.err with
    | some x =>
      have e3 : errE q2 = x.1 := by unfold errE; rw [he]
      have e2 : errP q2 = x.2 := by unfold errP; rw [he]
      have hx : (x.1 != 0) = true := by simpa using H4.out.err x he
      have hRR : RR = (noTr, x.2, x.1) := by rw [← HRR.out, he]
      subst hRR
      rw [e3] at c3
      rw [e2] at c2
      obtain ⟨xe, xp⟩ := x
      dsimp only at hx c2 c3 ⊢
      clear e3 e2 he HRR HT4 HG4
      have HC2 := Lib.hid c2
      have HC3 := Lib.hid c3
      go_wp2_with fail
      clear c2 c3
      refine wp_region_held (S := fun W => W.cell? ⟨w.heap.size + 1, 2, none⟩ = some (.int .i64 xp) ∧ W.cell? ⟨w.heap.size + 1, 3, none⟩ = some (.int .i64 xe)) (by kernel_rfl) ?_
      change wpAnyH _ _ _ _ _ _ _ _ (World.drew _)
      have HE5 := Lib.hid (HE4.out.low (W' := w4.drew) (Below.refl _ _).drew)
      have hS0 : w4.drew.cell? ⟨w.heap.size + 1, 2, none⟩ = some (.int .i64 xp) ∧ w4.drew.cell? ⟨w.heap.size + 1, 3, none⟩ = some (.int .i64 xe) := ⟨HC2.out, HC3.out⟩
      generalize w4.drew = w5 at *
      refine held_take (i := 0) (some 21) rfl (by rfl) (by kernel_rfl) (by kernel_rfl) (by kernel_rfl) (.agg #[.string ⟨#[]⟩, .int .i64 0, .int .i64 0, .string ⟨#[]⟩, .slice none 0 0, .string ⟨#[]⟩, .string ⟨#[]⟩, .slice none 0 0]) (fun _ _ _ h => h) (by rfl) (fun w0 hS => by clear hS; go_simp; try with_reducible rfl) hS0 ?_
      simp only [Act.put, List.setIfInBounds_toArray, List.set_cons_succ, List.set_cons_zero]
      refine held_take (i := 1) (some 22) rfl (by rfl) (by kernel_rfl) (by kernel_rfl) (by kernel_rfl) (.pointer (some ⟨w.heap.size + 1, 0, none⟩)) (fun _ _ _ h => h) (by rfl) (fun w0 hS => by clear hS; go_simp; try with_reducible rfl) hS0 ?_
      simp only [Act.put, List.setIfInBounds_toArray, List.set_cons_succ, List.set_cons_zero]
      refine held_take (i := 2) (some 23) rfl (by rfl) (by kernel_rfl) (by kernel_rfl) (by kernel_rfl) (.pointer (some ⟨w.heap.size + 1, 2, none⟩)) (fun _ _ _ h => h) (by rfl) (fun w0 hS => by clear hS; go_simp; try with_reducible rfl) hS0 ?_
      simp only [Act.put, List.setIfInBounds_toArray, List.set_cons_succ, List.set_cons_zero]
      refine held_take (i := 3) (some 24) rfl (by rfl) (by kernel_rfl) (by kernel_rfl) (by kernel_rfl) (.int .i64 xp) (fun _ _ _ h => h) (by rfl) (fun w0 hS => by obtain ⟨s2, s3⟩ := hS; go_simp; try with_reducible rfl) hS0 ?_
      simp only [Act.put, List.setIfInBounds_toArray, List.set_cons_succ, List.set_cons_zero]
      refine held_take (i := 4) (some 25) rfl (by rfl) (by kernel_rfl) (by kernel_rfl) (by kernel_rfl) (.pointer (some ⟨w.heap.size + 1, 0, none⟩)) (fun _ _ _ h => h) (by rfl) (fun w0 hS => by clear hS; go_simp; try with_reducible rfl) hS0 ?_
      simp only [Act.put, List.setIfInBounds_toArray, List.set_cons_succ, List.set_cons_zero]
      refine held_take (i := 5) (some 26) rfl (by rfl) (by kernel_rfl) (by kernel_rfl) (by kernel_rfl) (.pointer (some ⟨w.heap.size + 1, 3, none⟩)) (fun _ _ _ h => h) (by rfl) (fun w0 hS => by clear hS; go_simp; try with_reducible rfl) hS0 ?_
      simp only [Act.put, List.setIfInBounds_toArray, List.set_cons_succ, List.set_cons_zero]
      refine held_take (i := 6) (some 27) rfl (by rfl) (by kernel_rfl) (by kernel_rfl) (by kernel_rfl) (.int .i64 xe) (fun _ _ _ h => h) (by rfl) (fun w0 hS => by obtain ⟨s2, s3⟩ := hS; go_simp; try with_reducible rfl) hS0 ?_
      simp only [Act.put, List.setIfInBounds_toArray, List.set_cons_succ, List.set_cons_zero]
      obtain ⟨z0, z1, z2, z3, z4, z5, z6, z7, zf⟩ := HE5.out.cells
      have HFIN := Lib.hid (HE5.out.fin (trAt_no _ _) xp xe)
      have hS1 : (setX w5 w.heap.size noX).cell? ⟨w.heap.size + 1, 2, none⟩ = some (.int .i64 xp) ∧ (setX w5 w.heap.size noX).cell? ⟨w.heap.size + 1, 3, none⟩ = some (.int .i64 xe) := by
        obtain ⟨s2, s3⟩ := hS0
        constructor
        · rw [(kept_set8 (w := w5) w.heap.size _ _ _ _ _ _ _ _).cell (block_lt_of_cell s2) (by simp)]; exact s2
        · rw [(kept_set8 (w := w5) w.heap.size _ _ _ _ _ _ _ _).cell (block_lt_of_cell s3) (by simp)]; exact s3
      dsimp only [setX, set8] at hS1
      refine held_skip (i := 7) none rfl (by rfl) (by kernel_rfl) (by rfl) _ (by go_simp; try with_reducible rfl) hS1 ?_
      simp only [Act.put]
      refine held_run (i := 8) (some 3) rfl (by rfl) (by kernel_rfl) (by rfl) (.int .i64 xp) _ (by go_simp; try with_reducible rfl) hS1 ?_
      simp only [Act.put, List.setIfInBounds_toArray, List.set_cons_succ, List.set_cons_zero]
      refine held_run (i := 9) (some 4) rfl (by rfl) (by kernel_rfl) (by rfl) (.int .i64 xe) _ (by go_simp; try with_reducible rfl) hS1 ?_
      simp only [Act.put, List.setIfInBounds_toArray, List.set_cons_succ, List.set_cons_zero]
      refine wpAnyH_done (by kernel_rfl) ?_ _
      clear hS0 hS1
      go_wp2_with fail
      exact bodyPost_ret (v := .tuple #[noX.v, .int .i64 xp, .int .i64 xe]) (by simp [results, Tryz.results13, go_sem, XV.v, z0, z1, z2, z3, z4, z5, z6, z7]) rfl HFIN.out
    | none =>
      have e3 : errE q2 = 0 := by unfold errE; rw [he]
      have hRR : RR = if 12 < depthT t then (noTr, 0, 11) else (t, 0, 0) := by rw [← HRR.out, he]
      have RRE := Lib.hid hRR
      clear hRR
      rw [e3] at c3
      have HDE := Lib.hid (fun W (hb : Below w4.heap.size w4 W) => depth_any W t X (fun k => w.heap.size + 2 ≤ k) (by omega) (HT4.out.low hb) HSZ.out)
      have y0 : w4.cell? ⟨w3.heap.size, 0, none⟩ = _ := cell_block HG4.out 0
      have y1 : w4.cell? ⟨w3.heap.size, 1, none⟩ = _ := cell_block HG4.out 1
      have y2 : w4.cell? ⟨w3.heap.size, 2, none⟩ = _ := cell_block HG4.out 2
      have y3 : w4.cell? ⟨w3.heap.size, 3, none⟩ = _ := cell_block HG4.out 3
      have y4 : w4.cell? ⟨w3.heap.size, 4, none⟩ = _ := cell_block HG4.out 4
      have y5 : w4.cell? ⟨w3.heap.size, 5, none⟩ = _ := cell_block HG4.out 5
      have y6 : w4.cell? ⟨w3.heap.size, 6, none⟩ = _ := cell_block HG4.out 6
      have y7 : w4.cell? ⟨w3.heap.size, 7, none⟩ = _ := cell_block HG4.out 7
      simp only [List.getElem?_toArray, List.getElem?_cons_zero, List.getElem?_cons_succ] at y0 y1 y2 y3 y4 y5 y6 y7
      obtain ⟨D, hD⟩ : ∃ D, depthT t = D := ⟨_, rfl⟩
      have hdl : D ≤ 100000 := by have := depth_size t; have := HSZ.out; omega
      rw [hD] at HDE RRE
      clear e3 he HRR c2 hD
      unfold XV.v at HDE
      go_wp2_with fail
      refine (HDE.out _ (Below.refl _ _)).mono ?_
      rintro e w5 ⟨rfl, hb5⟩
      have HE5 := Lib.hid (HE4.out.low hb5)
      have HT5 := Lib.hid ((HT4.out.low hb5).mono (B' := fun k => w.heap.size + 1 ≤ k) (fun k _ hk => by omega))
      have hg5 := (hb5.block _ (lt_block HG4.out)).trans HG4.out
      have HG5 := Lib.hid hg5
      obtain ⟨z0, z1, z2, z3, z4, z5, z6, z7, zf⟩ := HE5.out.cells
      clear y0 y1 y2 y3 y4 y5 y6 y7 c3 hb5 hg5 HDE
      by_cases h12 : 12 < D
      · obtain rfl : RR = (noTr, 0, 11) := by rw [RRE.out, if_pos h12]
        clear RRE
        have d4 : ((12 : Int) < (D : Int)) = True := by simp; omega
        have d5 : decide ((12 : Int) < (D : Int)) = true := by simp; omega
        have d6 : (12 < D) = True := by simp; omega
        have HFIN := Lib.hid (HE5.out.fin (trAt_no _ _) 0 11)
        clear h12
        go_wp2_with fail
        exact bodyPost_ret (v := .tuple #[noX.v, .int .i64 0, .int .i64 11]) (by simp [results, Tryz.results13, go_sem, XV.v, z0, z1, z2, z3, z4, z5, z6, z7]) rfl HFIN.out
      · obtain rfl : RR = (t, 0, 0) := by rw [RRE.out, if_neg h12]
        clear RRE
        have d4 : ((12 : Int) < (D : Int)) = False := by simp; omega
        have d5 : decide ((12 : Int) < (D : Int)) = false := by simp; omega
        have d6 : (12 < D) = False := by simp; omega
        have HFIN := Lib.hid (HE5.out.fin HT5.out 0 0)
        have y0 : w5.cell? ⟨w3.heap.size, 0, none⟩ = _ := cell_block HG5.out 0
        have y1 : w5.cell? ⟨w3.heap.size, 1, none⟩ = _ := cell_block HG5.out 1
        have y2 : w5.cell? ⟨w3.heap.size, 2, none⟩ = _ := cell_block HG5.out 2
        have y3 : w5.cell? ⟨w3.heap.size, 3, none⟩ = _ := cell_block HG5.out 3
        have y4 : w5.cell? ⟨w3.heap.size, 4, none⟩ = _ := cell_block HG5.out 4
        have y5 : w5.cell? ⟨w3.heap.size, 5, none⟩ = _ := cell_block HG5.out 5
        have y6 : w5.cell? ⟨w3.heap.size, 6, none⟩ = _ := cell_block HG5.out 6
        have y7 : w5.cell? ⟨w3.heap.size, 7, none⟩ = _ := cell_block HG5.out 7
        simp only [List.getElem?_toArray, List.getElem?_cons_zero, List.getElem?_cons_succ] at y0 y1 y2 y3 y4 y5 y6 y7
        clear h12
        go_wp2_with fail
        exact bodyPost_ret (v := .tuple #[X.v, .int .i64 0, .int .i64 0]) (by simp [results, Tryz.results13, go_sem, XV.v, z0, z1, z2, z3, z4, z5, z6, z7]) rfl HFIN.out
end Go.Proofs.YtllgodaphoncnaaGreatDoor
