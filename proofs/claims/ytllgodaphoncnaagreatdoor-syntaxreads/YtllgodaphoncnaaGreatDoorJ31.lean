/- A reader's calls: literals; A reader's calls: a bag's items. -/
import Derived.Test.YtllgodaphoncnaaGreatDoorSRd4
namespace Go.Proofs.YtllgodaphoncnaaGreatDoor
open Go.RowKit

def literalP (T : List Tk) (p : PS) : (Val × Bool) × PS := match litP (aheadP T p) with
  | some v => ((v, true), passP p)
  | none => ((noVal, false), p)
set_option maxRecDepth 100000 in
theorem text_short (s : ByteArray) (hs : s.size ≤ 64) (w : World) :
    Calls Tryz.prog 158 #[.string s] w fun e w' => e = .returned (V 3 0 s none 0 0) ∧ Below w.heap.size w w' := by
  have h := text_any s (by unfold maxLen; omega) w
  rw [show min s.size 64 = s.size by omega, ByteArray.extract_zero_size] at h
  exact h
set_option maxRecDepth 100000 in
theorem heap_set4 {w : World} {g : Nat} {y0 y1 y2 y3 : Value} {T : TypeId} (h : w.heap[g]? = some (.cells #[y0, y1, y2, y3] T (0, 0))) (x0 x1 x2 x3 : Value) :
    ((((w.setCell ⟨g, 0, none⟩ x0).setCell ⟨g, 1, none⟩ x1).setCell ⟨g, 2, none⟩ x2).setCell ⟨g, 3, none⟩ x3).heap[g]? = some (.cells #[x0, x1, x2, x3] T (0, 0)) := by
  have h0 := heap_setCell_same w g 0 _ T x0 h
  have h1 := heap_setCell_same _ g 1 _ T x1 h0
  have h2 := heap_setCell_same _ g 2 _ T x2 h1
  have h3 := heap_setCell_same _ g 3 _ T x3 h2
  simpa using h3
set_option maxRecDepth 100000 in
theorem kept_set4 {w : World} (g : Nat) (x0 x1 x2 x3 : Value) :
    Kept1 g w ((((w.setCell ⟨g, 0, none⟩ x0).setCell ⟨g, 1, none⟩ x1).setCell ⟨g, 2, none⟩ x2).setCell ⟨g, 3, none⟩ x3) :=
  Kept1.setCell (p := ⟨g, 3, none⟩) (hp := .inl rfl) (u := x3) <| Kept1.setCell (p := ⟨g, 2, none⟩) (hp := .inl rfl) (u := x2) <| Kept1.setCell (p := ⟨g, 1, none⟩) (hp := .inl rfl) (u := x1) <| Kept1.setCell (p := ⟨g, 0, none⟩) (hp := .inl rfl) (u := x0) <| Kept1.refl g w
set_option maxRecDepth 100000 in
/-- a reader, where other blocks may have been turned that were new -/
theorem Rd.across {I : RI} {w w1 W : World} {p q : PS} {g : Nat} (h : Rd I w p) (hr : Rd I w1 q) (hk : Kept1 I.b w w1) (hW : Kept1 g w1 W) (hg : w.heap.size ≤ g) : Rd I W q ∧ Kept1 I.b w W := by
  have hlt := h.lt
  have hkW := hk.across hW hg
  exact ⟨h.kept hkW ((hW.block I.b (by have := hr.lt; omega) (by omega)).trans hr.blk) hr.at' hr.err, hkW⟩
abbrev set4 (w : World) (g : Nat) (x0 x1 x2 x3 : Value) : World := (((w.setCell ⟨g, 0, none⟩ x0).setCell ⟨g, 1, none⟩ x1).setCell ⟨g, 2, none⟩ x2).setCell ⟨g, 3, none⟩ x3
abbrev zero4 : Obj := .cells #[.int .i64 0, .int .i64 0, .string ⟨#[]⟩, .slice none 0 0] 24 (0, 0)
/-- a value's block, with the result's own beside it -/
structure LitW (I : RI) (w W : World) (p : PS) (gV : Nat) : Prop where
  h0 : Rd I w p
  rd : Rd I W p
  kept : Kept1 I.b w W
  res : W.heap[w.heap.size]? = some zero4
  val : W.heap[gV]? = some zero4
  ne : w.heap.size < gV
set_option maxRecDepth 100000 in
theorem LitW.low {I : RI} {w W W' : World} {p : PS} {gV : Nat} (h : LitW I w W p gV) (hb : Below W.heap.size W W') : LitW I w W' p gV :=
  ⟨h.h0, h.rd.below hb, h.kept.trans (.of_below hb), (hb.block _ (lt_block h.res)).trans h.res, (hb.block _ (lt_block h.val)).trans h.val, h.ne⟩
set_option maxRecDepth 100000 in
theorem LitW.cells {I : RI} {w W : World} {p : PS} {gV : Nat} (h : LitW I w W p gV) :
    (W.cell? ⟨gV, 0, none⟩ = some (.int .i64 0) ∧ W.cell? ⟨gV, 1, none⟩ = some (.int .i64 0) ∧ W.cell? ⟨gV, 2, none⟩ = some (.string ⟨#[]⟩) ∧ W.cell? ⟨gV, 3, none⟩ = some (.slice none 0 0)) ∧
    (W.cell? ⟨w.heap.size, 0, none⟩ = some (.int .i64 0) ∧ W.cell? ⟨w.heap.size, 1, none⟩ = some (.int .i64 0) ∧ W.cell? ⟨w.heap.size, 2, none⟩ = some (.string ⟨#[]⟩) ∧ W.cell? ⟨w.heap.size, 3, none⟩ = some (.slice none 0 0)) ∧
    (∀ o, W.frozen? ⟨gV, o, none⟩ = false) ∧ (∀ o, W.frozen? ⟨w.heap.size, o, none⟩ = false) :=
  ⟨⟨cell_block h.val 0, cell_block h.val 1, cell_block h.val 2, cell_block h.val 3⟩, ⟨cell_block h.res 0, cell_block h.res 1, cell_block h.res 2, cell_block h.res 3⟩, fun o => by simp [World.frozen?, h.val], fun o => by simp [World.frozen?, h.res]⟩
set_option maxRecDepth 100000 in
theorem LitW.set {I : RI} {w W : World} {p : PS} {gV : Nat} (h : LitW I w W p gV) (x0 x1 x2 x3 : Value) :
    Rd I (set4 W gV x0 x1 x2 x3) p ∧ ∀ w4 q, Rd I w4 q → Kept1 I.b (set4 W gV x0 x1 x2 x3) w4 →
      (w4.cell? ⟨gV, 0, none⟩ = some x0 ∧ w4.cell? ⟨gV, 1, none⟩ = some x1 ∧ w4.cell? ⟨gV, 2, none⟩ = some x2 ∧ w4.cell? ⟨gV, 3, none⟩ = some x3) ∧
      (w4.cell? ⟨w.heap.size, 0, none⟩ = some (.int .i64 0) ∧ w4.cell? ⟨w.heap.size, 1, none⟩ = some (.int .i64 0) ∧ w4.cell? ⟨w.heap.size, 2, none⟩ = some (.string ⟨#[]⟩) ∧ w4.cell? ⟨w.heap.size, 3, none⟩ = some (.slice none 0 0)) ∧
      (∀ o, w4.frozen? ⟨w.heap.size, o, none⟩ = false) ∧ ∀ y0 y1 y2 y3, Rd I (set4 w4 w.heap.size y0 y1 y2 y3) q ∧ Kept1 I.b w (set4 w4 w.heap.size y0 y1 y2 y3) := by
  have hlt := h.h0.lt
  obtain ⟨r1, k1⟩ := h.h0.across h.rd h.kept (kept_set4 (w := W) gV x0 x1 x2 x3) (Nat.le_of_lt h.ne)
  refine ⟨r1, fun w4 q hq hk => ?_⟩
  have hsz : (set4 W gV x0 x1 x2 x3).heap.size = W.heap.size := by simp [World.setCell]
  have gv : w4.heap[gV]? = some (.cells #[x0, x1, x2, x3] 24 (0, 0)) := by
    rw [hk.block gV (by rw [hsz]; exact lt_block h.val) (by have := h.ne; omega)]
    exact heap_set4 h.val _ _ _ _
  have gr : w4.heap[w.heap.size]? = some zero4 := by
    rw [hk.block _ (by rw [hsz]; exact lt_block h.res) (by omega), (kept_set4 (w := W) gV x0 x1 x2 x3).block _ (lt_block h.res) (by have := h.ne; omega)]
    exact h.res
  refine ⟨⟨cell_block gv 0, cell_block gv 1, cell_block gv 2, cell_block gv 3⟩, ⟨cell_block gr 0, cell_block gr 1, cell_block gr 2, cell_block gr 3⟩, fun o => by simp [World.frozen?, gr], fun y0 y1 y2 y3 => ?_⟩
  exact h.h0.across hq (k1.trans hk) (kept_set4 (w := w4) w.heap.size y0 y1 y2 y3) (Nat.le_refl _)
set_option maxRecDepth 100000 in
theorem litW_new {I : RI} {w w1 : World} {p : PS} (h : Rd I w p) (hb : Below (w.alloc zero4).heap.size (w.alloc zero4) w1) (o : Obj) : LitW I w ((w1.alloc o).alloc zero4) p (w1.heap.size + 1) := by
  have hb0 : Below w.heap.size w (w.alloc zero4) := (Below.refl _ _).alloc (Nat.le_refl _) _
  have hb1 : Below w.heap.size w w1 := hb0.trans (hb.mono hb0.size)
  have hb2 : Below w1.heap.size w1 ((w1.alloc o).alloc zero4) := ((Below.refl _ _).alloc (Nat.le_refl _) _).alloc (by simp) _
  have hb3 := hb1.trans (hb2.mono hb1.size)
  have hs : w.heap.size < w1.heap.size := by have := hb.size; simp at this; omega
  refine ⟨h, h.below hb3, .of_below hb3, ?_, ?_, by omega⟩
  · rw [hb2.block _ hs, hb.block _ (by simp)]; exact heap_alloc_new _ _
  · have := heap_alloc_new (w1.alloc o) zero4
    rwa [World.size_alloc] at this
set_option maxRecDepth 100000 in
theorem res_old {w w1 : World} (hb : Below (w.alloc zero4).heap.size (w.alloc zero4) w1) : w1.cell? ⟨w.heap.size, 0, none⟩ = some (.int .i64 0) ∧ w1.cell? ⟨w.heap.size, 1, none⟩ = some (.int .i64 0) ∧ w1.cell? ⟨w.heap.size, 2, none⟩ = some (.string ⟨#[]⟩) ∧ w1.cell? ⟨w.heap.size, 3, none⟩ = some (.slice none 0 0) ∧
    (∀ o, w1.frozen? ⟨w.heap.size, o, none⟩ = false) ∧ w.heap.size < w1.heap.size ∧ ¬ w.heap.size = w1.heap.size ∧ ¬ w.heap.size = w1.heap.size + 1 := by
  have hs : w.heap.size < w1.heap.size := by have := hb.size; simp at this; omega
  have g : w1.heap[w.heap.size]? = some zero4 := by rw [hb.block _ (by simp)]; exact heap_alloc_new _ _
  exact ⟨cell_block g 0, cell_block g 1, cell_block g 2, cell_block g 3, fun o => by simp [World.frozen?, g], hs, by omega, by omega⟩
set_option maxRecDepth 100000 in
theorem none_end {I : RI} {w w1 : World} {p : PS} (h : Rd I w p) (hb : Below (w.alloc zero4).heap.size (w.alloc zero4) w1) (o1 o2 : Obj) :
    (((set4 w1 w.heap.size (.int .i64 0) (.int .i64 0) (.string ⟨#[]⟩) (.slice none 0 0)).alloc o1).alloc o2).cell? ⟨w.heap.size, 0, none⟩ = some (.int .i64 0) ∧ (((set4 w1 w.heap.size (.int .i64 0) (.int .i64 0) (.string ⟨#[]⟩) (.slice none 0 0)).alloc o1).alloc o2).cell? ⟨w.heap.size, 1, none⟩ = some (.int .i64 0) ∧
    (((set4 w1 w.heap.size (.int .i64 0) (.int .i64 0) (.string ⟨#[]⟩) (.slice none 0 0)).alloc o1).alloc o2).cell? ⟨w.heap.size, 2, none⟩ = some (.string ⟨#[]⟩) ∧ (((set4 w1 w.heap.size (.int .i64 0) (.int .i64 0) (.string ⟨#[]⟩) (.slice none 0 0)).alloc o1).alloc o2).cell? ⟨w.heap.size, 3, none⟩ = some (.slice none 0 0) ∧
    Rd I (((set4 w1 w.heap.size (.int .i64 0) (.int .i64 0) (.string ⟨#[]⟩) (.slice none 0 0)).alloc o1).alloc o2) p ∧ Kept1 I.b w (((set4 w1 w.heap.size (.int .i64 0) (.int .i64 0) (.string ⟨#[]⟩) (.slice none 0 0)).alloc o1).alloc o2) := by
  have hb0 : Below w.heap.size w (w.alloc zero4) := (Below.refl _ _).alloc (Nat.le_refl _) _
  have hb1 : Below w.heap.size w w1 := hb0.trans (hb.mono hb0.size)
  have g : w1.heap[w.heap.size]? = some zero4 := by rw [hb.block _ (by simp)]; exact heap_alloc_new _ _
  have gs := heap_set4 g (.int .i64 0) (.int .i64 0) (.string ⟨#[]⟩) (.slice none 0 0)
  obtain ⟨r1, k1⟩ := h.across (h.below hb1) (.of_below hb1) (kept_set4 (w := w1) w.heap.size (.int .i64 0) (.int .i64 0) (.string ⟨#[]⟩) (.slice none 0 0)) (Nat.le_refl _)
  unfold set4
  generalize World.setCell _ _ _ = W at *
  have hbW : Below W.heap.size W ((W.alloc o1).alloc o2) := ((Below.refl _ _).alloc (Nat.le_refl _) _).alloc (by simp) _
  have gF := (hbW.block _ (lt_block gs)).trans gs
  exact ⟨cell_block gF 0, cell_block gF 1, cell_block gF 2, cell_block gF 3, r1.below hbW, k1.trans (.of_below hbW)⟩
set_option maxRecDepth 100000 in
theorem alloc_set4 (w1 : World) (o : Obj) (x0 x1 x2 x3 : Value) : set4 ((w1.alloc o).alloc zero4) (w1.heap.size + 1) x0 x1 x2 x3 = (w1.alloc o).alloc (.cells #[x0, x1, x2, x3] 24 (0, 0)) := by
  simp [set4, go_sem]
set_option maxRecDepth 100000 in
set_option maxHeartbeats 4000000 in
theorem literal_any (I : RI) (w : World) (p : PS) (h : Rd I w p) :
    Calls Tryz.prog 151 #[I.ptr] w fun e w' => e = .returned (.tuple #[(literalP I.T p).1.1.v, .bool (literalP I.T p).1.2]) ∧ Rd I w' (literalP I.T p).2 ∧ Kept1 I.b w w' := by
  have HA := Lib.hid (fun W (hr : Rd I W p) => ahead_any I W p hr)
  have HP := Lib.hid (fun (hk : (aheadP I.T p).k ≠ 0) W (hr : Rd I W p) => pass_any I W p hr (ahead_ne hk).2.1)
  have hsh := ahead_short I.T p
  have H := Lib.hid h
  have hlt := h.lt
  have HLT := Lib.hid hlt
  clear h hlt
  unfold literalP
  obtain ⟨t, ht⟩ : ∃ t, aheadP I.T p = t := ⟨_, rfl⟩
  rw [ht] at HA HP hsh ⊢
  clear ht
  obtain ⟨tk, ts, tn⟩ := t
  rw [tok_val] at HA
  unfold RI.ptr at *
  dsimp only at *
  have HC := Lib.hid (fun W => clone_st W ts (by omega))
  have hsz := size_st ts
  obtain ⟨S, hS⟩ : ∃ S, st ts = S := ⟨_, rfl⟩
  have HS := Lib.hid hS
  have es := toList_st ts
  rw [hS] at HA HC hsz es
  have HSZ := Lib.hid hsz
  have hss : S.size ≤ 64 := by omega
  have HT := Lib.hid (fun W => text_short S hss W)
  clear hS hsh hsz hss
  have hb0 : Below w.heap.size w (w.alloc (.cells #[.int .i64 0, .int .i64 0, .string ⟨#[]⟩, .slice none 0 0] 24)) := (Below.refl _ _).alloc (Nat.le_refl _) _
  have HB0 := Lib.hid hb0
  clear hb0
  by_cases h2 : tk = 2
  · subst h2
    have e : litP ⟨2, ts, tn⟩ = some ⟨2, tn, ⟨#[]⟩, none, 0, 0⟩ := rfl
    rw [e]
    clear e HC HT
    dsimp only [Val.v]
    go_enter Tryz.func151, Tryz.ntmps151
    go_wp2_with fail
    refine (HA.out _ (H.out.below HB0.out)).mono ?_
    rintro e w1 ⟨rfl, h1⟩
    have hlw := litW_new H.out h1 (.cells #[.int .i64 2, .string S, .int .i64 tn] 41 (0, 0))
    have HLW := Lib.hid hlw
    have H1 := Lib.hid h1
    clear h1 hlw HA
    go_wp2_with fail
    refine (number_any tn _).mono ?_
    rintro e w2 ⟨rfl, h2⟩
    have HLW := Lib.hid (HLW.out.low h2)
    clear h2
    obtain ⟨⟨x0, x1, x2, x3⟩, -, xf, -⟩ := HLW.out.cells
    go_wp2_with fail
    clear x0 x1 x2 x3 xf
    obtain ⟨r1, HH⟩ := HLW.out.set (.int .i64 2) (.int .i64 tn) (.string ⟨#[]⟩) (.slice none 0 0)
    refine (HP.out (by decide) _ r1).mono ?_
    rintro e w3 ⟨rfl, h3, h4⟩
    obtain ⟨⟨y0, y1, y2, y3⟩, ⟨z0, z1, z2, z3⟩, zf, HE⟩ := HH w3 _ h3 h4
    have HEE := Lib.hid HE
    clear HH HE r1 h3 h4 HP HLW
    go_wp2_with fail
    exact bodyPost_ret (v := .tuple #[V 2 tn ⟨#[]⟩ none 0 0, .bool true]) (by simp [results, Tryz.results151, go_sem, V, z0, z1, z2, z3]) rfl ⟨rfl, HEE.out _ _ _ _⟩
  have k2 : (tk == 2) = false := by simpa using h2
  by_cases h3 : tk = 3
  · subst h3
    have e : litP ⟨3, ts, tn⟩ = some ⟨3, 0, st ts, none, 0, 0⟩ := rfl
    rw [e, HS.out]
    clear e
    dsimp only [Val.v]
    go_enter Tryz.func151, Tryz.ntmps151
    go_wp2_with fail
    refine (HA.out _ (H.out.below HB0.out)).mono ?_
    rintro e w1 ⟨rfl, h1⟩
    have hlw := litW_new H.out h1 (.cells #[.int .i64 3, .string S, .int .i64 tn] 41 (0, 0))
    have HLW := Lib.hid hlw
    have H1 := Lib.hid h1
    clear h1 hlw HA
    go_wp2_with fail
    refine (HC.out _).mono ?_
    rintro e w2 ⟨rfl, h2⟩
    have HLW := Lib.hid (HLW.out.low h2)
    clear h2
    go_wp2_with fail
    refine (HT.out _).mono ?_
    rintro e w2 ⟨rfl, h2⟩
    have HLW := Lib.hid (HLW.out.low h2)
    clear h2
    obtain ⟨⟨x0, x1, x2, x3⟩, -, xf, -⟩ := HLW.out.cells
    go_wp2_with fail
    clear x0 x1 x2 x3 xf
    obtain ⟨r1, HH⟩ := HLW.out.set (.int .i64 3) (.int .i64 0) (.string S) (.slice none 0 0)
    refine (HP.out (by decide) _ r1).mono ?_
    rintro e w3 ⟨rfl, h3, h4⟩
    obtain ⟨⟨y0, y1, y2, y3⟩, ⟨z0, z1, z2, z3⟩, zf, HE⟩ := HH w3 _ h3 h4
    have HEE := Lib.hid HE
    clear HH HE r1 h3 h4 HP HLW
    go_wp2_with fail
    exact bodyPost_ret (v := .tuple #[V 3 0 S none 0 0, .bool true]) (by simp [results, Tryz.results151, go_sem, V, z0, z1, z2, z3]) rfl ⟨rfl, HEE.out _ _ _ _⟩
  have k3 : (tk == 3) = false := by simpa using h3
  clear HC HT
  by_cases h4 : tk = 4
  · subst h4
    have e : litP ⟨4, ts, tn⟩ = some ⟨4, tn, ⟨#[]⟩, none, 0, 0⟩ := rfl
    rw [e]
    clear e
    dsimp only [Val.v]
    go_enter Tryz.func151, Tryz.ntmps151
    go_wp2_with fail
    refine (HA.out _ (H.out.below HB0.out)).mono ?_
    rintro e w1 ⟨rfl, h1⟩
    have hlw := litW_new H.out h1 (.cells #[.int .i64 4, .string S, .int .i64 tn] 41 (0, 0))
    have HLW := Lib.hid hlw
    have H1 := Lib.hid h1
    clear h1 hlw HA
    go_wp2_with fail
    obtain ⟨r1, HH⟩ := HLW.out.set (.int .i64 4) (.int .i64 tn) (.string ⟨#[]⟩) (.slice none 0 0)
    rw [alloc_set4] at r1 HH
    refine (HP.out (by decide) _ r1).mono ?_
    rintro e w3 ⟨rfl, h3, h4⟩
    obtain ⟨⟨y0, y1, y2, y3⟩, ⟨z0, z1, z2, z3⟩, zf, HE⟩ := HH w3 _ h3 h4
    have HEE := Lib.hid HE
    clear HH HE r1 h3 h4 HP HLW
    go_wp2_with fail
    exact bodyPost_ret (v := .tuple #[V 4 tn ⟨#[]⟩ none 0 0, .bool true]) (by simp [results, Tryz.results151, go_sem, V, z0, z1, z2, z3]) rfl ⟨rfl, HEE.out _ _ _ _⟩
  have k4 : (tk == 4) = false := by simpa using h4
  by_cases h1 : tk = 1
  · subst h1
    by_cases ht : ts = kTrue
    · have e : litP ⟨1, ts, tn⟩ = some ⟨1, 1, ⟨#[]⟩, none, 0, 0⟩ := by rw [ht]; rfl
      rw [e]
      have qt : (ts == [116, 114, 117, 101]) = true := by rw [ht]; rfl
      have HTR := Lib.hid (fun W => truth_any true W)
      clear e ht
      dsimp only [Val.v]
      go_enter Tryz.func151, Tryz.ntmps151
      go_wp2_with fail
      refine (HA.out _ (H.out.below HB0.out)).mono ?_
      rintro e w1 ⟨rfl, h1⟩
      have hlw := litW_new H.out h1 (.cells #[.int .i64 1, .string S, .int .i64 tn] 41 (0, 0))
      have HLW := Lib.hid hlw
      have H1 := Lib.hid h1
      clear h1 hlw HA
      go_wp2_with fail
      refine (HTR.out _).mono ?_
      rintro e w2 ⟨rfl, h2⟩
      have HLW := Lib.hid (HLW.out.low h2)
      clear h2
      obtain ⟨⟨x0, x1, x2, x3⟩, -, xf, -⟩ := HLW.out.cells
      go_wp2_with fail
      clear x0 x1 x2 x3 xf
      obtain ⟨r1, HH⟩ := HLW.out.set (.int .i64 1) (.int .i64 1) (.string ⟨#[]⟩) (.slice none 0 0)
      refine (HP.out (by decide) _ r1).mono ?_
      rintro e w3 ⟨rfl, h3, h4⟩
      obtain ⟨⟨y0, y1, y2, y3⟩, ⟨z0, z1, z2, z3⟩, zf, HE⟩ := HH w3 _ h3 h4
      have HEE := Lib.hid HE
      clear HH HE r1 h3 h4 HP HLW
      go_wp2_with fail
      exact bodyPost_ret (v := .tuple #[V 1 1 ⟨#[]⟩ none 0 0, .bool true]) (by simp [results, Tryz.results151, go_sem, V, z0, z1, z2, z3]) rfl ⟨rfl, HEE.out _ _ _ _⟩
    · have qt : (ts == [116, 114, 117, 101]) = false := by simpa using ht
      by_cases hf : ts = kFalse
      · have e : litP ⟨1, ts, tn⟩ = some ⟨1, 0, ⟨#[]⟩, none, 0, 0⟩ := by rw [hf]; rfl
        rw [e]
        have qf : (ts == [102, 97, 108, 115, 101]) = true := by rw [hf]; rfl
        have HTR := Lib.hid (fun W => truth_any false W)
        clear e hf ht
        dsimp only [Val.v]
        go_enter Tryz.func151, Tryz.ntmps151
        go_wp2_with fail
        refine (HA.out _ (H.out.below HB0.out)).mono ?_
        rintro e w1 ⟨rfl, h1⟩
        have hlw := litW_new H.out h1 (.cells #[.int .i64 1, .string S, .int .i64 tn] 41 (0, 0))
        have HLW := Lib.hid hlw
        have H1 := Lib.hid h1
        clear h1 hlw HA
        go_wp2_with fail
        refine (HTR.out _).mono ?_
        rintro e w2 ⟨rfl, h2⟩
        have HLW := Lib.hid (HLW.out.low h2)
        clear h2
        obtain ⟨⟨x0, x1, x2, x3⟩, -, xf, -⟩ := HLW.out.cells
        go_wp2_with fail
        clear x0 x1 x2 x3 xf
        obtain ⟨r1, HH⟩ := HLW.out.set (.int .i64 1) (.int .i64 0) (.string ⟨#[]⟩) (.slice none 0 0)
        refine (HP.out (by decide) _ r1).mono ?_
        rintro e w3 ⟨rfl, h3, h4⟩
        obtain ⟨⟨y0, y1, y2, y3⟩, ⟨z0, z1, z2, z3⟩, zf, HE⟩ := HH w3 _ h3 h4
        have HEE := Lib.hid HE
        clear HH HE r1 h3 h4 HP HLW
        go_wp2_with fail
        exact bodyPost_ret (v := .tuple #[V 1 0 ⟨#[]⟩ none 0 0, .bool true]) (by simp [results, Tryz.results151, go_sem, V, z0, z1, z2, z3]) rfl ⟨rfl, HEE.out _ _ _ _⟩
      · have qf : (ts == [102, 97, 108, 115, 101]) = false := by simpa using hf
        have e : litP ⟨1, ts, tn⟩ = none := by simp [litP, ht, hf]
        rw [e]
        clear e hf ht
        dsimp only [Val.v, noVal]
        go_enter Tryz.func151, Tryz.ntmps151
        go_wp2_with fail
        refine (HA.out _ (H.out.below HB0.out)).mono ?_
        rintro e w1 ⟨rfl, h1⟩
        have hlw := litW_new H.out h1 (.cells #[.int .i64 1, .string S, .int .i64 tn] 41 (0, 0))
        have HLW := Lib.hid hlw
        have H1 := Lib.hid h1
        clear h1 hlw HA
        obtain ⟨z0, z1, z2, z3, zf, hl, hn, hn1⟩ := res_old H1.out
        go_wp2_with fail
        obtain ⟨x0, x1, x2, x3, hrd, hkp⟩ := none_end H.out H1.out (.cells #[.int .i64 1, .string S, .int .i64 tn] 41 (0, 0)) zero4
        clear z0 z1 z2 z3 zf hl hn hn1
        generalize World.alloc _ _ = WF at *
        exact bodyPost_ret (v := .tuple #[V 0 0 ⟨#[]⟩ none 0 0, .bool false]) (by simp [results, Tryz.results151, go_sem, V, x0, x1, x2, x3]) rfl ⟨rfl, hrd, hkp⟩
  · have k1 : (tk == 1) = false := by simpa using h1
    have e : litP ⟨tk, ts, tn⟩ = none := by simp [litP, k1, k2, k3, k4]
    rw [e]
    clear e
    dsimp only [Val.v, noVal]
    go_enter Tryz.func151, Tryz.ntmps151
    go_wp2_with fail
    refine (HA.out _ (H.out.below HB0.out)).mono ?_
    rintro e w1 ⟨rfl, h1⟩
    have hlw := litW_new H.out h1 (.cells #[.int .i64 tk, .string S, .int .i64 tn] 41 (0, 0))
    have HLW := Lib.hid hlw
    have H1 := Lib.hid h1
    clear h1 hlw HA
    obtain ⟨z0, z1, z2, z3, zf, hl, hn, hn1⟩ := res_old H1.out
    go_wp2_with fail
    obtain ⟨x0, x1, x2, x3, hrd, hkp⟩ := none_end H.out H1.out (.cells #[.int .i64 tk, .string S, .int .i64 tn] 41 (0, 0)) zero4
    clear z0 z1 z2 z3 zf hl hn hn1
    generalize World.alloc _ _ = WF at *
    exact bodyPost_ret (v := .tuple #[V 0 0 ⟨#[]⟩ none 0 0, .bool false]) (by simp [results, Tryz.results151, go_sem, V, x0, x1, x2, x3]) rfl ⟨rfl, hrd, hkp⟩
end Go.Proofs.YtllgodaphoncnaaGreatDoor
namespace Go.Proofs.YtllgodaphoncnaaGreatDoor
open Go.RowKit

/-- the result's own block, as it was made -/
structure ResW (I : RI) (w W : World) (p : PS) : Prop where
  rd : Rd I W p
  kept : Kept1 I.b w W
  res : W.heap[w.heap.size]? = some zero4
set_option maxRecDepth 100000 in
theorem ResW.go {I : RI} {w W W' : World} {p q : PS} (h0 : I.b < w.heap.size) (h : ResW I w W p) (hr : Rd I W' q) (hk : Kept1 I.b W W') : ResW I w W' q :=
  ⟨hr, h.kept.trans hk, (hk.block _ (lt_block h.res) (by omega)).trans h.res⟩
set_option maxRecDepth 100000 in
theorem ResW.low {I : RI} {w W W' : World} {p : PS} (h : ResW I w W p) (hb : Below W.heap.size W W') : ResW I w W' p :=
  ⟨h.rd.below hb, h.kept.trans (.of_below hb), (hb.block _ (lt_block h.res)).trans h.res⟩
set_option maxRecDepth 100000 in
theorem resW_new {I : RI} {w : World} {p : PS} (h : Rd I w p) : ResW I w (w.alloc zero4) p := by
  have hb0 : Below w.heap.size w (w.alloc zero4) := (Below.refl _ _).alloc (Nat.le_refl _) _
  exact ⟨h.below hb0, .of_below hb0, heap_alloc_new _ _⟩
set_option maxRecDepth 100000 in
theorem ResW.cells {I : RI} {w W : World} {p : PS} (h : ResW I w W p) :
    W.cell? ⟨w.heap.size, 0, none⟩ = some (.int .i64 0) ∧ W.cell? ⟨w.heap.size, 1, none⟩ = some (.int .i64 0) ∧ W.cell? ⟨w.heap.size, 2, none⟩ = some (.string ⟨#[]⟩) ∧ W.cell? ⟨w.heap.size, 3, none⟩ = some (.slice none 0 0) ∧ (∀ o, W.frozen? ⟨w.heap.size, o, none⟩ = false) :=
  ⟨cell_block h.res 0, cell_block h.res 1, cell_block h.res 2, cell_block h.res 3, fun o => by simp [World.frozen?, h.res]⟩
set_option maxRecDepth 100000 in
theorem ResW.fin {I : RI} {w W : World} {p q : PS} (h0 : Rd I w p) (h : ResW I w W q) (y0 y1 y2 y3 : Value) : Rd I (set4 W w.heap.size y0 y1 y2 y3) q ∧ Kept1 I.b w (set4 W w.heap.size y0 y1 y2 y3) :=
  h0.across h.rd h.kept (kept_set4 _ _ _ _ _) (Nat.le_refl _)
set_option maxRecDepth 100000 in
theorem ResW.finA {I : RI} {w W : World} {p q : PS} (h0 : Rd I w p) (h : ResW I w W q) (y0 y1 y2 y3 : Value) (o : Obj) :
    ((set4 W w.heap.size y0 y1 y2 y3).alloc o).cell? ⟨w.heap.size, 0, none⟩ = some y0 ∧ ((set4 W w.heap.size y0 y1 y2 y3).alloc o).cell? ⟨w.heap.size, 1, none⟩ = some y1 ∧ ((set4 W w.heap.size y0 y1 y2 y3).alloc o).cell? ⟨w.heap.size, 2, none⟩ = some y2 ∧ ((set4 W w.heap.size y0 y1 y2 y3).alloc o).cell? ⟨w.heap.size, 3, none⟩ = some y3 ∧
    Rd I ((set4 W w.heap.size y0 y1 y2 y3).alloc o) q ∧ Kept1 I.b w ((set4 W w.heap.size y0 y1 y2 y3).alloc o) := by
  obtain ⟨r1, k1⟩ := h.fin h0 y0 y1 y2 y3
  have gs := heap_set4 h.res y0 y1 y2 y3
  unfold set4 at *
  generalize World.setCell _ _ _ = V at *
  have hbW : Below V.heap.size V (V.alloc o) := (Below.refl _ _).alloc (Nat.le_refl _) _
  have gF := (hbW.block _ (lt_block gs)).trans gs
  exact ⟨cell_block gF 0, cell_block gF 1, cell_block gF 2, cell_block gF 3, r1.below hbW, k1.trans (.of_below hbW)⟩
set_option maxRecDepth 100000 in
theorem lit_none {T : List Tk} {p : PS} (h : litP (aheadP T p) = none) : literalP T p = ((noVal, false), p) := by unfold literalP; rw [h]
set_option maxRecDepth 100000 in
theorem lit_some {T : List Tk} {p : PS} {v : Val} (h : litP (aheadP T p) = some v) : literalP T p = ((v, true), passP p) := by unfold literalP; rw [h]
set_option maxRecDepth 100000 in
theorem stop_err {p : PS} : (stopP p).err ≠ none := by
  unfold stopP failP
  cases h : p.err with
  | none => simp
  | some x => simp [h]
set_option maxRecDepth 100000 in
theorem stop_stop (p : PS) : stopP (stopP p) = stopP p := (adv_stop (T := []) _).stay stop_err
set_option maxRecDepth 100000 in
theorem litP_shape {t : Tk} {v : Val} (h : litP t = some v) : v.a = none ∧ v.n = 0 ∧ v.c = 0 := by
  unfold litP at h
  split at h
  · obtain rfl := Option.some.inj h; exact ⟨rfl, rfl, rfl⟩
  · split at h
    · obtain rfl := Option.some.inj h; exact ⟨rfl, rfl, rfl⟩
    · split at h
      · obtain rfl := Option.some.inj h; exact ⟨rfl, rfl, rfl⟩
      · split at h
        · obtain rfl := Option.some.inj h; exact ⟨rfl, rfl, rfl⟩
        · cases h
set_option maxRecDepth 100000 in
theorem ahead_num {T : List Tk} (hw : ∀ t ∈ T, t.Wide) {p : PS} (h : (aheadP T p).k = 2) : 0 ≤ (aheadP T p).n ∧ (aheadP T p).n ≤ 9223372036854775807 := by
  obtain ⟨-, hl, e, hf⟩ := ahead_ne (T := T) (p := p) (by rw [h]; decide)
  rw [e] at h ⊢
  have := hw _ (List.getElem_mem hl)
  unfold formB at hf
  rw [if_neg (by rw [h]; decide), if_pos h] at hf
  simp only [Bool.and_eq_true, decide_eq_true_eq] at hf
  exact ⟨hf.2, this.n1⟩
set_option maxRecDepth 100000 in
theorem fld0 (k : Int) (s : ByteArray) (n : Int) (W : World) : (Instr.field 41 (.agg #[.int .i64 k, .string s, .int .i64 n]) 0).run Tryz.prog W = .ok (.int .i64 k) W := by kernel_rfl
set_option maxRecDepth 100000 in
set_option maxHeartbeats 4000000 in
theorem member_any (I : RI) (w : World) (p : PS) (h : Rd I w p) :
    Calls Tryz.prog 160 #[I.ptr] w fun e w' => e = .returned (memberP I.T p).1.v ∧ Rd I w' (memberP I.T p).2 ∧ Kept1 I.b w w' := by
  have HTK := Lib.hid (fun W (hr : Rd I W p) => takes_any I W p hr kMinus)
  have HAH := Lib.hid (fun W q (hr : Rd I W q) => ahead_any I W q hr)
  have HLI := Lib.hid (fun W q (hr : Rd I W q) => literal_any I W q hr)
  have HST := Lib.hid (fun W q (hr : Rd I W q) => stop_any I W q hr)
  have H := Lib.hid h
  have HR0 := Lib.hid (resW_new h)
  have HLT := Lib.hid h.lt
  clear h
  unfold memberP
  by_cases hm : isP (aheadP I.T p) kMinus = true
  · rw [if_pos hm]
    have HTK' := HTK.out
    rw [takes_yes hm, hm] at HTK'
    have HTK := Lib.hid HTK'
    clear HTK' hm
    obtain ⟨q, hq⟩ : ∃ q, passP p = q := ⟨_, rfl⟩
    rw [hq] at HTK ⊢
    clear hq
    have HAQ := Lib.hid (fun W (hr : Rd I W q) => HAH.out W q hr)
    clear HAH
    by_cases hk : (aheadP I.T q).k = 2
    · have hn := ahead_num I.wide hk
      rw [if_pos (by rw [hk]; rfl)]
      obtain ⟨t, ht⟩ : ∃ t, aheadP I.T q = t := ⟨_, rfl⟩
      rw [ht] at hk hn ⊢
      have hl : literalP I.T q = ((⟨2, t.n, ⟨#[]⟩, none, 0, 0⟩, true), passP q) := lit_some (by rw [ht]; unfold litP; rw [hk]; rfl)
      have HAQ' := HAQ.out
      rw [ht, tok_val, hk] at HAQ'
      have HAQ := Lib.hid HAQ'
      have HLQ' := fun W => HLI.out W q
      rw [hl] at HLQ'
      have HLQ := Lib.hid HLQ'
      have hwrap : IntKind.i64.wrap (-t.n) = -t.n := IntWalk.i64_in _ (by omega)
      have HNU := Lib.hid (fun W => number_any (-t.n) W)
      clear HAQ' HLQ' hl ht hk HLI
      generalize st t.s = S at *
      generalize t.n = n at *
      clear t
      dsimp only [Val.v] at *
      unfold RI.ptr at *
      go_enter Tryz.func160, Tryz.ntmps160
      go_wp2_with fail
      refine (HTK.out _ HR0.out.rd).mono ?_
      rintro e w1 ⟨rfl, h1, h2⟩
      have HR0 := Lib.hid (HR0.out.go HLT.out h1 h2)
      clear h1 h2
      go_wp2_with fail
      refine (HAQ.out _ HR0.out.rd).mono ?_
      rintro e w1 ⟨rfl, h1⟩
      have HR0 := Lib.hid (HR0.out.low h1)
      clear h1
      have hfl := fld0 2 S n
      go_wp2_with fail
      refine (HLQ.out _ HR0.out.rd).mono ?_
      rintro e w1 ⟨rfl, h1, h2⟩
      have HR0 := Lib.hid (HR0.out.go HLT.out h1 h2)
      clear h1 h2
      have hg := w1.heap.size
      clear hg
      have HR0 := Lib.hid (HR0.out.low ((Below.refl _ _).alloc (Nat.le_refl _) (.cells #[.int .i64 2, .int .i64 n, .string ⟨#[]⟩, .slice none 0 0] 24 (0, 0))))
      go_wp2_with fail
      refine (HNU.out _).mono ?_
      rintro e w1 ⟨rfl, h1⟩
      have HR0 := Lib.hid (HR0.out.low h1)
      clear h1
      obtain ⟨z0, z1, z2, z3, zf⟩ := HR0.out.cells
      go_wp2_with fail
      exact bodyPost_ret (v := V 2 (-n) ⟨#[]⟩ none 0 0) (by simp [results, Tryz.results160, go_sem, V, z0, z1, z2, z3]) rfl ⟨rfl, HR0.out.fin H.out _ _ _ _⟩
    · rw [if_neg (by simpa using hk)]
      have hl : literalP I.T (stopP q) = ((noVal, false), stopP q) := lit_none (by rw [ahead_err stop_err]; rfl)
      obtain ⟨t, ht⟩ : ∃ t, aheadP I.T q = t := ⟨_, rfl⟩
      rw [ht] at hk
      have HAQ' := HAQ.out
      rw [ht, tok_val] at HAQ'
      have HAQ := Lib.hid HAQ'
      have HLQ' := fun W => HLI.out W (stopP q)
      rw [hl] at HLQ'
      have HLQ := Lib.hid HLQ'
      have HNU := Lib.hid (fun W => number_any 0 W)
      have HSS := Lib.hid (fun W (hr : Rd I W (stopP q)) => HST.out W _ hr)
      have HSS' := HSS.out
      rw [stop_stop] at HSS'
      have HSS := Lib.hid HSS'
      have hwrap : IntKind.i64.wrap (-0) = 0 := by decide
      have k2 : (t.k != 2) = true := by simpa using hk
      clear HAQ' HLQ' hl ht hk HLI HSS'
      generalize st t.s = S at *
      generalize t.n = n at *
      generalize t.k = tk at *
      clear t
      dsimp only [Val.v, noVal] at *
      unfold RI.ptr at *
      go_enter Tryz.func160, Tryz.ntmps160
      go_wp2_with fail
      refine (HTK.out _ HR0.out.rd).mono ?_
      rintro e w1 ⟨rfl, h1, h2⟩
      have HR0 := Lib.hid (HR0.out.go HLT.out h1 h2)
      clear h1 h2
      go_wp2_with fail
      refine (HAQ.out _ HR0.out.rd).mono ?_
      rintro e w1 ⟨rfl, h1⟩
      have HR0 := Lib.hid (HR0.out.low h1)
      clear h1
      have hfl := fld0 tk S n
      go_wp2_with fail
      refine (HST.out _ _ HR0.out.rd).mono ?_
      rintro e w1 ⟨rfl, h1, h2⟩
      have HR0 := Lib.hid (HR0.out.go HLT.out h1 h2)
      clear h1 h2
      go_wp2_with fail
      refine (HLQ.out _ HR0.out.rd).mono ?_
      rintro e w1 ⟨rfl, h1, h2⟩
      have HR0 := Lib.hid (HR0.out.go HLT.out h1 h2)
      clear h1 h2
      have HR0 := Lib.hid (HR0.out.low ((Below.refl _ _).alloc (Nat.le_refl _) (.cells #[.int .i64 0, .int .i64 0, .string ⟨#[]⟩, .slice none 0 0] 24 (0, 0))))
      go_wp2_with fail
      have gv0 : (w1.alloc zero4).heap[w1.heap.size]? = some zero4 := heap_alloc_new _ _
      have hne : w1.heap.size ≠ I.b := by have := HR0.out.rd.lt; have := HLT.out; have := HR0.out.kept.size; simp at this; have := lt_block HR0.out.res; simp at this; omega
      refine (HSS.out _ HR0.out.rd).mono ?_
      rintro e w2 ⟨rfl, h1, h2⟩
      have gv := (h2.block _ (by simp) hne).trans gv0
      have v1 : w2.cell? ⟨w1.heap.size, 1, none⟩ = some (.int .i64 0) := cell_block gv 1
      have HR0 := Lib.hid (HR0.out.go HLT.out h1 h2)
      clear h1 h2 gv gv0 hne
      go_wp2_with fail
      refine (HNU.out _).mono ?_
      rintro e w1 ⟨rfl, h1⟩
      have HR0 := Lib.hid (HR0.out.low h1)
      clear h1
      obtain ⟨z0, z1, z2, z3, zf⟩ := HR0.out.cells
      go_wp2_with fail
      exact bodyPost_ret (v := V 2 0 ⟨#[]⟩ none 0 0) (by simp [results, Tryz.results160, go_sem, V, z0, z1, z2, z3]) rfl ⟨rfl, HR0.out.fin H.out _ _ _ _⟩
  · rw [if_neg hm]
    have hm' : isP (aheadP I.T p) kMinus = false := by simpa using hm
    have HTK' := HTK.out
    rw [takes_no hm', hm'] at HTK'
    have HTK := Lib.hid HTK'
    clear HTK' hm hm' HAH
    cases hl : litP (aheadP I.T p) with
    | some v =>
      have hl' := lit_some hl
      have HLQ' := fun W => HLI.out W p
      rw [hl'] at HLQ'
      have HLQ := Lib.hid HLQ'
      obtain ⟨ha, hb, hc⟩ := litP_shape hl
      obtain ⟨k, i, s, a, n, c⟩ := v
      dsimp only at ha hb hc
      subst ha hb hc
      clear HLQ' hl hl' HLI
      dsimp only [Val.v] at *
      unfold RI.ptr at *
      go_enter Tryz.func160, Tryz.ntmps160
      go_wp2_with fail
      refine (HTK.out _ HR0.out.rd).mono ?_
      rintro e w1 ⟨rfl, h1, h2⟩
      have HR0 := Lib.hid (HR0.out.go HLT.out h1 h2)
      clear h1 h2
      go_wp2_with fail
      refine (HLQ.out _ HR0.out.rd).mono ?_
      rintro e w1 ⟨rfl, h1, h2⟩
      have HR0 := Lib.hid (HR0.out.go HLT.out h1 h2)
      clear h1 h2
      obtain ⟨z0, z1, z2, z3, zf⟩ := HR0.out.cells
      have hl : w.heap.size < w1.heap.size := lt_block HR0.out.res
      have hn : ¬ w.heap.size = w1.heap.size := by omega
      go_wp2_with fail
      obtain ⟨x0, x1, x2, x3, hrd, hkp⟩ := HR0.out.finA H.out (.int .i64 k) (.int .i64 i) (.string s) (.slice none 0 0) (.cells #[.int .i64 k, .int .i64 i, .string s, .slice none 0 0] 24 (0, 0))
      clear z0 z1 z2 z3 zf hl hn
      generalize World.alloc _ _ = WF at *
      exact bodyPost_ret (v := V k i s none 0 0) (by simp [results, Tryz.results160, go_sem, V, x0, x1, x2, x3]) rfl ⟨rfl, hrd, hkp⟩
    | none =>
      have hl' := lit_none hl
      have HLQ' := fun W => HLI.out W p
      rw [hl'] at HLQ'
      have HLQ := Lib.hid HLQ'
      clear HLQ' hl hl' HLI
      dsimp only [Val.v, noVal] at *
      unfold RI.ptr at *
      go_enter Tryz.func160, Tryz.ntmps160
      go_wp2_with fail
      refine (HTK.out _ HR0.out.rd).mono ?_
      rintro e w1 ⟨rfl, h1, h2⟩
      have HR0 := Lib.hid (HR0.out.go HLT.out h1 h2)
      clear h1 h2
      go_wp2_with fail
      refine (HLQ.out _ HR0.out.rd).mono ?_
      rintro e w1 ⟨rfl, h1, h2⟩
      have HR0 := Lib.hid (HR0.out.go HLT.out h1 h2)
      clear h1 h2
      have HR0 := Lib.hid (HR0.out.low ((Below.refl _ _).alloc (Nat.le_refl _) (.cells #[.int .i64 0, .int .i64 0, .string ⟨#[]⟩, .slice none 0 0] 24 (0, 0))))
      go_wp2_with fail
      have gv0 : (w1.alloc zero4).heap[w1.heap.size]? = some zero4 := heap_alloc_new _ _
      have hne : w1.heap.size ≠ I.b := by have := HR0.out.rd.lt; have := HLT.out; have := HR0.out.kept.size; simp at this; have := lt_block HR0.out.res; simp at this; omega
      refine (HST.out _ _ HR0.out.rd).mono ?_
      rintro e w2 ⟨rfl, h1, h2⟩
      have gv := (h2.block _ (by simp) hne).trans gv0
      have v0 : w2.cell? ⟨w1.heap.size, 0, none⟩ = some (.int .i64 0) := cell_block gv 0
      have v1 : w2.cell? ⟨w1.heap.size, 1, none⟩ = some (.int .i64 0) := cell_block gv 1
      have v2 : w2.cell? ⟨w1.heap.size, 2, none⟩ = some (.string ⟨#[]⟩) := cell_block gv 2
      have v3 : w2.cell? ⟨w1.heap.size, 3, none⟩ = some (.slice none 0 0) := cell_block gv 3
      have HR0 := Lib.hid (HR0.out.go HLT.out h1 h2)
      clear h1 h2 gv gv0 hne
      obtain ⟨z0, z1, z2, z3, zf⟩ := HR0.out.cells
      go_wp2_with fail
      exact bodyPost_ret (v := V 0 0 ⟨#[]⟩ none 0 0) (by simp [results, Tryz.results160, go_sem, V, z0, z1, z2, z3]) rfl ⟨rfl, HR0.out.fin H.out _ _ _ _⟩
end Go.Proofs.YtllgodaphoncnaaGreatDoor
